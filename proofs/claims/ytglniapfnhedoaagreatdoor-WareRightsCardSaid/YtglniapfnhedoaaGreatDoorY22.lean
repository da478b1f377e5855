/-
 Contracts and what they rest on.
-/
import Derived.OwnWalk
import Derived.Test.YtglniapfnhedoaaGreatDoorY21
namespace Go.Proofs.YtglniapfnhedoaaGreatDoor
open Go.RowKit
set_option linter.unusedVariables false
theorem askF_nat (r : Bool) (p q a k : Nat) : ∃ p' q' : Nat, askF r (p : Int) (q : Int) (a : Int) (k : Int) = ((p' : Int), (q' : Int)) := by
 unfold askF
 split
 ·exact ⟨a, k, rfl⟩
 ·exact ⟨p, q, rfl⟩
theorem fa4_nat (ok : Bool) (k : Nat) (xn : Wd) (a0 a1 b0 b1 c0 c1 : Int) (xa xb xc : Wd) : ∃ p q : Nat, fa4 ok k xn a0 a1 b0 b1 c0 c1 xa xb xc = ((p : Int), (q : Int)) := by
 unfold fa4
 obtain ⟨p1, q1, e1⟩ := askF_nat ok 0 0 xn.1 k
 rw [show (0 : Int) = ((0 : Nat) : Int) from rfl, e1]
 obtain ⟨p2, q2, e2⟩ := askF_nat (numIn a0 a1 (strB xa.2)) p1 q1 xa.1 20
 rw [show (20 : Int) = ((20 : Nat) : Int) from rfl, e2]
 obtain ⟨p3, q3, e3⟩ := askF_nat (numIn b0 b1 (strB xb.2)) p2 q2 xb.1 20
 rw [e3]
 exact askF_nat _ p3 q3 xc.1 20
theorem fa2_nat (ok : Bool) (x1 x2 : Wd) : ∃ p q : Nat, fa2 ok x1 x2 = ((p : Int), (q : Int)) := by
 unfold fa2
 obtain ⟨p1, q1, e1⟩ := askF_nat ok 0 0 x1.1 26
 rw [show (0 : Int) = ((0 : Nat) : Int) from rfl, show (26 : Int) = ((26 : Nat) : Int) from rfl, e1]
 exact askF_nat _ p1 q1 x2.1 20
theorem fas_nat : ∀ (l : List Wd) (p q : Nat), ∃ p' q' : Nat, fas l ((p : Int), (q : Int)) = ((p' : Int), (q' : Int))
 | [], p, q => ⟨p, q, rfl⟩
 | x :: l, p, q => by
  obtain ⟨p1, q1, e1⟩ := askF_nat (numOk (strB x.2)) p q x.1 20
  show ∃ p' q' : Nat, fas l (askF (numOk (strB x.2)) (p : Int) (q : Int) x.1 20) = _
  rw [show (20 : Int) = ((20 : Nat) : Int) from rfl, e1]
  exact fas_nat l p1 q1
theorem fa4_ok {ok : Bool} {k : Int} {xn : Wd} {a0 a1 b0 b1 c0 c1 : Int} {xa xb xc : Wd} (hk : k ≠ 0) (h : (fa4 ok k xn a0 a1 b0 b1 c0 c1 xa xb xc).2 = 0) : ok = true ∧ numIn a0 a1 (strB xa.2) = true ∧ numIn b0 b1 (strB xb.2) = true ∧ numIn c0 c1 (strB xc.2) = true ∧ (fa4 ok k xn a0 a1 b0 b1 c0 c1 xa xb xc).1 = 0 := by
 unfold fa4 askF at *
 cases ok <;> cases hB : numIn a0 a1 (strB xa.2) <;> cases hC : numIn b0 b1 (strB xb.2) <;> cases hD : numIn c0 c1 (strB xc.2) <;> simp_all
theorem fa2_ok {ok : Bool} {x1 x2 : Wd} (h : (fa2 ok x1 x2).2 = 0) : ok = true ∧ numIn 0 20000000 (strB x2.2) = true ∧ (fa2 ok x1 x2).1 = 0 := by
 unfold fa2 askF at *
 cases ok <;> cases hB : numIn 0 20000000 (strB x2.2) <;> simp_all
theorem fas_ok : ∀ (l : List Wd), (fas l (0, 0)).2 = 0 → (fas l (0, 0)).1 = 0
 | [], _ => rfl
 | x :: l, h => by
  have e : fas (x :: l) (0, 0) = fas l (askF (numOk (strB x.2)) 0 0 x.1 20) := rfl
  rw [e] at h ⊢
  cases ho : numOk (strB x.2)
  ·exfalso
   rw [ho] at h
   have keep : ∀ (l : List Wd) (p : Int), fas l (p, 20) = (p, 20) := fun l => by
    induction l with
    | nil => intro p; rfl
    | cons y l ih =>
     intro p
     show fas l (askF _ p 20 _ 20) = _
     have : askF (numOk (strB y.2)) p 20 y.1 20 = (p, 20) := by unfold askF; rw [if_neg (by simp)]
     rw [this, ih]
   have e2 : askF false 0 0 (x.1 : Int) 20 = ((x.1 : Int), 20) := rfl
   rw [e2, keep] at h
   simp at h
  ·rw [ho] at h
   have e2 : askF true 0 0 (x.1 : Int) 20 = (0, 0) := rfl
   rw [e2] at h ⊢
   exact fas_ok l h
theorem numIn_in {lo hi : Int} {s : ByteArray} (h : numIn lo hi s = true) : lo ≤ (numV s : Int) ∧ (numV s : Int) ≤ hi := by
 unfold numIn at h
 simp only [Bool.and_eq_true, decide_eq_true_eq] at h
 exact ⟨h.1.2, h.2⟩
theorem st_fault {w : World} {base S bw bt bf : Nat} {wv tv fv pv : Value} {head : Int} {d : Dk} {nw nt : List ByteArray} {fl : List Fl} {ss tt : List Value} {H : Nat} {x y : Value} (ho : w.heap[H]? = some (.cells #[.int .i64 0, .int .i64 0] 98 (0, 0)))
  (h : StAt w base S bw bt bf wv tv fv pv head d nw nt fl ss tt) : StAt ((w.setCell ⟨H, 0, none⟩ x).setCell ⟨H, 1, none⟩ y) base S bw bt bf wv tv fv pv head d nw nt fl ss tt :=
 h.tn (K := [some 98]) (b := 0) (Tn.set (p := ⟨H, 1, none⟩) (Tn.set (p := ⟨H, 0, none⟩) (Tn.refl _ 0 _) ho (by decide) (Nat.zero_le _) x) (obj_set ho 0 x) (by decide) (Nat.zero_le _) y) (by decide) (by decide) (by decide) (by decide) (by decide) (by decide)
section
variable (Wb w : World) (base S bw bt bf : Nat) (v : Value) (k : Wd) (l : List Wd) (d : Dk) (o f n : Nat) (hb : Wb.heap.size ≤ base) (hB : B Wb w) (hbw : base ≤ w.heap.size) (hv : IsWd Wb v (k :: l)) (hL : LnSt w base S bw bt bf d o f) (hN : DkN d n) (hn : n ≤ 65536) (hlong : ∀ x ∈ l, x.2.length ≤ 65536)
include hb hB hbw hv hL hN hn hlong
theorem ln_Ware (hk : k.2 = kWare) : Calls Tryz.prog 45 #[.pointer (some ⟨S, 0, none⟩), v] w (LnPost base S bw bt bf n (stepD (k :: l) d o f) w) := by
 have un := hn
 have ul := hlong
 obtain ⟨wv, tv, fv, pv, head, ss, tt, hS, hO, hh⟩ := hL
 have e1 : stepD (k :: l) d o f = if wholeD d o = false then .error (f, 23) else match recW d.ws 8 8 12 1000000 (k :: l) with
   | .error e => .error e
   | .ok w => .ok ({ d with ws := d.ws ++ [w] }, 1, k.1) := by
  unfold stepD
  simp only [hk, kWare, kTip, kRound, kBox]
  simp
  rfl
 have hlS : lenS (strB k.2) = 5 := by unfold lenS; rw [strB_toList, hk]; rfl
 have hr : ((strB k.2).toList == [114, 111, 117, 110, 100]) = false := by rw [strB_toList, hk]; rfl
 have hbx : ((strB k.2).toList == [98, 111, 120]) = false := by rw [strB_toList, hk]; rfl
 have hkWare : ((strB k.2).toList == [119, 97, 114, 101]) = true := by rw [strB_toList, hk]; rfl
 have hfS : fullS (strB k.2) d.ws.length d.ts.length = decide (d.ws.length = 8) := by unfold fullS; rw [strB_toList, hk]; rfl
 cases hw : wholeD d o
 ·rw [e1, if_pos hw]
  have ho : o ≠ 0 := by rintro rfl; cases hw
  refine (line_shape Wb w base S v k l head 23 (fun w' => S < w'.heap.size) hb hB hbw hv (fun _ h => h) hr hbx (by decide) (fin_no hS hO hw)).mono ?_
  rintro r w' ⟨rfl, t⟩
  exact ⟨_, _, rfl, t, hh ho, rfl, by simp⟩
 rw [e1, if_neg (by rw [hw]; simp)]
 have hPB : ∀ w' w'' : World, B w' w'' → StAt w' base S bw bt bf wv tv fv (.pointer none) head d (d.ws.map (·.n)) (d.ts.map (·.n)) d.fs ss tt → StAt w'' base S bw bt bf wv tv fv (.pointer none) head d (d.ws.map (·.n)) (d.ts.map (·.n)) d.fs ss tt := fun _ _ q h => h.b q
 by_cases h4 : l.length = 4
 ·obtain ⟨xn, xa, xb, xc, rfl⟩ : ∃ a b c e, l = [a, b, c, e] := by
   rcases l with _ | ⟨a, _ | ⟨b, _ | ⟨c, _ | ⟨e, _ | ⟨z, l⟩⟩⟩⟩⟩
   ·simp at h4
   ·simp at h4
   ·simp at h4
   ·simp at h4
   ·exact ⟨a, b, c, e, rfl⟩
   ·simp at h4
  by_cases hfull : 8 ≤ d.ws.length
  ·have e2 : recW d.ws 8 8 12 1000000 [k, xn, xa, xb, xc] = .error (k.1, 27) := by unfold recW; simp only [if_pos hfull]
   rw [e2]
   have h8 : d.ws.length = 8 := by have := hN.w8; omega
   refine (line_full Wb w base S v k _ (fun w' => StAt w' base S bw bt bf wv tv fv (.pointer none) head d (d.ws.map (·.n)) (d.ts.map (·.n)) d.fs ss tt) hb hB hbw hv (fun _ h => obj_lt h.obj) hr hbx (by rw [hlS]; rfl) (fin_yes hS hO hw) hPB (fun w' h => by
    have := full_st h (strB k.2)
    rwa [hfS, decide_eq_true h8] at this)).mono ?_
   rintro r w' ⟨rfl, t⟩
   exact ⟨_, _, rfl, t, rfl, rfl, by simp⟩
  ·have e2 := rec_fault d.ws 8 8 12 1000000 k xn xa xb xc (by omega)
   rw [e2]
   clear e2
   have hlt : ¬ d.ws.length = 8 := by omega
   refine (line_Ware Wb w base S v k _ (fa4 (nameS (strB xn.2) && !namedL (d.ws.map (·.n)) (strB xn.2)) 25 xn 1 8 1 12 0 1000000 xa xb xc).1 (fa4 (nameS (strB xn.2) && !namedL (d.ws.map (·.n)) (strB xn.2)) 25 xn 1 8 1 12 0 1000000 xa xb xc).2 (fun w' => StAt w' base S bw bt bf wv tv fv (.pointer none) head d (d.ws.map (·.n)) (d.ts.map (·.n)) d.fs ss tt)
    (fun w' => ∃ g cap, StAt w' base S bw bt bf (.slice (some ⟨g, 0, none⟩) (d.ws.length + 1) cap) tv fv (.pointer (some ⟨g, d.ws.length * 5 + 4, none⟩)) ((k.1 : Nat) : Int) { d with ws := d.ws ++ [⟨strB xn.2, (numV (strB xa.2) : Nat), (numV (strB xb.2) : Nat), (numV (strB xc.2) : Nat), []⟩] } (addN (d.ws.map (·.n)) (strB xn.2)) (d.ts.map (·.n)) d.fs (ss ++ [.slice none 0 0]) tt) hb hB hbw hv (fun _ h => obj_lt h.obj) hr hbx (by rw [hlS]; rfl) hkWare (fin_yes hS hO hw) hPB (fun w' h => by
    have := full_st h (strB k.2)
    rwa [hfS, decide_eq_false hlt] at this) (by simp) (fun w' R hB' hb' hR hRd hP => (addWare_any Wb w' base R S bw bt bf wv tv fv (.pointer none) head ((k.1 : Nat) : Int) d (d.ws.map (·.n)) (d.ts.map (·.n)) d.fs ss tt xn xa xb xc hb hB' hb' hR hRd hP (by rw [List.length_map]; have := hN.w8; omega) (by have := hN.w8; omega) (hlong xn (by simp))).mono ?_)
    (fun w' H x y ho ⟨g, cap, h⟩ => ⟨g, cap, st_fault ho h⟩)).mono ?_
   ·rintro r w'' ⟨rfl, g, cap, hRd2, hS2, t2⟩
    obtain ⟨vv, hvv, _⟩ := hRd2
    exact ⟨rfl, ⟨vv, hvv⟩, ⟨g, cap, hS2⟩, t2⟩
   ·rintro r w' ⟨rfl, ⟨g, cap, hS2⟩, t⟩
    refine ⟨_, _, rfl, t, ?_⟩
    obtain ⟨p, q, hpq⟩ := fa4_nat (nameS (strB xn.2) && !namedL (d.ws.map (·.n)) (strB xn.2)) 25 xn 1 8 1 12 0 1000000 xa xb xc
    by_cases h0 : (fa4 (nameS (strB xn.2) && !namedL (d.ws.map (·.n)) (strB xn.2)) 25 xn 1 8 1 12 0 1000000 xa xb xc).2 = 0
    ·obtain ⟨a1, a2, a3, a4, a5⟩ := fa4_ok (by decide) h0
     rw [if_pos (by exact h0)]
     refine ⟨a5, h0, ⟨_, _, _, _, _, _, _, hS2.eqv rfl rfl rfl ?_ ?_ rfl, ?_, fun _ => rfl⟩, ?_⟩
     ·rw [addN_yes a1]
      simp
     ·rfl
     ·exact .inr (.inl ⟨rfl, d.ws, _, g, cap, rfl, rfl, rfl⟩)
     ·have i1 := numIn_in a2
      have i2 := numIn_in a3
      rw [Bool.and_eq_true] at a1
      refine ⟨fun x hx => ?_, by simp; omega, hN.t4, Nat.le_trans hN.fn (Nat.le_succ _), fun x hx => ?_, fun x hx => Nat.le_trans (hN.tn x hx) (Nat.le_succ _)⟩
      ·rcases List.mem_append.1 hx with hx | hx
       ·exact hN.ok x hx
       ·obtain rfl := List.mem_singleton.1 hx
        exact ⟨a1.1, i1.1, i1.2, i2.1, i2.2⟩
      ·rcases List.mem_append.1 hx with hx | hx
       ·exact Nat.le_trans (hN.wn x hx) (Nat.le_succ _)
       ·obtain rfl := List.mem_singleton.1 hx
        exact Nat.zero_le _
    ·rw [if_neg (by exact h0)]
     have hpq' : (fa4 (nameS (strB xn.2) && !namedL (d.ws.map (·.n)) (strB xn.2)) 25 xn 1 8 1 12 0 1000000 xa xb xc) = ((p : Int), (q : Int)) := hpq
     have hz : faultE (fa4 (nameS (strB xn.2) && !namedL (d.ws.map (·.n)) (strB xn.2)) 25 xn 1 8 1 12 0 1000000 xa xb xc) = (p, q) := by rw [hpq']; rfl
     refine ⟨?_, ?_, ?_⟩
     ·show (fa4 (nameS (strB xn.2) && !namedL (d.ws.map (·.n)) (strB xn.2)) 25 xn 1 8 1 12 0 1000000 xa xb xc).1 = (((faultE (fa4 (nameS (strB xn.2) && !namedL (d.ws.map (·.n)) (strB xn.2)) 25 xn 1 8 1 12 0 1000000 xa xb xc)).1 : Nat) : Int)
      rw [hz, hpq']
     ·show (fa4 (nameS (strB xn.2) && !namedL (d.ws.map (·.n)) (strB xn.2)) 25 xn 1 8 1 12 0 1000000 xa xb xc).2 = (((faultE (fa4 (nameS (strB xn.2) && !namedL (d.ws.map (·.n)) (strB xn.2)) 25 xn 1 8 1 12 0 1000000 xa xb xc)).2 : Nat) : Int)
      rw [hz, hpq']
     ·show (faultE (fa4 (nameS (strB xn.2) && !namedL (d.ws.map (·.n)) (strB xn.2)) 25 xn 1 8 1 12 0 1000000 xa xb xc)).2 ≠ 0
      rw [hz]
      intro e
      apply h0
      rw [hpq']
      simp only at e ⊢
      omega
 ·have e2 : recW d.ws 8 8 12 1000000 (k :: l) = .error (k.1, 24) := by
   rcases l with _ | ⟨a, _ | ⟨b, _ | ⟨c, _ | ⟨e, _ | ⟨z, l⟩⟩⟩⟩⟩
   ·rfl
   ·rfl
   ·rfl
   ·rfl
   ·simp at h4
   ·rfl
  rw [e2]
  refine (line_word Wb w base S v k l (fun w' => StAt w' base S bw bt bf wv tv fv (.pointer none) head d (d.ws.map (·.n)) (d.ts.map (·.n)) d.fs ss tt) hb hB hbw hv (fun _ h => obj_lt h.obj) hr hbx (by rw [hlS]; rw [beq_eq_false_iff_ne]; omega) (fin_yes hS hO hw) hPB).mono ?_
  rintro r w' ⟨rfl, t⟩
  exact ⟨_, _, rfl, t, rfl, rfl, by simp⟩
theorem ln_Tip (hk : k.2 = kTip) : Calls Tryz.prog 45 #[.pointer (some ⟨S, 0, none⟩), v] w (LnPost base S bw bt bf n (stepD (k :: l) d o f) w) := by
 have un := hn
 have ul := hlong
 obtain ⟨wv, tv, fv, pv, head, ss, tt, hS, hO, hh⟩ := hL
 have e1 : stepD (k :: l) d o f = if wholeD d o = false then .error (f, 23) else match recW d.ts 4 20000000 60000 10000 (k :: l) with
   | .error e => .error e
   | .ok w => .ok ({ d with ts := d.ts ++ [w] }, 2, k.1) := by
  unfold stepD
  simp only [hk, kWare, kTip, kRound, kBox]
  simp
  rfl
 have hlS : lenS (strB k.2) = 5 := by unfold lenS; rw [strB_toList, hk]; rfl
 have hr : ((strB k.2).toList == [114, 111, 117, 110, 100]) = false := by rw [strB_toList, hk]; rfl
 have hbx : ((strB k.2).toList == [98, 111, 120]) = false := by rw [strB_toList, hk]; rfl
 have hkW : ((strB k.2).toList == [119, 97, 114, 101]) = false := by rw [strB_toList, hk]; rfl
 have hkTip : ((strB k.2).toList == [116, 105, 112]) = true := by rw [strB_toList, hk]; rfl
 have hfS : fullS (strB k.2) d.ws.length d.ts.length = decide (d.ts.length = 4) := by unfold fullS; rw [strB_toList, hk]; rfl
 cases hw : wholeD d o
 ·rw [e1, if_pos hw]
  have ho : o ≠ 0 := by rintro rfl; cases hw
  refine (line_shape Wb w base S v k l head 23 (fun w' => S < w'.heap.size) hb hB hbw hv (fun _ h => h) hr hbx (by decide) (fin_no hS hO hw)).mono ?_
  rintro r w' ⟨rfl, t⟩
  exact ⟨_, _, rfl, t, hh ho, rfl, by simp⟩
 rw [e1, if_neg (by rw [hw]; simp)]
 have hPB : ∀ w' w'' : World, B w' w'' → StAt w' base S bw bt bf wv tv fv (.pointer none) head d (d.ws.map (·.n)) (d.ts.map (·.n)) d.fs ss tt → StAt w'' base S bw bt bf wv tv fv (.pointer none) head d (d.ws.map (·.n)) (d.ts.map (·.n)) d.fs ss tt := fun _ _ q h => h.b q
 by_cases h4 : l.length = 4
 ·obtain ⟨xn, xa, xb, xc, rfl⟩ : ∃ a b c e, l = [a, b, c, e] := by
   rcases l with _ | ⟨a, _ | ⟨b, _ | ⟨c, _ | ⟨e, _ | ⟨z, l⟩⟩⟩⟩⟩
   ·simp at h4
   ·simp at h4
   ·simp at h4
   ·simp at h4
   ·exact ⟨a, b, c, e, rfl⟩
   ·simp at h4
  by_cases hfull : 4 ≤ d.ts.length
  ·have e2 : recW d.ts 4 20000000 60000 10000 [k, xn, xa, xb, xc] = .error (k.1, 27) := by unfold recW; simp only [if_pos hfull]
   rw [e2]
   have h8 : d.ts.length = 4 := by have := hN.t4; omega
   refine (line_full Wb w base S v k _ (fun w' => StAt w' base S bw bt bf wv tv fv (.pointer none) head d (d.ws.map (·.n)) (d.ts.map (·.n)) d.fs ss tt) hb hB hbw hv (fun _ h => obj_lt h.obj) hr hbx (by rw [hlS]; rfl) (fin_yes hS hO hw) hPB (fun w' h => by
    have := full_st h (strB k.2)
    rwa [hfS, decide_eq_true h8] at this)).mono ?_
   rintro r w' ⟨rfl, t⟩
   exact ⟨_, _, rfl, t, rfl, rfl, by simp⟩
  ·have e2 := rec_fault d.ts 4 20000000 60000 10000 k xn xa xb xc (by omega)
   rw [e2]
   clear e2
   have hlt : ¬ d.ts.length = 4 := by omega
   refine (line_Tip Wb w base S v k _ (fa4 (nameS (strB xn.2) && !namedL (d.ts.map (·.n)) (strB xn.2)) 25 xn 1 20000000 1 60000 0 10000 xa xb xc).1 (fa4 (nameS (strB xn.2) && !namedL (d.ts.map (·.n)) (strB xn.2)) 25 xn 1 20000000 1 60000 0 10000 xa xb xc).2 (fun w' => StAt w' base S bw bt bf wv tv fv (.pointer none) head d (d.ws.map (·.n)) (d.ts.map (·.n)) d.fs ss tt)
    (fun w' => ∃ g cap, StAt w' base S bw bt bf wv (.slice (some ⟨g, 0, none⟩) (d.ts.length + 1) cap) fv (.pointer (some ⟨g, d.ts.length * 5 + 4, none⟩)) ((k.1 : Nat) : Int) { d with ts := d.ts ++ [⟨strB xn.2, (numV (strB xa.2) : Nat), (numV (strB xb.2) : Nat), (numV (strB xc.2) : Nat), []⟩] } (d.ws.map (·.n)) (addN (d.ts.map (·.n)) (strB xn.2)) d.fs ss (tt ++ [.slice none 0 0])) hb hB hbw hv (fun _ h => obj_lt h.obj) hr hbx (by rw [hlS]; rfl) hkW hkTip (fin_yes hS hO hw) hPB (fun w' h => by
    have := full_st h (strB k.2)
    rwa [hfS, decide_eq_false hlt] at this) (by simp) (fun w' R hB' hb' hR hRd hP => (addTip_any Wb w' base R S bw bt bf wv tv fv (.pointer none) head ((k.1 : Nat) : Int) d (d.ws.map (·.n)) (d.ts.map (·.n)) d.fs ss tt xn xa xb xc hb hB' hb' hR hRd hP (by rw [List.length_map]; have := hN.t4; omega) (by have := hN.t4; omega) (hlong xn (by simp))).mono ?_)
    (fun w' H x y ho ⟨g, cap, h⟩ => ⟨g, cap, st_fault ho h⟩)).mono ?_
   ·rintro r w'' ⟨rfl, g, cap, hRd2, hS2, t2⟩
    obtain ⟨vv, hvv, _⟩ := hRd2
    exact ⟨rfl, ⟨vv, hvv⟩, ⟨g, cap, hS2⟩, t2⟩
   ·rintro r w' ⟨rfl, ⟨g, cap, hS2⟩, t⟩
    refine ⟨_, _, rfl, t, ?_⟩
    obtain ⟨p, q, hpq⟩ := fa4_nat (nameS (strB xn.2) && !namedL (d.ts.map (·.n)) (strB xn.2)) 25 xn 1 20000000 1 60000 0 10000 xa xb xc
    by_cases h0 : (fa4 (nameS (strB xn.2) && !namedL (d.ts.map (·.n)) (strB xn.2)) 25 xn 1 20000000 1 60000 0 10000 xa xb xc).2 = 0
    ·obtain ⟨a1, a2, a3, a4, a5⟩ := fa4_ok (by decide) h0
     rw [if_pos (by exact h0)]
     refine ⟨a5, h0, ⟨_, _, _, _, _, _, _, hS2.eqv rfl rfl rfl ?_ ?_ rfl, ?_, fun _ => rfl⟩, ?_⟩
     ·rfl
     ·rw [addN_yes a1]
      simp
     ·exact .inr (.inr ⟨rfl, d.ts, _, g, cap, rfl, rfl, rfl⟩)
     ·refine ⟨hN.ok, hN.w8, by simp; omega, Nat.le_trans hN.fn (Nat.le_succ _), fun x hx => Nat.le_trans (hN.wn x hx) (Nat.le_succ _), fun x hx => ?_⟩
      rcases List.mem_append.1 hx with hx | hx
      ·exact Nat.le_trans (hN.tn x hx) (Nat.le_succ _)
      ·obtain rfl := List.mem_singleton.1 hx
       exact Nat.zero_le _
    ·rw [if_neg (by exact h0)]
     have hpq' : (fa4 (nameS (strB xn.2) && !namedL (d.ts.map (·.n)) (strB xn.2)) 25 xn 1 20000000 1 60000 0 10000 xa xb xc) = ((p : Int), (q : Int)) := hpq
     have hz : faultE (fa4 (nameS (strB xn.2) && !namedL (d.ts.map (·.n)) (strB xn.2)) 25 xn 1 20000000 1 60000 0 10000 xa xb xc) = (p, q) := by rw [hpq']; rfl
     refine ⟨?_, ?_, ?_⟩
     ·show (fa4 (nameS (strB xn.2) && !namedL (d.ts.map (·.n)) (strB xn.2)) 25 xn 1 20000000 1 60000 0 10000 xa xb xc).1 = (((faultE (fa4 (nameS (strB xn.2) && !namedL (d.ts.map (·.n)) (strB xn.2)) 25 xn 1 20000000 1 60000 0 10000 xa xb xc)).1 : Nat) : Int)
      rw [hz, hpq']
     ·show (fa4 (nameS (strB xn.2) && !namedL (d.ts.map (·.n)) (strB xn.2)) 25 xn 1 20000000 1 60000 0 10000 xa xb xc).2 = (((faultE (fa4 (nameS (strB xn.2) && !namedL (d.ts.map (·.n)) (strB xn.2)) 25 xn 1 20000000 1 60000 0 10000 xa xb xc)).2 : Nat) : Int)
      rw [hz, hpq']
     ·show (faultE (fa4 (nameS (strB xn.2) && !namedL (d.ts.map (·.n)) (strB xn.2)) 25 xn 1 20000000 1 60000 0 10000 xa xb xc)).2 ≠ 0
      rw [hz]
      intro e
      apply h0
      rw [hpq']
      simp only at e ⊢
      omega
 ·have e2 : recW d.ts 4 20000000 60000 10000 (k :: l) = .error (k.1, 24) := by
   rcases l with _ | ⟨a, _ | ⟨b, _ | ⟨c, _ | ⟨e, _ | ⟨z, l⟩⟩⟩⟩⟩
   ·rfl
   ·rfl
   ·rfl
   ·rfl
   ·simp at h4
   ·rfl
  rw [e2]
  refine (line_word Wb w base S v k l (fun w' => StAt w' base S bw bt bf wv tv fv (.pointer none) head d (d.ws.map (·.n)) (d.ts.map (·.n)) d.fs ss tt) hb hB hbw hv (fun _ h => obj_lt h.obj) hr hbx (by rw [hlS]; rw [beq_eq_false_iff_ne]; omega) (fin_yes hS hO hw) hPB).mono ?_
  rintro r w' ⟨rfl, t⟩
  exact ⟨_, _, rfl, t, rfl, rfl, by simp⟩
end
end Go.Proofs.YtglniapfnhedoaaGreatDoor
namespace Go.Proofs.YtglniapfnhedoaaGreatDoor
open Go.RowKit
set_option linter.unusedVariables false
section
variable (Wb w : World) (base S bw bt bf : Nat) (v : Value) (k : Wd) (l : List Wd) (d : Dk) (o f n : Nat) (hb : Wb.heap.size ≤ base) (hB : B Wb w) (hbw : base ≤ w.heap.size) (hv : IsWd Wb v (k :: l)) (hL : LnSt w base S bw bt bf d o f) (hN : DkN d n) (hn : n ≤ 65536) (hlong : ∀ x ∈ l, x.2.length ≤ 65536)
include hb hB hbw hv hL hN hn hlong
theorem ln_Fill (hk : k.2 = kFill) : Calls Tryz.prog 45 #[.pointer (some ⟨S, 0, none⟩), v] w (LnPost base S bw bt bf n (stepD (k :: l) d o f) w) := by
 have un := hn
 have ul := hlong
 obtain ⟨wv, tv, fv, pv, head, ss, tt, hS, hO, hh⟩ := hL
 have e1 : stepD (k :: l) d o f = if wholeD d o = false then .error (f, 23) else match fillW d (k :: l) with
   | .error e => .error e
   | .ok v => .ok ({ d with fs := d.fs ++ [v] }, 0, k.1) := by
  unfold stepD
  simp only [hk, kWare, kTip, kRound, kBox, kFill]
  simp
  rfl
 have hlS : lenS (strB k.2) = 3 := by unfold lenS; rw [strB_toList, hk]; rfl
 have hr : ((strB k.2).toList == [114, 111, 117, 110, 100]) = false := by rw [strB_toList, hk]; rfl
 have hbx : ((strB k.2).toList == [98, 111, 120]) = false := by rw [strB_toList, hk]; rfl
 have hkW : ((strB k.2).toList == [119, 97, 114, 101]) = false := by rw [strB_toList, hk]; rfl
 have hkT : ((strB k.2).toList == [116, 105, 112]) = false := by rw [strB_toList, hk]; rfl
 have hkF : ((strB k.2).toList == [102, 105, 108, 108]) = true := by rw [strB_toList, hk]; rfl
 have hfS : fullS (strB k.2) d.ws.length d.ts.length = false := by unfold fullS; rw [strB_toList, hk]; rfl
 cases hw : wholeD d o
 ·rw [e1, if_pos hw]
  have ho : o ≠ 0 := by rintro rfl; cases hw
  refine (line_shape Wb w base S v k l head 23 (fun w' => S < w'.heap.size) hb hB hbw hv (fun _ h => h) hr hbx (by decide) (fin_no hS hO hw)).mono ?_
  rintro r w' ⟨rfl, t⟩
  exact ⟨_, _, rfl, t, hh ho, rfl, by simp⟩
 rw [e1, if_neg (by rw [hw]; simp)]
 have hPB : ∀ w' w'' : World, B w' w'' → StAt w' base S bw bt bf wv tv fv (.pointer none) head d (d.ws.map Rec.n) (d.ts.map Rec.n) d.fs ss tt → StAt w'' base S bw bt bf wv tv fv (.pointer none) head d (d.ws.map Rec.n) (d.ts.map Rec.n) d.fs ss tt := fun _ _ q h => h.b q
 by_cases h4 : l.length = 2
 ·obtain ⟨x1, x2, rfl⟩ : ∃ a b, l = [a, b] := by
   rcases l with _ | ⟨a, _ | ⟨b, _ | ⟨c, l⟩⟩⟩
   ·simp at h4
   ·simp at h4
   ·exact ⟨a, b, rfl⟩
   ·simp at h4
  have e2 := fill_fault d hN.ok k x1 x2
  rw [e2]
  clear e2
  refine (line_Fill Wb w base S v k _ (fa2 (wellOk d.ws d.fs x1.2) x1 x2).1 (fa2 (wellOk d.ws d.fs x1.2) x1 x2).2 (fun w' => StAt w' base S bw bt bf wv tv fv (.pointer none) head d (d.ws.map Rec.n) (d.ts.map Rec.n) d.fs ss tt)
   (fun w' => ∃ fv', StAt w' base S bw bt bf wv tv fv' (.pointer none) head { d with fs := d.fs ++ [wellF x1.2 ((numV (strB x2.2) : Nat) : Int)] } (d.ws.map Rec.n) (d.ts.map Rec.n) (wellN d.ws d.fs x1.2) ss tt) hb hB hbw hv (fun _ h => obj_lt h.obj) hr hbx (by rw [hlS]; rfl) hkW hkT hkF (fin_yes hS hO hw) hPB (fun w' h => by
   have := full_st h (strB k.2)
   rwa [hfS] at this) (by simp) (fun w' R hB' hb' hR hRd hP => (addFill_any Wb w' base R S bw bt bf wv tv fv (.pointer none) head d (d.ws.map Rec.n) (d.ts.map Rec.n) d.fs ss tt x1 x2 hb hB' hb' hR hRd hP rfl (by have := hN.fn; omega) (by have := hN.fn; omega) (hlong x1 (by simp))).mono ?_)
   (fun w' H x y ho ⟨fv', h⟩ => ⟨fv', st_fault ho h⟩)).mono ?_
  ·rintro r w'' ⟨rfl, fv', hRd2, hS2, t2⟩
   obtain ⟨vv, hvv, _⟩ := hRd2
   exact ⟨rfl, ⟨vv, hvv⟩, ⟨fv', hS2⟩, t2⟩
  ·rintro r w' ⟨rfl, ⟨fv', hS2⟩, t⟩
   refine ⟨_, _, rfl, t, ?_⟩
   obtain ⟨p, q, hpq⟩ := fa2_nat (wellOk d.ws d.fs x1.2) x1 x2
   by_cases h0 : (fa2 (wellOk d.ws d.fs x1.2) x1 x2).2 = 0
   ·obtain ⟨a1, a2, a3⟩ := fa2_ok h0
    rw [if_pos (by exact h0)]
    refine ⟨a3, h0, ⟨_, _, _, _, _, _, _, (⟨hS2.obj, hS2.rows, hS2.mw, hS2.mt, ?_, hS2.gS, hS2.gw, hS2.gt, hS2.gf, hS2.n1, hS2.n2, hS2.n3⟩ : StAt _ _ _ _ _ _ _ _ _ _ _ _ _ _ _ _ _), .inl ⟨rfl, rfl⟩, fun h => absurd rfl h⟩, ?_⟩
    ·have hm := hS2.mf
     unfold wellOk at a1
     unfold wellN at hm
     unfold wellF
     cases hc : cwell x1.2 with
     | none => rw [hc] at a1; cases a1
     | some z =>
      obtain ⟨n1, r1, c1⟩ := z
      rw [hc] at a1 hm
      simp only at a1 hm ⊢
      unfold fillN at hm
      rw [if_pos a1] at hm
      obtain ⟨D, k1, k2, k3⟩ := hm
      refine ⟨D, by simpa using k1, k2, fun n' r' c' h1 h2 h3 => (k3 n' r' c' h1 h2 h3).trans ?_⟩
      simp [filledW]
    ·exact ⟨hN.ok, hN.w8, hN.t4, by simp; exact hN.fn, fun x hx => Nat.le_trans (hN.wn x hx) (Nat.le_succ _), fun x hx => Nat.le_trans (hN.tn x hx) (Nat.le_succ _)⟩
   ·rw [if_neg (by exact h0)]
    have hpq' : (fa2 (wellOk d.ws d.fs x1.2) x1 x2) = ((p : Int), (q : Int)) := hpq
    have hz : faultE (fa2 (wellOk d.ws d.fs x1.2) x1 x2) = (p, q) := by rw [hpq']; rfl
    refine ⟨?_, ?_, ?_⟩
    ·show (fa2 (wellOk d.ws d.fs x1.2) x1 x2).1 = (((faultE (fa2 (wellOk d.ws d.fs x1.2) x1 x2)).1 : Nat) : Int)
     rw [hz, hpq']
    ·show (fa2 (wellOk d.ws d.fs x1.2) x1 x2).2 = (((faultE (fa2 (wellOk d.ws d.fs x1.2) x1 x2)).2 : Nat) : Int)
     rw [hz, hpq']
    ·show (faultE (fa2 (wellOk d.ws d.fs x1.2) x1 x2)).2 ≠ 0
     rw [hz]
     intro e
     apply h0
     rw [hpq']
     simp only at e ⊢
     omega
 ·have e2 : fillW d (k :: l) = .error (k.1, 24) := by
   rcases l with _ | ⟨a, _ | ⟨b, _ | ⟨c, l⟩⟩⟩
   ·rfl
   ·rfl
   ·simp at h4
   ·rfl
  rw [e2]
  refine (line_word Wb w base S v k l (fun w' => StAt w' base S bw bt bf wv tv fv (.pointer none) head d (d.ws.map Rec.n) (d.ts.map Rec.n) d.fs ss tt) hb hB hbw hv (fun _ h => obj_lt h.obj) hr hbx (by rw [hlS]; rw [beq_eq_false_iff_ne]; omega) (fin_yes hS hO hw) hPB).mono ?_
  rintro r w' ⟨rfl, t⟩
  exact ⟨_, _, rfl, t, rfl, rfl, by simp⟩
end
end Go.Proofs.YtglniapfnhedoaaGreatDoor
namespace Go.Proofs.YtglniapfnhedoaaGreatDoor
open Go.RowKit
set_option linter.unusedVariables false
section
variable (Wb w : World) (base S bw bt bf : Nat) (v : Value) (k : Wd) (l : List Wd) (d : Dk) (o f n : Nat) (hb : Wb.heap.size ≤ base) (hB : B Wb w) (hbw : base ≤ w.heap.size) (hv : IsWd Wb v (k :: l)) (hL : LnSt w base S bw bt bf d o f) (hN : DkN d n) (hn : n ≤ 65536) (hlong : ∀ x ∈ l, x.2.length ≤ 65536)
include hb hB hbw hv hL hN hn hlong
theorem ln_Round (hk : k.2 = kRound) : Calls Tryz.prog 45 #[.pointer (some ⟨S, 0, none⟩), v] w (LnPost base S bw bt bf n (stepD (k :: l) d o f) w) := by
 have un := hn
 have ul := hlong
 obtain ⟨wv, tv, fv, pv, head, ss, tt, hS, hO, hh⟩ := hL
 have e1 : stepD (k :: l) d o f = if o = 0 then .error (k.1, 24) else match secW (k :: l) with
   | .error e => .error e
   | .ok s => .ok (d.add o s, o, f) := by
  unfold stepD
  simp only [hk, true_or, if_true]
  rfl
 have hlS : lenS (strB k.2) = 4 := by unfold lenS; rw [strB_toList, hk]; rfl
 have hr : ((strB k.2).toList == [114, 111, 117, 110, 100]) = true := by rw [strB_toList, hk]; rfl
 have hkW : ((strB k.2).toList == [119, 97, 114, 101]) = false := by rw [strB_toList, hk]; rfl
 have hkT : ((strB k.2).toList == [116, 105, 112]) = false := by rw [strB_toList, hk]; rfl
 have hkF : ((strB k.2).toList == [102, 105, 108, 108]) = false := by rw [strB_toList, hk]; rfl
 have hfS : fullS (strB k.2) d.ws.length d.ts.length = false := by unfold fullS; rw [strB_toList, hk]; rfl
 rw [e1]
 by_cases h4 : l.length = 3
 ·by_cases ho : o = 0
  ·rw [if_pos ho]
   have hp : pv = .pointer none := by
    rcases hO with ⟨_, h⟩ | ⟨h, _⟩ | ⟨h, _⟩
    ·exact h
    ·omega
    ·omega
   refine (line_nilR Wb w base S v k l (fun w' => StAt w' base S bw bt bf wv tv fv pv head d (d.ws.map Rec.n) (d.ts.map Rec.n) d.fs ss tt) hb hB hbw hv (fun _ h => obj_lt h.obj) pv hr (by rw [hlS, h4]; rfl) hp hS (fun w' h => obj_cell h.obj 6) (fun _ _ q h => h.b q)).mono ?_
   rintro r w' ⟨rfl, t⟩
   exact ⟨_, _, rfl, t, rfl, rfl, by simp⟩
  rw [if_neg ho]
  obtain ⟨x1, x2, x3, rfl⟩ : ∃ a b c, l = [a, b, c] := by
   rcases l with _ | ⟨a, _ | ⟨b, _ | ⟨c, _ | ⟨z, l⟩⟩⟩⟩
   ·simp at h4
   ·simp at h4
   ·simp at h4
   ·exact ⟨a, b, c, rfl⟩
   ·simp at h4
  rw [sec_round k x1 x2 x3 hk]
  rcases hO with ⟨h, _⟩ | ⟨rfl, ws0, r, g, cap, hd, rfl, rfl⟩ | ⟨rfl, ws0, r, g, cap, hd, rfl, rfl⟩
  ·exact absurd h ho
  ·-- Ware
   obtain ⟨ss0, v0, hss⟩ : ∃ ss0 v0, ss = ss0 ++ [v0] := by
    have hne : ss ≠ [] := by
     have := hS.rows.sl
     rw [hd] at this
     intro e
     rw [e] at this
     simp at this
    exact ⟨_, _, (List.dropLast_concat_getLast hne).symm⟩
   have hdd : d = ⟨ws0 ++ [r], d.ts, d.fs⟩ := by rw [← hd]
   have hrl : r.l.length ≤ n := hN.wn r (by rw [hd]; simp)
   subst hss
   have conv : ∀ w', StAt w' base S bw bt bf (.slice (some ⟨g, 0, none⟩) (ws0.length + 1) cap) tv fv (.pointer (some ⟨g, ws0.length * 5 + 4, none⟩)) head d (d.ws.map Rec.n) (d.ts.map Rec.n) d.fs (ss0 ++ [v0]) tt → StAt w' base S bw bt bf (.slice (some ⟨g, 0, none⟩) (ws0.length + 1) cap) tv fv (.pointer (some ⟨g, ws0.length * 5 + 4, none⟩)) head ⟨ws0 ++ [r], d.ts, d.fs⟩ (d.ws.map Rec.n) (d.ts.map Rec.n) d.fs (ss0 ++ [v0]) tt := fun w' h => h.eqv rfl rfl hdd rfl rfl rfl
   refine (line_Round Wb w base S v k _ (fas [x1, x2, x3] (0, 0)).1 (fas [x1, x2, x3] (0, 0)).2 (fun w' => StAt w' base S bw bt bf (.slice (some ⟨g, 0, none⟩) (ws0.length + 1) cap) tv fv (.pointer (some ⟨g, ws0.length * 5 + 4, none⟩)) head d (d.ws.map Rec.n) (d.ts.map Rec.n) d.fs (ss0 ++ [v0]) tt)
    (fun w' => ∃ v', StAt w' base S bw bt bf (.slice (some ⟨g, 0, none⟩) (ws0.length + 1) cap) tv fv (.pointer (some ⟨g, ws0.length * 5 + 4, none⟩)) head ⟨ws0 ++ [moreR r ⟨true, ((numV (strB x1.2) : Nat) : Int), ((numV (strB x2.2) : Nat) : Int), 0, ((numV (strB x3.2) : Nat) : Int), 0⟩], d.ts, d.fs⟩ (d.ws.map Rec.n) (d.ts.map Rec.n) d.fs (ss0 ++ [v']) tt) hb hB hbw hv (fun _ h => obj_lt h.obj) _ hr (by rw [hlS]; rfl) g _ rfl hkW hkT hkF hS (fun w' h => obj_cell h.obj 6) (fun _ _ q h => h.b q) (fun w' h => by
    have := full_st h (strB k.2)
    rwa [hfS] at this) (by simp) (fun w' R hB' hb' hR hRd hP => (addSecRoundWare_any Wb w' base R S bw bt bf g cap tv tv fv v0 head ws0 d.ts d.ts r d.fs (d.ws.map Rec.n) (d.ts.map Rec.n) d.fs tt tt ss0 x1 x2 x3 hb hB' hb' hR hRd (conv w' hP) (by omega)).mono ?_)
    (fun w' H x y ho ⟨v', h⟩ => ⟨v', st_fault ho h⟩)).mono ?_
   ·rintro r w'' ⟨rfl, v', hRd2, hS2, t2⟩
    obtain ⟨vv, hvv, _⟩ := hRd2
    exact ⟨rfl, ⟨vv, hvv⟩, ⟨v', hS2⟩, t2⟩
   ·rintro r w' ⟨rfl, ⟨v', hS2⟩, t⟩
    refine ⟨_, _, rfl, t, ?_⟩
    by_cases h0 : (fas [x1, x2, x3] (0, 0)).2 = 0
    ·rw [if_pos (by exact h0)]
     have hadd : d.add 1 ⟨true, ((numV (strB x1.2) : Nat) : Int), ((numV (strB x2.2) : Nat) : Int), 0, ((numV (strB x3.2) : Nat) : Int), 0⟩ = ⟨ws0 ++ [moreR r ⟨true, ((numV (strB x1.2) : Nat) : Int), ((numV (strB x2.2) : Nat) : Int), 0, ((numV (strB x3.2) : Nat) : Int), 0⟩], d.ts, d.fs⟩ := by
      unfold Dk.add
      rw [if_pos rfl, hd, moreW_snoc]
     refine ⟨fas_ok _ h0, h0, ?_, ?_⟩
     ·rw [hadd]
      refine ⟨_, _, _, _, _, _, _, hS2.eqv rfl rfl rfl ?_ ?_ rfl, .inr (.inl ⟨rfl, ws0, _, g, cap, rfl, rfl, rfl⟩), fun _ => hh (by decide)⟩
      ·rw [hd]; simp [moreR]
      ·rfl
     ·rw [hadd]
      have hxl : (moreR r ⟨true, ((numV (strB x1.2) : Nat) : Int), ((numV (strB x2.2) : Nat) : Int), 0, ((numV (strB x3.2) : Nat) : Int), 0⟩).l.length ≤ n + 1 := by simp [moreR]; omega
      refine ⟨fun x hx => ?_, ?_, hN.t4, Nat.le_trans hN.fn (Nat.le_succ _), fun x hx => ?_, fun x hx => Nat.le_trans (hN.tn x hx) (Nat.le_succ _)⟩
      ·rcases List.mem_append.1 hx with hx | hx
       ·exact hN.ok x (by rw [hd]; exact List.mem_append_left _ hx)
       ·obtain rfl := List.mem_singleton.1 hx
        exact hN.ok r (by rw [hd]; simp)
      ·have := hN.w8
       rw [hd] at this
       simpa using this
      ·rcases List.mem_append.1 hx with hx | hx
       ·exact Nat.le_trans (hN.wn x (by rw [hd]; exact List.mem_append_left _ hx)) (Nat.le_succ _)
       ·obtain rfl := List.mem_singleton.1 hx
        exact hxl
    ·rw [if_neg (by exact h0)]
     obtain ⟨p, q, hpq⟩ := fas_nat [x1, x2, x3] 0 0
     have hpq' : (fas [x1, x2, x3] (0, 0)) = ((p : Int), (q : Int)) := hpq
     have hz : faultE (fas [x1, x2, x3] (0, 0)) = (p, q) := by rw [hpq']; rfl
     refine ⟨?_, ?_, ?_⟩
     ·show (fas [x1, x2, x3] (0, 0)).1 = (((faultE (fas [x1, x2, x3] (0, 0))).1 : Nat) : Int)
      rw [hz, hpq']
     ·show (fas [x1, x2, x3] (0, 0)).2 = (((faultE (fas [x1, x2, x3] (0, 0))).2 : Nat) : Int)
      rw [hz, hpq']
     ·show (faultE (fas [x1, x2, x3] (0, 0))).2 ≠ 0
      rw [hz]
      intro e
      apply h0
      rw [hpq']
      simp only at e ⊢
      omega
  ·-- Tip
   obtain ⟨ss0, v0, hss⟩ : ∃ ss0 v0, tt = ss0 ++ [v0] := by
    have hne : tt ≠ [] := by
     have := hS.rows.tl
     rw [hd] at this
     intro e
     rw [e] at this
     simp at this
    exact ⟨_, _, (List.dropLast_concat_getLast hne).symm⟩
   have hdd : d = ⟨d.ws, ws0 ++ [r], d.fs⟩ := by rw [← hd]
   have hrl : r.l.length ≤ n := hN.tn r (by rw [hd]; simp)
   subst hss
   have conv : ∀ w', StAt w' base S bw bt bf wv (.slice (some ⟨g, 0, none⟩) (ws0.length + 1) cap) fv (.pointer (some ⟨g, ws0.length * 5 + 4, none⟩)) head d (d.ws.map Rec.n) (d.ts.map Rec.n) d.fs ss (ss0 ++ [v0]) → StAt w' base S bw bt bf wv (.slice (some ⟨g, 0, none⟩) (ws0.length + 1) cap) fv (.pointer (some ⟨g, ws0.length * 5 + 4, none⟩)) head ⟨d.ws, ws0 ++ [r], d.fs⟩ (d.ws.map Rec.n) (d.ts.map Rec.n) d.fs ss (ss0 ++ [v0]) := fun w' h => h.eqv rfl rfl hdd rfl rfl rfl
   refine (line_Round Wb w base S v k _ (fas [x1, x2, x3] (0, 0)).1 (fas [x1, x2, x3] (0, 0)).2 (fun w' => StAt w' base S bw bt bf wv (.slice (some ⟨g, 0, none⟩) (ws0.length + 1) cap) fv (.pointer (some ⟨g, ws0.length * 5 + 4, none⟩)) head d (d.ws.map Rec.n) (d.ts.map Rec.n) d.fs ss (ss0 ++ [v0]))
    (fun w' => ∃ v', StAt w' base S bw bt bf wv (.slice (some ⟨g, 0, none⟩) (ws0.length + 1) cap) fv (.pointer (some ⟨g, ws0.length * 5 + 4, none⟩)) head ⟨d.ws, ws0 ++ [moreR r ⟨true, ((numV (strB x1.2) : Nat) : Int), ((numV (strB x2.2) : Nat) : Int), 0, ((numV (strB x3.2) : Nat) : Int), 0⟩], d.fs⟩ (d.ws.map Rec.n) (d.ts.map Rec.n) d.fs ss (ss0 ++ [v'])) hb hB hbw hv (fun _ h => obj_lt h.obj) _ hr (by rw [hlS]; rfl) g _ rfl hkW hkT hkF hS (fun w' h => obj_cell h.obj 6) (fun _ _ q h => h.b q) (fun w' h => by
    have := full_st h (strB k.2)
    rwa [hfS] at this) (by simp) (fun w' R hB' hb' hR hRd hP => (addSecRoundTip_any Wb w' base R S bw bt bf g cap wv wv fv v0 head ws0 d.ws d.ts r d.fs (d.ws.map Rec.n) (d.ts.map Rec.n) d.fs ss ss ss0 x1 x2 x3 hb hB' hb' hR hRd (conv w' hP) (by omega)).mono ?_)
    (fun w' H x y ho ⟨v', h⟩ => ⟨v', st_fault ho h⟩)).mono ?_
   ·rintro r w'' ⟨rfl, v', hRd2, hS2, t2⟩
    obtain ⟨vv, hvv, _⟩ := hRd2
    exact ⟨rfl, ⟨vv, hvv⟩, ⟨v', hS2⟩, t2⟩
   ·rintro r w' ⟨rfl, ⟨v', hS2⟩, t⟩
    refine ⟨_, _, rfl, t, ?_⟩
    by_cases h0 : (fas [x1, x2, x3] (0, 0)).2 = 0
    ·rw [if_pos (by exact h0)]
     have hadd : d.add 2 ⟨true, ((numV (strB x1.2) : Nat) : Int), ((numV (strB x2.2) : Nat) : Int), 0, ((numV (strB x3.2) : Nat) : Int), 0⟩ = ⟨d.ws, ws0 ++ [moreR r ⟨true, ((numV (strB x1.2) : Nat) : Int), ((numV (strB x2.2) : Nat) : Int), 0, ((numV (strB x3.2) : Nat) : Int), 0⟩], d.fs⟩ := by
      unfold Dk.add
      rw [if_neg (by decide), if_pos rfl, hd, moreW_snoc]
     refine ⟨fas_ok _ h0, h0, ?_, ?_⟩
     ·rw [hadd]
      refine ⟨_, _, _, _, _, _, _, hS2.eqv rfl rfl rfl ?_ ?_ rfl, .inr (.inr ⟨rfl, ws0, _, g, cap, rfl, rfl, rfl⟩), fun _ => hh (by decide)⟩
      ·rfl
      ·rw [hd]; simp [moreR]
     ·rw [hadd]
      have hxl : (moreR r ⟨true, ((numV (strB x1.2) : Nat) : Int), ((numV (strB x2.2) : Nat) : Int), 0, ((numV (strB x3.2) : Nat) : Int), 0⟩).l.length ≤ n + 1 := by simp [moreR]; omega
      refine ⟨hN.ok, hN.w8, ?_, Nat.le_trans hN.fn (Nat.le_succ _), fun x hx => Nat.le_trans (hN.wn x hx) (Nat.le_succ _), fun x hx => ?_⟩
      ·have := hN.t4
       rw [hd] at this
       simpa using this
      ·rcases List.mem_append.1 hx with hx | hx
       ·exact Nat.le_trans (hN.tn x (by rw [hd]; exact List.mem_append_left _ hx)) (Nat.le_succ _)
       ·obtain rfl := List.mem_singleton.1 hx
        exact hxl
    ·rw [if_neg (by exact h0)]
     obtain ⟨p, q, hpq⟩ := fas_nat [x1, x2, x3] 0 0
     have hpq' : (fas [x1, x2, x3] (0, 0)) = ((p : Int), (q : Int)) := hpq
     have hz : faultE (fas [x1, x2, x3] (0, 0)) = (p, q) := by rw [hpq']; rfl
     refine ⟨?_, ?_, ?_⟩
     ·show (fas [x1, x2, x3] (0, 0)).1 = (((faultE (fas [x1, x2, x3] (0, 0))).1 : Nat) : Int)
      rw [hz, hpq']
     ·show (fas [x1, x2, x3] (0, 0)).2 = (((faultE (fas [x1, x2, x3] (0, 0))).2 : Nat) : Int)
      rw [hz, hpq']
     ·show (faultE (fas [x1, x2, x3] (0, 0))).2 ≠ 0
      rw [hz]
      intro e
      apply h0
      rw [hpq']
      simp only at e ⊢
      omega
 ·have e2 : (if o = 0 then (.error (k.1, 24) : Except (Nat × Nat) (Dk × Nat × Nat)) else match secW (k :: l) with
   | .error e => .error e
   | .ok s => .ok (d.add o s, o, f)) = .error (k.1, 24) := by
   have e3 : secW (k :: l) = .error (k.1, 24) := by
    have hc : l.length ≠ if k.2 = kBox then 5 else 3 := by rw [hk]; simp [kRound, kBox]; omega
    unfold secW
    simp only [if_pos hc]
   rw [e3]
   split <;> rfl
  rw [e2]
  refine (line_wordR Wb w base S v k l (fun w' => StAt w' base S bw bt bf wv tv fv pv head d (d.ws.map Rec.n) (d.ts.map Rec.n) d.fs ss tt) hb hB hbw hv (fun _ h => obj_lt h.obj) pv hr (by rw [hlS]; rw [beq_eq_false_iff_ne]; omega) hS (fun w' h => obj_cell h.obj 6) (fun _ _ q h => h.b q)).mono ?_
  rintro r w' ⟨rfl, t⟩
  exact ⟨_, _, rfl, t, rfl, rfl, by simp⟩
theorem ln_Box (hk : k.2 = kBox) : Calls Tryz.prog 45 #[.pointer (some ⟨S, 0, none⟩), v] w (LnPost base S bw bt bf n (stepD (k :: l) d o f) w) := by
 have un := hn
 have ul := hlong
 obtain ⟨wv, tv, fv, pv, head, ss, tt, hS, hO, hh⟩ := hL
 have e1 : stepD (k :: l) d o f = if o = 0 then .error (k.1, 24) else match secW (k :: l) with
   | .error e => .error e
   | .ok s => .ok (d.add o s, o, f) := by
  unfold stepD
  simp only [hk, or_true, if_true]
  rfl
 have hlS : lenS (strB k.2) = 6 := by unfold lenS; rw [strB_toList, hk]; rfl
 have hr : ((strB k.2).toList == [114, 111, 117, 110, 100]) = false := by rw [strB_toList, hk]; rfl
 have hbx : ((strB k.2).toList == [98, 111, 120]) = true := by rw [strB_toList, hk]; rfl
 have hkW : ((strB k.2).toList == [119, 97, 114, 101]) = false := by rw [strB_toList, hk]; rfl
 have hkT : ((strB k.2).toList == [116, 105, 112]) = false := by rw [strB_toList, hk]; rfl
 have hkF : ((strB k.2).toList == [102, 105, 108, 108]) = false := by rw [strB_toList, hk]; rfl
 have hfS : fullS (strB k.2) d.ws.length d.ts.length = false := by unfold fullS; rw [strB_toList, hk]; rfl
 rw [e1]
 by_cases h4 : l.length = 5
 ·by_cases ho : o = 0
  ·rw [if_pos ho]
   have hp : pv = .pointer none := by
    rcases hO with ⟨_, h⟩ | ⟨h, _⟩ | ⟨h, _⟩
    ·exact h
    ·omega
    ·omega
   refine (line_nilB Wb w base S v k l (fun w' => StAt w' base S bw bt bf wv tv fv pv head d (d.ws.map Rec.n) (d.ts.map Rec.n) d.fs ss tt) hb hB hbw hv (fun _ h => obj_lt h.obj) pv hr hbx (by rw [hlS, h4]; rfl) hp hS (fun w' h => obj_cell h.obj 6) (fun _ _ q h => h.b q)).mono ?_
   rintro r w' ⟨rfl, t⟩
   exact ⟨_, _, rfl, t, rfl, rfl, by simp⟩
  rw [if_neg ho]
  obtain ⟨x1, x2, x3, x4, x5, rfl⟩ : ∃ a b c e g, l = [a, b, c, e, g] := by
   rcases l with _ | ⟨a, _ | ⟨b, _ | ⟨c, _ | ⟨e, _ | ⟨g, _ | ⟨z, l⟩⟩⟩⟩⟩⟩
   ·simp at h4
   ·simp at h4
   ·simp at h4
   ·simp at h4
   ·simp at h4
   ·exact ⟨a, b, c, e, g, rfl⟩
   ·simp at h4
  rw [sec_box k x1 x2 x3 x4 x5 hk]
  rcases hO with ⟨h, _⟩ | ⟨rfl, ws0, r, g, cap, hd, rfl, rfl⟩ | ⟨rfl, ws0, r, g, cap, hd, rfl, rfl⟩
  ·exact absurd h ho
  ·-- Ware
   obtain ⟨ss0, v0, hss⟩ : ∃ ss0 v0, ss = ss0 ++ [v0] := by
    have hne : ss ≠ [] := by
     have := hS.rows.sl
     rw [hd] at this
     intro e
     rw [e] at this
     simp at this
    exact ⟨_, _, (List.dropLast_concat_getLast hne).symm⟩
   have hdd : d = ⟨ws0 ++ [r], d.ts, d.fs⟩ := by rw [← hd]
   have hrl : r.l.length ≤ n := hN.wn r (by rw [hd]; simp)
   subst hss
   have conv : ∀ w', StAt w' base S bw bt bf (.slice (some ⟨g, 0, none⟩) (ws0.length + 1) cap) tv fv (.pointer (some ⟨g, ws0.length * 5 + 4, none⟩)) head d (d.ws.map Rec.n) (d.ts.map Rec.n) d.fs (ss0 ++ [v0]) tt → StAt w' base S bw bt bf (.slice (some ⟨g, 0, none⟩) (ws0.length + 1) cap) tv fv (.pointer (some ⟨g, ws0.length * 5 + 4, none⟩)) head ⟨ws0 ++ [r], d.ts, d.fs⟩ (d.ws.map Rec.n) (d.ts.map Rec.n) d.fs (ss0 ++ [v0]) tt := fun w' h => h.eqv rfl rfl hdd rfl rfl rfl
   refine (line_Box Wb w base S v k _ (fas [x1, x2, x3, x4, x5] (0, 0)).1 (fas [x1, x2, x3, x4, x5] (0, 0)).2 (fun w' => StAt w' base S bw bt bf (.slice (some ⟨g, 0, none⟩) (ws0.length + 1) cap) tv fv (.pointer (some ⟨g, ws0.length * 5 + 4, none⟩)) head d (d.ws.map Rec.n) (d.ts.map Rec.n) d.fs (ss0 ++ [v0]) tt)
    (fun w' => ∃ v', StAt w' base S bw bt bf (.slice (some ⟨g, 0, none⟩) (ws0.length + 1) cap) tv fv (.pointer (some ⟨g, ws0.length * 5 + 4, none⟩)) head ⟨ws0 ++ [moreR r ⟨false, ((numV (strB x1.2) : Nat) : Int), ((numV (strB x2.2) : Nat) : Int), ((numV (strB x3.2) : Nat) : Int), ((numV (strB x4.2) : Nat) : Int), ((numV (strB x5.2) : Nat) : Int)⟩], d.ts, d.fs⟩ (d.ws.map Rec.n) (d.ts.map Rec.n) d.fs (ss0 ++ [v']) tt) hb hB hbw hv (fun _ h => obj_lt h.obj) _ hr hbx (by rw [hlS]; rfl) g _ rfl hkW hkT hkF hS (fun w' h => obj_cell h.obj 6) (fun _ _ q h => h.b q) (fun w' h => by
    have := full_st h (strB k.2)
    rwa [hfS] at this) (by simp) (fun w' R hB' hb' hR hRd hP => (addSecBoxWare_any Wb w' base R S bw bt bf g cap tv tv fv v0 head ws0 d.ts d.ts r d.fs (d.ws.map Rec.n) (d.ts.map Rec.n) d.fs tt tt ss0 x1 x2 x3 x4 x5 hb hB' hb' hR hRd (conv w' hP) (by omega)).mono ?_)
    (fun w' H x y ho ⟨v', h⟩ => ⟨v', st_fault ho h⟩)).mono ?_
   ·rintro r w'' ⟨rfl, v', hRd2, hS2, t2⟩
    obtain ⟨vv, hvv, _⟩ := hRd2
    exact ⟨rfl, ⟨vv, hvv⟩, ⟨v', hS2⟩, t2⟩
   ·rintro r w' ⟨rfl, ⟨v', hS2⟩, t⟩
    refine ⟨_, _, rfl, t, ?_⟩
    by_cases h0 : (fas [x1, x2, x3, x4, x5] (0, 0)).2 = 0
    ·rw [if_pos (by exact h0)]
     have hadd : d.add 1 ⟨false, ((numV (strB x1.2) : Nat) : Int), ((numV (strB x2.2) : Nat) : Int), ((numV (strB x3.2) : Nat) : Int), ((numV (strB x4.2) : Nat) : Int), ((numV (strB x5.2) : Nat) : Int)⟩ = ⟨ws0 ++ [moreR r ⟨false, ((numV (strB x1.2) : Nat) : Int), ((numV (strB x2.2) : Nat) : Int), ((numV (strB x3.2) : Nat) : Int), ((numV (strB x4.2) : Nat) : Int), ((numV (strB x5.2) : Nat) : Int)⟩], d.ts, d.fs⟩ := by
      unfold Dk.add
      rw [if_pos rfl, hd, moreW_snoc]
     refine ⟨fas_ok _ h0, h0, ?_, ?_⟩
     ·rw [hadd]
      refine ⟨_, _, _, _, _, _, _, hS2.eqv rfl rfl rfl ?_ ?_ rfl, .inr (.inl ⟨rfl, ws0, _, g, cap, rfl, rfl, rfl⟩), fun _ => hh (by decide)⟩
      ·rw [hd]; simp [moreR]
      ·rfl
     ·rw [hadd]
      have hxl : (moreR r ⟨false, ((numV (strB x1.2) : Nat) : Int), ((numV (strB x2.2) : Nat) : Int), ((numV (strB x3.2) : Nat) : Int), ((numV (strB x4.2) : Nat) : Int), ((numV (strB x5.2) : Nat) : Int)⟩).l.length ≤ n + 1 := by simp [moreR]; omega
      refine ⟨fun x hx => ?_, ?_, hN.t4, Nat.le_trans hN.fn (Nat.le_succ _), fun x hx => ?_, fun x hx => Nat.le_trans (hN.tn x hx) (Nat.le_succ _)⟩
      ·rcases List.mem_append.1 hx with hx | hx
       ·exact hN.ok x (by rw [hd]; exact List.mem_append_left _ hx)
       ·obtain rfl := List.mem_singleton.1 hx
        exact hN.ok r (by rw [hd]; simp)
      ·have := hN.w8
       rw [hd] at this
       simpa using this
      ·rcases List.mem_append.1 hx with hx | hx
       ·exact Nat.le_trans (hN.wn x (by rw [hd]; exact List.mem_append_left _ hx)) (Nat.le_succ _)
       ·obtain rfl := List.mem_singleton.1 hx
        exact hxl
    ·rw [if_neg (by exact h0)]
     obtain ⟨p, q, hpq⟩ := fas_nat [x1, x2, x3, x4, x5] 0 0
     have hpq' : (fas [x1, x2, x3, x4, x5] (0, 0)) = ((p : Int), (q : Int)) := hpq
     have hz : faultE (fas [x1, x2, x3, x4, x5] (0, 0)) = (p, q) := by rw [hpq']; rfl
     refine ⟨?_, ?_, ?_⟩
     ·show (fas [x1, x2, x3, x4, x5] (0, 0)).1 = (((faultE (fas [x1, x2, x3, x4, x5] (0, 0))).1 : Nat) : Int)
      rw [hz, hpq']
     ·show (fas [x1, x2, x3, x4, x5] (0, 0)).2 = (((faultE (fas [x1, x2, x3, x4, x5] (0, 0))).2 : Nat) : Int)
      rw [hz, hpq']
     ·show (faultE (fas [x1, x2, x3, x4, x5] (0, 0))).2 ≠ 0
      rw [hz]
      intro e
      apply h0
      rw [hpq']
      simp only at e ⊢
      omega
  ·-- Tip
   obtain ⟨ss0, v0, hss⟩ : ∃ ss0 v0, tt = ss0 ++ [v0] := by
    have hne : tt ≠ [] := by
     have := hS.rows.tl
     rw [hd] at this
     intro e
     rw [e] at this
     simp at this
    exact ⟨_, _, (List.dropLast_concat_getLast hne).symm⟩
   have hdd : d = ⟨d.ws, ws0 ++ [r], d.fs⟩ := by rw [← hd]
   have hrl : r.l.length ≤ n := hN.tn r (by rw [hd]; simp)
   subst hss
   have conv : ∀ w', StAt w' base S bw bt bf wv (.slice (some ⟨g, 0, none⟩) (ws0.length + 1) cap) fv (.pointer (some ⟨g, ws0.length * 5 + 4, none⟩)) head d (d.ws.map Rec.n) (d.ts.map Rec.n) d.fs ss (ss0 ++ [v0]) → StAt w' base S bw bt bf wv (.slice (some ⟨g, 0, none⟩) (ws0.length + 1) cap) fv (.pointer (some ⟨g, ws0.length * 5 + 4, none⟩)) head ⟨d.ws, ws0 ++ [r], d.fs⟩ (d.ws.map Rec.n) (d.ts.map Rec.n) d.fs ss (ss0 ++ [v0]) := fun w' h => h.eqv rfl rfl hdd rfl rfl rfl
   refine (line_Box Wb w base S v k _ (fas [x1, x2, x3, x4, x5] (0, 0)).1 (fas [x1, x2, x3, x4, x5] (0, 0)).2 (fun w' => StAt w' base S bw bt bf wv (.slice (some ⟨g, 0, none⟩) (ws0.length + 1) cap) fv (.pointer (some ⟨g, ws0.length * 5 + 4, none⟩)) head d (d.ws.map Rec.n) (d.ts.map Rec.n) d.fs ss (ss0 ++ [v0]))
    (fun w' => ∃ v', StAt w' base S bw bt bf wv (.slice (some ⟨g, 0, none⟩) (ws0.length + 1) cap) fv (.pointer (some ⟨g, ws0.length * 5 + 4, none⟩)) head ⟨d.ws, ws0 ++ [moreR r ⟨false, ((numV (strB x1.2) : Nat) : Int), ((numV (strB x2.2) : Nat) : Int), ((numV (strB x3.2) : Nat) : Int), ((numV (strB x4.2) : Nat) : Int), ((numV (strB x5.2) : Nat) : Int)⟩], d.fs⟩ (d.ws.map Rec.n) (d.ts.map Rec.n) d.fs ss (ss0 ++ [v'])) hb hB hbw hv (fun _ h => obj_lt h.obj) _ hr hbx (by rw [hlS]; rfl) g _ rfl hkW hkT hkF hS (fun w' h => obj_cell h.obj 6) (fun _ _ q h => h.b q) (fun w' h => by
    have := full_st h (strB k.2)
    rwa [hfS] at this) (by simp) (fun w' R hB' hb' hR hRd hP => (addSecBoxTip_any Wb w' base R S bw bt bf g cap wv wv fv v0 head ws0 d.ws d.ts r d.fs (d.ws.map Rec.n) (d.ts.map Rec.n) d.fs ss ss ss0 x1 x2 x3 x4 x5 hb hB' hb' hR hRd (conv w' hP) (by omega)).mono ?_)
    (fun w' H x y ho ⟨v', h⟩ => ⟨v', st_fault ho h⟩)).mono ?_
   ·rintro r w'' ⟨rfl, v', hRd2, hS2, t2⟩
    obtain ⟨vv, hvv, _⟩ := hRd2
    exact ⟨rfl, ⟨vv, hvv⟩, ⟨v', hS2⟩, t2⟩
   ·rintro r w' ⟨rfl, ⟨v', hS2⟩, t⟩
    refine ⟨_, _, rfl, t, ?_⟩
    by_cases h0 : (fas [x1, x2, x3, x4, x5] (0, 0)).2 = 0
    ·rw [if_pos (by exact h0)]
     have hadd : d.add 2 ⟨false, ((numV (strB x1.2) : Nat) : Int), ((numV (strB x2.2) : Nat) : Int), ((numV (strB x3.2) : Nat) : Int), ((numV (strB x4.2) : Nat) : Int), ((numV (strB x5.2) : Nat) : Int)⟩ = ⟨d.ws, ws0 ++ [moreR r ⟨false, ((numV (strB x1.2) : Nat) : Int), ((numV (strB x2.2) : Nat) : Int), ((numV (strB x3.2) : Nat) : Int), ((numV (strB x4.2) : Nat) : Int), ((numV (strB x5.2) : Nat) : Int)⟩], d.fs⟩ := by
      unfold Dk.add
      rw [if_neg (by decide), if_pos rfl, hd, moreW_snoc]
     refine ⟨fas_ok _ h0, h0, ?_, ?_⟩
     ·rw [hadd]
      refine ⟨_, _, _, _, _, _, _, hS2.eqv rfl rfl rfl ?_ ?_ rfl, .inr (.inr ⟨rfl, ws0, _, g, cap, rfl, rfl, rfl⟩), fun _ => hh (by decide)⟩
      ·rfl
      ·rw [hd]; simp [moreR]
     ·rw [hadd]
      have hxl : (moreR r ⟨false, ((numV (strB x1.2) : Nat) : Int), ((numV (strB x2.2) : Nat) : Int), ((numV (strB x3.2) : Nat) : Int), ((numV (strB x4.2) : Nat) : Int), ((numV (strB x5.2) : Nat) : Int)⟩).l.length ≤ n + 1 := by simp [moreR]; omega
      refine ⟨hN.ok, hN.w8, ?_, Nat.le_trans hN.fn (Nat.le_succ _), fun x hx => Nat.le_trans (hN.wn x hx) (Nat.le_succ _), fun x hx => ?_⟩
      ·have := hN.t4
       rw [hd] at this
       simpa using this
      ·rcases List.mem_append.1 hx with hx | hx
       ·exact Nat.le_trans (hN.tn x (by rw [hd]; exact List.mem_append_left _ hx)) (Nat.le_succ _)
       ·obtain rfl := List.mem_singleton.1 hx
        exact hxl
    ·rw [if_neg (by exact h0)]
     obtain ⟨p, q, hpq⟩ := fas_nat [x1, x2, x3, x4, x5] 0 0
     have hpq' : (fas [x1, x2, x3, x4, x5] (0, 0)) = ((p : Int), (q : Int)) := hpq
     have hz : faultE (fas [x1, x2, x3, x4, x5] (0, 0)) = (p, q) := by rw [hpq']; rfl
     refine ⟨?_, ?_, ?_⟩
     ·show (fas [x1, x2, x3, x4, x5] (0, 0)).1 = (((faultE (fas [x1, x2, x3, x4, x5] (0, 0))).1 : Nat) : Int)
      rw [hz, hpq']
     ·show (fas [x1, x2, x3, x4, x5] (0, 0)).2 = (((faultE (fas [x1, x2, x3, x4, x5] (0, 0))).2 : Nat) : Int)
      rw [hz, hpq']
     ·show (faultE (fas [x1, x2, x3, x4, x5] (0, 0))).2 ≠ 0
      rw [hz]
      intro e
      apply h0
      rw [hpq']
      simp only at e ⊢
      omega
 ·have e2 : (if o = 0 then (.error (k.1, 24) : Except (Nat × Nat) (Dk × Nat × Nat)) else match secW (k :: l) with
   | .error e => .error e
   | .ok s => .ok (d.add o s, o, f)) = .error (k.1, 24) := by
   have e3 : secW (k :: l) = .error (k.1, 24) := by
    have hc : l.length ≠ if k.2 = kBox then 5 else 3 := by rw [hk]; simp; omega
    unfold secW
    simp only [if_pos hc]
   rw [e3]
   split <;> rfl
  rw [e2]
  refine (line_wordB Wb w base S v k l (fun w' => StAt w' base S bw bt bf wv tv fv pv head d (d.ws.map Rec.n) (d.ts.map Rec.n) d.fs ss tt) hb hB hbw hv (fun _ h => obj_lt h.obj) pv hr hbx (by rw [hlS]; rw [beq_eq_false_iff_ne]; omega) hS (fun w' h => obj_cell h.obj 6) (fun _ _ q h => h.b q)).mono ?_
  rintro r w' ⟨rfl, t⟩
  exact ⟨_, _, rfl, t, rfl, rfl, by simp⟩
end
end Go.Proofs.YtglniapfnhedoaaGreatDoor
namespace Go.Proofs.YtglniapfnhedoaaGreatDoor
open Go.RowKit
def IsLnO (w : World) (v : Value) (LL : List (List Wd)) : Prop :=
 (v = .slice none 0 0 ∧ LL = []) ∨
 ∃ g o cap, v = .slice (some ⟨g, o, none⟩) LL.length cap ∧ LL.length ≤ cap ∧ cap ≤ maxLen ∧ ∀ i L, LL[i]? = some L → ∃ u, w.cell? ⟨g, o + i, none⟩ = some u ∧ IsWords w u L
theorem IsLnO.keep {w w' : World} {v : Value} {LL : List (List Wd)} (h : IsLnO w v LL) (q : B w w') : IsLnO w' v LL := by
 rcases h with h | ⟨g, o, cap, h1, h2, h3, h4⟩
 ·exact .inl h
 ·exact .inr ⟨g, o, cap, h1, h2, h3, fun i L hL => let ⟨u, k1, k2⟩ := h4 i L hL; ⟨u, q.keep k1, k2.keep q⟩⟩
theorem IsLnO.form {w : World} {v : Value} {LL : List (List Wd)} (h : IsLnO w v LL) : ∃ ao cap, v = .slice ao LL.length cap := by
 rcases h with ⟨rfl, rfl⟩ | ⟨g, o, cap, rfl, _⟩ <;> exact ⟨_, _, rfl⟩
theorem IsLnO.at_ {w : World} {v : Value} {LL : List (List Wd)} (h : IsLnO w v LL) {i : Nat} (hi : i < LL.length) : ∃ g o cap u, v = .slice (some ⟨g, o, none⟩) LL.length cap ∧ w.cell? ⟨g, o + i, none⟩ = some u ∧ IsWords w u LL[i] := by
 rcases h with ⟨_, rfl⟩ | ⟨g, o, cap, h1, _, _, h4⟩
 ·simp at hi
 ·obtain ⟨u, k1, k2⟩ := h4 i _ (List.getElem?_eq_getElem hi)
  exact ⟨g, o, cap, u, h1, k1, k2⟩
theorem IsLines.lnO {w : World} {v : Value} {LL : List (List Wd)} (h : IsLines w v LL) : IsLnO w v LL := by
 rcases h with h | ⟨g, cap, h1, h2, h3, h4⟩
 ·exact .inl h
 ·exact .inr ⟨g, 0, cap, h1, h2, h3, fun i L hL => by rw [Nat.zero_add]; exact h4 i L hL⟩
theorem IsLnO.drop {w : World} {g o cap : Nat} {LL : List (List Wd)} (h : IsLnO w (.slice (some ⟨g, o, none⟩) LL.length cap) LL) {k : Nat} (hk : k ≤ LL.length) :
  IsLnO w (.slice (some ⟨g, o + k, none⟩) (LL.length - k) (cap - k)) (LL.drop k) := by
 rcases h with ⟨e, _⟩ | ⟨g', o', cap', e, h2, h3, h4⟩
 ·simp at e
 ·obtain ⟨⟨rfl, rfl⟩, rfl⟩ : (g = g' ∧ o = o') ∧ cap = cap' := by simpa using e
  refine .inr ⟨g, o + k, cap - k, by rw [List.length_drop], by rw [List.length_drop]; omega, by omega, fun i L hL => ?_⟩
  rw [List.getElem?_drop] at hL
  obtain ⟨u, k1, k2⟩ := h4 _ L hL
  exact ⟨u, by rw [show o + k + i = o + (k + i) by omega]; exact k1, k2⟩
end Go.Proofs.YtglniapfnhedoaaGreatDoor
namespace Go.Proofs.YtglniapfnhedoaaGreatDoor
open Go.RowKit
set_option linter.unusedVariables false
theorem lineInfo9 : (Tryz.prog.info? 96).map (fun i => (i.zero, i.size, i.bytes)) = some (some (.slice none 0 0), 1, 24) := by kernel_rfl
set_option maxRecDepth 100000 in
set_option maxHeartbeats 1000000 in
theorem said_any (v : Value) (L : List (List Wd)) (w : World) (h : IsLnO w v L) (hne : ∀ ws ∈ L, 0 < ws.length) (hL : L.length ≤ 65536) (hws : ∀ ws ∈ L, ws.length ≤ 65536) :
  Calls Tryz.prog 43 #[v] w fun r w' => ∃ gR cap vs, r = .returned (.slice (some ⟨gR, 0, none⟩) L.length cap) ∧ w'.ownsRow w.heap.size 96 1 (.slice (some ⟨gR, 0, none⟩) L.length cap) L.length vs ∧ (∀ (j : Nat) u ws, vs[j]? = some u → L[j]? = some ws → IsWords w' u ws) ∧ B w w' := by
 obtain ⟨i0, hi0, hz0, hz1, hz2⟩ := info_of lineInfo9
 obtain ⟨ao, cc, rfl⟩ := h.form
 go_enter Tryz.func43, Tryz.ntmps43
 go_wp2_with (at_make; refine wpList_make_own _ rfl _ _ 48 rfl w.heap.size 96 i0 _ 1 Tryz.underlying48 hi0 hz0 hz1 _ _ _ L.length rfl rfl rfl (by rw [hz2]; omega) (by unfold maxLen; omega) (Nat.le_refl _) ?_; intro w0 hown0 hgrow0)
 have hB0 : B w w0 := (B.refl w).grownBy hgrow0 (fun k hk => by cases hk)
 obtain ⟨gR0, hgR⟩ : ∃ x, x = w.heap.size := ⟨_, rfl⟩
 have hown1 : w0.ownsRow w.heap.size 96 1 (.slice (some ⟨gR0, 0, none⟩) 0 L.length) 0 [] := by rw [hgR]; exact hown0
 rw [← hgR]
 clear hown0 hgR
 go_loopw [3, 11] (fun vv iv wr => ∃ (i : Nat) (gr : Nat) (cap : Nat) (vs : List Value), i ≤ L.length ∧ iv = .int .i64 i ∧ vv = .slice (some ⟨gr, 0, none⟩) i cap ∧ wr.ownsRow w.heap.size 96 1 (.slice (some ⟨gr, 0, none⟩) i cap) i vs ∧
  (∀ (j : Nat) u ws, vs[j]? = some u → L[j]? = some ws → IsWords w u ws) ∧ B w wr) (fun _ iv _ => L.length + 1 - (intOf iv).toNat)
 case atStart => exact ⟨0, _, _, [], Nat.zero_le _, rfl, rfl, hown1, fun j u ws hj => by simp at hj, hB0⟩
 case round =>
  obtain ⟨i, gr, cap, vs, hi, rfl, rfl, hown, hvs, hB⟩ := hrel
  by_cases hl : i < L.length
  ·have hlB : decide ((i : Int) < (L.length : Int)) = true := decide_eq_true (by omega)
   have hlI : (i : Int) < (L.length : Int) := by omega
   have hi0' : (0 : Int) ≤ (i : Int) := by omega
   have wk1 : IntKind.i64.wrap ((i : Int) + 1) = (i : Int) + 1 := by rw [IntKind.wrap_i64]; omega
   obtain ⟨g, o, cap1, u, e1, c1, c2⟩ := h.at_ hl
   replace c1 := hB.keep c1
   obtain ⟨rfl, rfl⟩ : ao = some ⟨g, o, none⟩ ∧ cc = cap1 := by simpa using e1
   obtain ⟨uo, uc, rfl⟩ := c2.form
   have hpos := hne _ (List.getElem_mem hl)
   have hgt : decide ((0 : Int) < ((L[i]).length : Int)) = true := decide_eq_true (by omega)
   have hLi : L[i]? = some L[i] := List.getElem?_eq_getElem hl
   generalize L[i] = Li at *
   have hbase : w.heap.size ≤ (wr.alloc (.cells #[.slice uo Li.length uc] 96)).heap.size := Nat.le_trans hB.below.size (by simp)
   have qA : B wr (wr.alloc (.cells #[.slice uo Li.length uc] 96)) := (B.refl wr).alloc _ _
   have hownA := ownsRow_keepB hown qA
   go_wp2_with (at_builtin; (refine wpList_append_lies _ rfl _ _ 48 rfl w.heap.size 96 i0 (.slice none 0 0) 1 24 Tryz.underlying48 hi0 hz0 hz1 hz2 rfl (by omega) _ _ _ rfl hownA ⟨wr.heap.size, 0, none⟩ 1 1 [.slice uo Li.length uc] rfl rfl (news_plain rfl) (by intro u hu; rw [List.mem_singleton.1 hu]; rfl) (by omega) (by unfold maxLen; omega) (by omega) hbase _ rfl ?_; intro gN cN wN hownN hgrowN hatN hltN))
   have HF := Lib.hid (And.intro h (And.intro hvs (And.intro hB (And.intro c2 (And.intro qA (And.intro hown (And.intro hi (And.intro hl hLi))))))))
   clear h hvs hB c2 qA hown hownA hi hl hbase hown1 hgrow0 hB0
   go_roundw
   case rel =>
    obtain ⟨h, hvs, hB, c2, qA, hown, hi, hl, hLi⟩ := HF.out
    have hrow : ∀ b, (Value.slice (some ⟨gr, 0, none⟩) i cap).ownBlock = some b → w.heap.size ≤ b := fun b hb => (hown.lt b hb).1
    refine ⟨i + 1, _, _, vs ++ [.slice uo Li.length uc], by omega, by go_num, rfl, hownN, fun j u ws hj hw => ?_, (hB.trans qA).grownBy hgrowN (fun k hk => hrow k hk)⟩
    have hvl : vs.length = i := by have := hown.1; omega
    rcases Nat.lt_or_ge j i with hj2 | hj2
    ·rw [List.getElem?_append_left (by omega)] at hj
     exact hvs j u ws hj hw
    ·have hji : j = i := by
      have := (List.getElem?_eq_some_iff.1 hj).1
      simp at this
      omega
     subst hji
     rw [List.getElem?_append_right (by omega), hvl] at hj
     simp at hj
     subst hj
     rw [hLi] at hw
     obtain rfl : Li = ws := by simpa using hw
     exact c2
   case measure => have := HF.out; simp [intOf]; omega
  ·have hlB : decide ((i : Int) < (L.length : Int)) = false := decide_eq_false (by omega)
   obtain rfl : i = L.length := by omega
   have HF := Lib.hid (And.intro hown (And.intro hvs hB))
   clear hown hvs hB hown1 hgrow0 hB0 h hi
   go_wp2
   obtain ⟨hown, hvs, hB⟩ := HF.out
   go_ret
   exact ⟨_, _, vs, rfl, hown, fun j u ws h1 h2 => (hvs j u ws h1 h2).keep hB, hB⟩
end Go.Proofs.YtglniapfnhedoaaGreatDoor
