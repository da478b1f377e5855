/-
 Contracts and what they rest on.
-/
import Derived.Lib.SliceRun
import Derived.Test.YtglniapfnhedoaaGreatDoorChecked
import Derived.Lib.Hide
import Derived.KernelRfl
import Derived.Test.YtglniapfnhedoaaGreatDoorY22
namespace Go.Proofs.YtglniapfnhedoaaGreatDoor
open Go.RowKit
set_option linter.unusedVariables false
theorem wordInfo9 : (Tryz.prog.info? 95).map (fun i => (i.zero, i.size, i.bytes)) = some (some (.agg #[.int .i64 0, .string ⟨#[]⟩]), 2, 24) := by kernel_rfl
set_option maxRecDepth 100000 in
theorem clone_any (v : Value) (ws : List Wd) (w : World) (h : IsWords w v ws) (hpos : 0 < ws.length) (hl : ws.length ≤ 65536) :
  Calls Tryz.prog 47 #[v] w fun r w' => ∃ g cap, r = .returned (.slice (some ⟨g, 0, none⟩) ws.length cap) ∧ IsWords w' (.slice (some ⟨g, 0, none⟩) ws.length cap) ws ∧ B w w' := by
 obtain ⟨i0, hi0, hz0, hz1, hz2⟩ := info_of wordInfo9
 obtain ⟨g, cap, rfl, h2, h3, hgl, h5⟩ := h.full hpos
 have qA : B w (w.alloc (.cells #[] 95)) := (B.refl w).alloc _ _
 have hown := World.ownsRow_made (base := w.heap.size) (e := 95) (size := 2) w #[] 0 (Nat.le_refl _) (by unfold maxLen; omega) rfl
 have hnews : ∀ j u, (flatW ws)[j]? = some u → (w.alloc (.cells #[] 95)).cell? ((⟨g, 0, none⟩ : Addr).add j) = some u := fun j u hu => by
  rw [addz]
  have hjl := (List.getElem?_eq_some_iff.1 hu).1
  rw [flatW_len] at hjl
  obtain ⟨i, hi | hi⟩ : ∃ i, j = i * 2 ∨ j = i * 2 + 1 := ⟨j / 2, by omega⟩
  ·subst hi
   have hx : ws[i]? = some ws[i] := List.getElem?_eq_getElem (by omega)
   rw [(flatW_get ws i _ hx).1] at hu
   rw [← hu]
   exact qA.keep (h5 i _ hx).1
  ·subst hi
   have hx : ws[i]? = some ws[i] := List.getElem?_eq_getElem (by omega)
   rw [(flatW_get ws i _ hx).2] at hu
   rw [← hu]
   exact qA.keep (h5 i _ hx).2
 have hbase : w.heap.size ≤ (w.alloc (.cells #[] 95)).heap.size := qA.below.size
 have hnil := fun w => Lib.run_eql_slice_nil (P := Tryz.prog) w 96 _ (some ⟨g, 0, none⟩) ws.length cap 0 0 Tryz.underlying96
 go_enter Tryz.func47, Tryz.ntmps47
 go_wp2_with (at_builtin; refine wpList_append_lies _ rfl _ _ 96 rfl w.heap.size 95 i0 _ 2 24 Tryz.underlying96 hi0 hz0 hz1 hz2 rfl (by omega) _ 0 [] rfl hown ⟨g, 0, none⟩ ws.length cap (flatW ws) rfl (flatW_len ws) hnews (flatW_one ws) hpos (by unfold maxLen; omega) (by omega) hbase _ rfl ?_; intro gN cN wN hownN hgrowN hatN hltN)
 go_ret
 have hg2 : (w.alloc (.cells #[] 95)).grownBy wN (some w.heap.size) := hgrowN
 have hB : B w wN := ((B.refl w).alloc _ _).grownBy hg2 (fun k hk => by cases hk; exact Nat.le_refl _)
 refine ⟨gN, cN, by simp, ?_, hB⟩
 have h1 : wN.ownsRow w.heap.size 95 2 (.slice (some ⟨gN, 0, none⟩) ws.length cN) ws.length (flatW ws) := by simpa using hownN
 exact words_own h1 rfl
end Go.Proofs.YtglniapfnhedoaaGreatDoor
namespace Go.Proofs.YtglniapfnhedoaaGreatDoor
open Go.RowKit
set_option linter.unusedVariables false
theorem own_tn {K : List (Option TypeId)} {b base : Nat} {w w' : World} {e : TypeId} {size n : Nat} {v : Value} {xs : List Value} (h : w.ownsRow base e size v n xs) (t : Tn K b w w') (hK : some e ∉ K) : w'.ownsRow base e size v n xs := by
 refine ⟨h.1, ?_⟩
 rcases h.2 with hn | ⟨g, cap, cur, rfl, hb, hg, rest⟩
 ·exact .inl hn
 ·exact .inr ⟨g, cap, cur, rfl, hb, t.objc hg hK, rest⟩
theorem LnSt.b {w w' : World} {base S bw bt bf : Nat} {d : Dk} {o f : Nat} (h : LnSt w base S bw bt bf d o f) (q : B w w') : LnSt w' base S bw bt bf d o f :=
 let ⟨wv, tv, fv, pv, head, ss, tt, h1, h2, h3⟩ := h
 ⟨wv, tv, fv, pv, head, ss, tt, h1.b q, h2, h3⟩
theorem words_ne {w : World} {v : Value} {ws : List Wd} (h : IsWords w v ws) (hp : 0 < ws.length) {g : Nat} {ao : Option Addr} {n c : Nat} (hg : w.cell? ⟨g, 0, none⟩ = some (.slice ao n c)) : v.ownBlock ≠ some g := by
 obtain ⟨b, cap, rfl, _, _, _, h5⟩ := h.full hp
 intro e
 obtain rfl : b = g := by simpa [Value.ownBlock] using e
 have := (h5 0 _ (List.getElem?_eq_getElem hp)).1
 simp only [Nat.zero_mul] at this
 rw [hg] at this
 cases this
theorem words_set {w : World} {v : Value} {ws : List Wd} (h : IsWords w v ws) (hp : 0 < ws.length) {g : Nat} {ao : Option Addr} {n c : Nat} (hg : w.cell? ⟨g, 0, none⟩ = some (.slice ao n c)) (k : Nat) (x : Value) : IsWords (w.setCell ⟨g, k, none⟩ x) v ws :=
 h.block fun b hb hlt => Below.heap_setCell _ ⟨g, k, none⟩ _ b (fun e => words_ne h hp hg (by rw [hb, show b = g from e]))
structure RowL (w : World) (lo g cap : Nat) (L : List (List Wd)) (vs : List Value) : Prop where
 own : w.ownsRow lo 96 1 (.slice (some ⟨g, 0, none⟩) L.length cap) L.length vs
 ws : ∀ (m : Nat) u ws, vs[m]? = some u → L[m]? = some ws → IsWords w u ws
 sl : ∀ (m : Nat) u, vs[m]? = some u → ∃ ao n c, u = .slice ao n c
theorem RowL.b {w w' : World} {lo g cap : Nat} {L : List (List Wd)} {vs : List Value} (h : RowL w lo g cap L vs) (q : B w w') : RowL w' lo g cap L vs :=
 ⟨ownsRow_keepB h.own q, fun m u ws h1 h2 => (h.ws m u ws h1 h2).keep q, h.sl⟩
theorem RowL.len {w : World} {lo g cap : Nat} {L : List (List Wd)} {vs : List Value} (h : RowL w lo g cap L vs) : vs.length = L.length := by have := h.own.1; omega
theorem RowL.cell {w : World} {lo g cap : Nat} {L : List (List Wd)} {vs : List Value} (h : RowL w lo g cap L vs) {m : Nat} {u : Value} (hu : vs[m]? = some u) : w.cell? ⟨g, m, none⟩ = some u := by
 have := h.own.cells (g := g) rfl m u hu
 rwa [addz] at this
theorem RowL.first {w : World} {lo g cap : Nat} {L : List (List Wd)} {vs : List Value} (h : RowL w lo g cap L vs) (hp : 0 < L.length) : ∃ ao n c, w.cell? ⟨g, 0, none⟩ = some (.slice ao n c) := by
 have hl := h.len
 have h0 : vs[0]? = some vs[0] := List.getElem?_eq_getElem (by omega)
 obtain ⟨ao, n, c, e⟩ := h.sl 0 _ h0
 exact ⟨ao, n, c, e ▸ h.cell h0⟩
theorem RowL.put {w : World} {lo g cap : Nat} {L : List (List Wd)} {vs : List Value} (h : RowL w lo g cap L vs) (hne : ∀ ws ∈ L, 0 < ws.length) {m : Nat} {ws : List Wd} (hm : L[m]? = some ws) {ao : Option Addr} {n c : Nat} (hu : IsWords w (.slice ao n c) ws) :
  RowL (w.setCell ⟨g, m, none⟩ (.slice ao n c)) lo g cap L (vs.set m (.slice ao n c)) := by
 have hml : m < L.length := (List.getElem?_eq_some_iff.1 hm).1
 obtain ⟨ao0, n0, c0, hg0⟩ := h.first (by omega)
 refine ⟨(h.own.stored m _).1, fun m' u ws' h1 h2 => ?_, fun m' u h1 => ?_⟩
 ·by_cases e : m' = m
  ·subst e
   rw [List.getElem?_set_self (by rw [h.len]; exact hml)] at h1
   obtain rfl : ws = ws' := Option.some.inj (hm.symm.trans h2)
   obtain rfl : Value.slice ao n c = u := Option.some.inj h1
   exact words_set hu (hne _ (List.mem_of_getElem? hm)) hg0 _ _
  ·rw [List.getElem?_set_ne (fun e' => e e'.symm)] at h1
   exact words_set (h.ws m' u ws' h1 h2) (hne _ (List.mem_of_getElem? h2)) hg0 _ _
 ·by_cases e : m' = m
  ·subst e
   rw [List.getElem?_set_self (by rw [h.len]; exact hml)] at h1
   obtain rfl : Value.slice ao n c = u := Option.some.inj h1
   exact ⟨_, _, _, rfl⟩
  ·rw [List.getElem?_set_ne (fun e' => e e'.symm)] at h1
   exact h.sl m' u h1
theorem RowL.box {w : World} {lo g cap H : Nat} {L : List (List Wd)} {vs : List Value} {cs : Array Value} (h : RowL w lo g cap L vs) (hne : ∀ ws ∈ L, 0 < ws.length) (hH : w.heap[H]? = some (.cells cs 26 (0, 0))) {ao : Option Addr} {n c : Nat} (hc : cs[0]? = some (.slice ao n c)) (x y z : Value) :
  RowL (((w.setCell ⟨H, 0, none⟩ x).setCell ⟨H, 1, none⟩ y).setCell ⟨H, 2, none⟩ z) lo g cap L vs := by
 have t : Tn [some 26] 0 w (((w.setCell ⟨H, 0, none⟩ x).setCell ⟨H, 1, none⟩ y).setCell ⟨H, 2, none⟩ z) :=
  Tn.set (p := ⟨H, 2, none⟩) (Tn.set (p := ⟨H, 1, none⟩) (Tn.set (p := ⟨H, 0, none⟩) (Tn.refl _ 0 _) hH (by decide) (Nat.zero_le _) x) (obj_set hH 0 x) (by decide) (Nat.zero_le _) y) (obj_set (obj_set hH 0 x) 1 y) (by decide) (Nat.zero_le _) z
 refine ⟨own_tn h.own t (by decide), fun m u ws h1 h2 => (h.ws m u ws h1 h2).block fun b hb hlt => set3_other _ _ _ _ _ _ (fun e => words_ne (h.ws m u ws h1 h2) (hne _ (List.mem_of_getElem? h2)) ((obj_cell hH 0).trans hc) (by rw [hb, e])), h.sl⟩
theorem RowL.lnO {w : World} {lo g cap i cap' : Nat} {L : List (List Wd)} {vs : List Value} (h : RowL w lo g cap L vs) (hi : i ≤ L.length) (h1 : L.length - i ≤ cap') (h2 : cap' ≤ maxLen) : IsLnO w (.slice (some ⟨g, i, none⟩) (L.length - i) cap') (L.drop i) := by
 refine .inr ⟨g, i, cap', by rw [List.length_drop], by rw [List.length_drop]; exact h1, h2, fun j ws hj => ?_⟩
 rw [List.getElem?_drop] at hj
 have hl := (List.getElem?_eq_some_iff.1 hj).1
 obtain ⟨u, hu⟩ : ∃ u, vs[i + j]? = some u := ⟨_, List.getElem?_eq_getElem (by rw [h.len]; exact hl)⟩
 exact ⟨_, h.cell hu, h.ws _ _ _ hu hj⟩
end Go.Proofs.YtglniapfnhedoaaGreatDoor
namespace Go.Proofs.YtglniapfnhedoaaGreatDoor
open Go.RowKit
set_option linter.unusedVariables false
theorem ln_any (Wb w : World) (base S bw bt bf : Nat) (v : Value) (k : Wd) (l : List Wd) (d : Dk) (o f n : Nat) (hb : Wb.heap.size ≤ base) (hB : B Wb w) (hbw : base ≤ w.heap.size) (hv : IsWd Wb v (k :: l)) (hL : LnSt w base S bw bt bf d o f) (hN : DkN d n) (hn : n ≤ 65536) (hlong : ∀ x ∈ l, x.2.length ≤ 65536) (hk : isDeckW k.2 = true) :
  Calls Tryz.prog 45 #[.pointer (some ⟨S, 0, none⟩), v] w (LnPost base S bw bt bf n (stepD (k :: l) d o f) w) := by
 unfold isDeckW at hk
 simp only [Bool.or_eq_true, decide_eq_true_eq] at hk
 rcases hk with (((h | h) | h) | h) | h
 ·exact ln_Round Wb w base S bw bt bf v k l d o f n hb hB hbw hv hL hN hn hlong h
 ·exact ln_Box Wb w base S bw bt bf v k l d o f n hb hB hbw hv hL hN hn hlong h
 ·exact ln_Ware Wb w base S bw bt bf v k l d o f n hb hB hbw hv hL hN hn hlong h
 ·exact ln_Tip Wb w base S bw bt bf v k l d o f n hb hB hbw hv hL hN hn hlong h
 ·exact ln_Fill Wb w base S bw bt bf v k l d o f n hb hB hbw hv hL hN hn hlong h
theorem lenS_deck (k : List UInt8) : decide ((0 : Int) < lenS (strB k)) = isDeckW k := by
 unfold lenS isDeckW kRound kBox kWare kTip kFill
 rw [strB_toList]
 by_cases h1 : k = [102, 105, 108, 108]
 ·simp [h1]
 ·by_cases h2 : k = [114, 111, 117, 110, 100]
  ·simp [h2]
  ·by_cases h3 : k = [119, 97, 114, 101]
   ·simp [h3]
   ·by_cases h4 : k = [116, 105, 112]
    ·simp [h4]
    ·by_cases h5 : k = [98, 111, 120]
     ·simp [h5]
     ·simp [h1, h2, h3, h4, h5]
theorem parseD_end {L : List (List Wd)} {d : Dk} {o f : Nat} (h : L = [] ∨ ∃ k x L', L = (k :: x) :: L' ∧ isDeckW k.2 = false) : parseD L d o f = if wholeD d o = true then (d, L, 0, 0) else (dk0, [], f, 23) := by
 rcases h with rfl | ⟨k, x, L', rfl, hk⟩
 ·rfl
 ·unfold isDeckW at hk
  simp only [Bool.or_eq_false_iff, decide_eq_false_iff_not] at hk
  obtain ⟨⟨⟨⟨h1, h2⟩, h3⟩, h4⟩, h5⟩ := hk
  rw [parseD]
  simp only [h1, h2, h3, h4, h5, or_self, if_false]
  cases hw : wholeD d o <;> simp
def ParseRes (L : List (List Wd)) (w : World) (r : Ending) (w' : World) : Prop :=
 ∃ wv tv fv rv, r = .returned (.tuple #[.agg #[wv, tv, fv], rv, .int .i64 ((parseD L dk0 0 0).2.2.1 : Nat), .int .i64 ((parseD L dk0 0 0).2.2.2 : Nat)]) ∧ IsDk w' wv tv fv (parseD L dk0 0 0).1 ∧ IsLnO w' rv (parseD L dk0 0 0).2.1 ∧ B w w'
set_option maxRecDepth 100000 in
set_option maxHeartbeats 4000000 in
theorem parse_any (v : Value) (L : List (List Wd)) (w : World) (h : IsLnO w v L) (hne : ∀ ws ∈ L, 0 < ws.length) (hL : L.length ≤ 65536) (hws : ∀ ws ∈ L, ws.length ≤ 65536) (hlong : ∀ ws ∈ L, ∀ x ∈ ws, x.2.length ≤ 65536) :
  Calls Tryz.prog 12 #[v] w (ParseRes L w) := by
 obtain ⟨PP, hPP⟩ : ∃ PP, parseD L dk0 0 0 = PP := ⟨_, rfl⟩
 unfold ParseRes
 rw [hPP]
 have q0 : B w (w.alloc (.cells #[.slice none 0 0, .slice none 0 0, .slice none 0 0] 26)) := (B.refl w).alloc _ _
 have oD := obj_new w (.cells #[.slice none 0 0, .slice none 0 0, .slice none 0 0] 26)
 have c1 := said_any v L _ (h.keep q0) hne hL hws
 go_enter Tryz.func12, Tryz.ntmps12
 go_wp2_with fail
 refine (Calls.mono c1 ?_)
 rintro _ W1 ⟨g, cap, vs, rfl, hown, hvs, q1⟩
 clear c1
 replace hown : W1.ownsRow w.heap.size 96 1 (.slice (some ⟨g, 0, none⟩) L.length cap) L.length vs := ⟨hown.1, hown.2.imp id fun ⟨g, cap, cur, a, b, c⟩ => ⟨g, cap, cur, a, Nat.le_trans q0.below.size b, c⟩⟩
 replace oD := q1.obj oD
 have hHn := obj_lt oD
 go_wp2_with fail
 refine (newStand_any none none none 0 0 0 0 0 0 _).mono ?_
 rintro _ w2 ⟨S, bw, bt, bf, rfl, oS, m1, m2, m3, g1, g2, g3, g4, x1, x2, x3, q2⟩
 have hS0 : StAt w2 W1.heap.size S bw bt bf (.slice none 0 0) (.slice none 0 0) (.slice none 0 0) (.pointer none) 0 dk0 [] [] [] [] [] := ⟨oS, Rows.start _ _, m1, m2, m3, g1, g2, g3, g4, x1, x2, x3⟩
 have hL0 : LnSt w2 W1.heap.size S bw bt bf dk0 0 0 := ⟨_, _, _, _, _, _, _, hS0, .inl ⟨rfl, rfl⟩, fun h => absurd rfl h⟩
 have hN0 : DkN dk0 0 := ⟨fun x hx => by simp [dk0] at hx, by simp [dk0], by simp [dk0], by simp [dk0], fun x hx => by simp [dk0] at hx, fun x hx => by simp [dk0] at hx⟩
 have qW := q0.trans q1
 have hPP0 : parseD (L.drop 0) dk0 0 0 = PP := hPP
 clear oS m1 m2 m3 g1 g2 g3 g4 hS0 hPP h q0 q1 x1 x2 x3
 have hvl : vs.length = L.length := by have := hown.1; omega
 replace oD : ∀ {x}, B W1 x → x.heap[w.heap.size]? = _ := fun {x} q => q.obj oD
 have qRes : ∀ (b : World), B w b → ∀ x y z, B w (((b.setCell ⟨w.heap.size, 0, none⟩ x).setCell ⟨w.heap.size, 1, none⟩ y).setCell ⟨w.heap.size, 2, none⟩ z) := fun b hb x y z => b_three hb (Nat.le_refl _) x y z
 go_wp2_with fail
 go_loopw [8] (fun iv wr => ∃ (i : Nat) (d : Dk) (o f : Nat), i ≤ L.length ∧ iv = .int .i64 i ∧ LnSt wr W1.heap.size S bw bt bf d o f ∧ DkN d i ∧ Tn kS W1.heap.size w2 wr ∧ parseD (L.drop i) d o f = PP) (fun iv _ => L.length + 1 - (intOf iv).toNat)
 case atStart => exact ⟨0, _, _, _, Nat.zero_le _, rfl, hL0, hN0, Tn.refl _ _ _, hPP0⟩
 case round =>
  obtain ⟨i, d, o, f, hi, rfl, hLn, hN, tw, hP⟩ := hrel
  clear hL0 hN0 hPP0
  have qr : B W1 wr := tw.toB q2 (Nat.le_refl _)
  have hbase : W1.heap.size ≤ wr.heap.size := qr.below.size
  have oDr := oD qr
  have hownr := ownsRow_keepB hown qr
  by_cases hl : i < L.length
  ·have hlB : decide ((i : Int) < (L.length : Int)) = true := decide_eq_true (by omega)
   have hlI : (i : Int) < (L.length : Int) := by omega
   have hi0' : (0 : Int) ≤ (i : Int) := by omega
   have wk1 : IntKind.i64.wrap ((i : Int) + 1) = (i : Int) + 1 := by rw [IntKind.wrap_i64]; omega
   have hLi : L[i]? = some L[i] := List.getElem?_eq_getElem hl
   have hmem := List.getElem_mem hl
   obtain ⟨k, l, hkl⟩ : ∃ k l, L[i] = k :: l := by
    have := hne _ hmem
    cases hx : L[i] with
    | nil => rw [hx] at this; simp at this
    | cons k l => exact ⟨k, l, rfl⟩
   rw [hkl] at hLi hmem
   have hdrop : L.drop i = (k :: l) :: L.drop (i + 1) := by rw [List.drop_eq_getElem_cons hl, hkl]
   clear hkl
   obtain ⟨u, hu⟩ : ∃ u, vs[i]? = some u := ⟨_, List.getElem?_eq_getElem (by omega)⟩
   have hW := hvs i u _ hu hLi
   have hcell := hownr.cells (g := g) rfl i u hu
   rw [addz] at hcell
   have hWd := hW.wd (by simp)
   obtain ⟨ug, uo, ucap, rfl, u2, u3, u4⟩ := hWd
   have y1 : wr.cell? ⟨ug, uo + 1, none⟩ = some (.string (strB k.2)) := qr.keep (by simpa using (u4 0 k rfl).2)
   have hul : (0 : Int) < ((l.length : Int) + 1) := by omega
   have cl := fun w => length9_any (strB k.2) w
   have hls := lenS_deck k.2
   cases hdk : isDeckW k.2
   ·rw [hdk] at hls
    have hPe := (parseD_end (d := d) (o := o) (f := f) (L := L.drop i) (.inr ⟨k, l, _, hdrop, hdk⟩)).symm.trans hP
    generalize lenS (strB k.2) = LN at *
    clear hdrop hP hW u4 hu hLi hmem
    obtain ⟨wv, tv, fv, pv, head, ss, tt, hS, hO, hh⟩ := hLn
    have hRow : RowL wr w.heap.size g cap L vs := ⟨hownr, fun m u ws h1 h2 => (hvs m u ws h1 h2).keep qr, fun m u h1 => by
     have hml : m < L.length := by have := (List.getElem?_eq_some_iff.1 h1).1; omega
     obtain ⟨ao, c, e⟩ := (hvs m u _ h1 (List.getElem?_eq_getElem hml)).form
     exact ⟨_, _, _, e⟩⟩
    cases hw : wholeD d o
    ·rw [hw] at hPe
     have ho : o ≠ 0 := by rintro rfl; cases hw
     have cF := fin_no hS hO hw wr (B.refl _)
     have hhf := hh ho
     obtain ⟨fa, hfa⟩ : ∃ fa, fa = head := ⟨_, rfl⟩
     obtain ⟨fe, hfe0⟩ : ∃ fe : Int, fe = 23 := ⟨_, rfl⟩
     rw [← hfa, ← hfe0] at cF
     rw [← hfa] at hhf
     have hfe : fe ≠ 0 := by omega
     replace hfa := Lib.hid hhf
     replace hfe0 := Lib.hid (show fe = ((23 : Nat) : Int) from hfe0)
     have hP := Lib.hid (show (dk0, [], f, 23) = PP by simpa using hPe)
     clear hPe hhf hh hO hw hN hRow hownr
     go_wp2_with (go_at_call 44; refine (cl _).mono ?_; rintro _ _ ⟨rfl, rfl⟩)
     refine (Calls.mono cF ?_)
     rintro _ w3 ⟨rfl, _, t3⟩
     have q3 : B W1 w3 := t3.toB qr (Nat.le_refl _)
     clear cF hS tw t3
     have qF : B w3 (w3.alloc (.cells #[.int .i64 fa, .int .i64 fe] 98)) := (B.refl w3).alloc _ _
     have oD3 := oD (q3.trans qF)
     have oF3 := obj_new w3 (.cells #[.int .i64 fa, .int .i64 fe] 98)
     have hne0 : (fe != 0) = true := by simpa using hfe
     have qw3 := qW.trans (q3.trans qF)
     have hHlt := obj_lt (oD q3)
     go_wp2_with fail
     generalize (w3.alloc (.cells #[.int .i64 fa, .int .i64 fe] 98)) = w4 at *
     generalize w3.heap.size = F4 at *
     have b0 : w4.cell? ⟨w.heap.size, 0, none⟩ = some (.slice none 0 0) := obj_cell oD3 0
     have b1 : w4.cell? ⟨w.heap.size, 1, none⟩ = some (.slice none 0 0) := obj_cell oD3 1
     have b2 : w4.cell? ⟨w.heap.size, 2, none⟩ = some (.slice none 0 0) := obj_cell oD3 2
     have e0 := obj_free oD3 0
     have e1 := obj_free oD3 1
     have e2 := obj_free oD3 2
     have f0 : w4.cell? ⟨F4, 0, none⟩ = some (.int .i64 fa) := obj_cell oF3 0
     have f1 : w4.cell? ⟨F4, 1, none⟩ = some (.int .i64 fe) := obj_cell oF3 1
     have hHne : ¬ F4 = w.heap.size := by omega
     have hHne2 : ¬ w.heap.size = F4 := by omega
     have hq := qRes w4 qw3 (.slice none 0 0) (.slice none 0 0) (.slice none 0 0)
     have oE := obj_three oD3 (.slice none 0 0) (.slice none 0 0) (.slice none 0 0)
     clear oD qRes
     generalize w.heap.size = H at *
     have b0' : w4.drew.cell? ⟨H, 0, none⟩ = some (.slice none 0 0) := b0
     have b1' : w4.drew.cell? ⟨H, 1, none⟩ = some (.slice none 0 0) := b1
     have b2' : w4.drew.cell? ⟨H, 2, none⟩ = some (.slice none 0 0) := b2
     have e0' : w4.drew.frozen? ⟨H, 0, none⟩ = false := e0
     have e1' : w4.drew.frozen? ⟨H, 1, none⟩ = false := e1
     have e2' : w4.drew.frozen? ⟨H, 2, none⟩ = false := e2
     have f0' : w4.drew.cell? ⟨F4, 0, none⟩ = some (.int .i64 fa) := f0
     have f1' : w4.drew.cell? ⟨F4, 1, none⟩ = some (.int .i64 fe) := f1
     go_region
     all_goals
      go_wp2
      have c0 := obj_cell oE 0
      have c1 := obj_cell oE 1
      have c2 := obj_cell oE 2
      exact bodyPost_ret (v := .tuple #[.agg #[.slice none 0 0, .slice none 0 0, .slice none 0 0], .slice none 0 0, .int .i64 fa, .int .i64 fe]) (by simp [results, Tryz.results12, go_sem, c0, c1, c2]) rfl
       ⟨_, _, _, _, by rw [← hP.out, hfa.out, hfe0.out], by rw [← hP.out]; exact ⟨.inl ⟨rfl, rfl⟩, .inl ⟨rfl, rfl⟩, .inl ⟨rfl, rfl⟩⟩, by rw [← hP.out]; exact .inl ⟨rfl, rfl⟩, hq.drew⟩
    ·rw [hw] at hPe
     have cF := fin_yes hS hO hw wr (B.refl _)
     have hP := Lib.hid (show (d, L.drop i, 0, 0) = PP by simpa using hPe)
     clear hPe hh hO hw hS hN
     go_wp2_with (go_at_call 44; refine (cl _).mono ?_; rintro _ _ ⟨rfl, rfl⟩)
     refine (Calls.mono cF ?_)
     rintro _ w3 ⟨rfl, hS3, t3⟩
     have q3 : B W1 w3 := t3.toB qr (Nat.le_refl _)
     have qF : B w3 (w3.alloc (.cells #[.int .i64 0, .int .i64 0] 98)) := (B.refl w3).alloc _ _
     have oD3 := oD (q3.trans qF)
     have hRow3 : RowL (w3.alloc (.cells #[.int .i64 0, .int .i64 0] 98)) w.heap.size g cap L vs := ⟨ownsRow_keepB hown (q3.trans qF), fun m u ws h1 h2 => (hvs m u ws h1 h2).keep (q3.trans qF), hRow.sl⟩
     have hS4 := hS3.b qF
     have hB4 := qW.trans (q3.trans qF)
     have hcap : L.length ≤ cap ∧ cap ≤ maxLen := by
      rcases hown.2 with ⟨h1, _⟩ | ⟨g', cap', cur, h1, _, _, h2, h3, _⟩
      ·cases h1
      ·simp only [Value.slice.injEq] at h1
       exact ⟨h1.2.2 ▸ h2, h1.2.2 ▸ h3⟩
     have kc1 : (i : Int) ≤ (cap : Int) := by omega
     have kc2 : (i : Int) ≤ (L.length : Int) := by omega
     have kc3 : (L.length : Int) ≤ (cap : Int) := by omega
     clear cF tw t3 hRow hownr hown hvs qr q3 qF hS3 oDr oD qW
     go_wp2_with (go_at_call 44; refine (cl _).mono ?_; rintro _ _ ⟨rfl, rfl⟩)
     have hwx : B (w3.alloc (.cells #[.int .i64 0, .int .i64 0] 98)) (w3.alloc (.cells #[.int .i64 0, .int .i64 0] 98)) := B.refl _
     generalize (w3.alloc (.cells #[.int .i64 0, .int .i64 0] 98)) = w4 at *
     generalize hF4 : w3.heap.size = F4 at *
     generalize hrl : L.length - i = rl at *
     go_loopw [64] (fun jv wx => ∃ (j : Nat) (us : List Value), j ≤ rl ∧ jv = .int .i64 j ∧ RowL wx w.heap.size g cap L us ∧ StAt wx W1.heap.size S bw bt bf wv tv fv (.pointer none) head d (d.ws.map Rec.n) (d.ts.map Rec.n) d.fs ss tt ∧ wx.heap[w.heap.size]? = some (.cells #[.slice none 0 0, .slice none 0 0, .slice none 0 0] 26 (0, 0)) ∧ B w wx) (fun jv _ => rl + 1 - (intOf jv).toNat)
     case atStart => exact ⟨0, vs, Nat.zero_le _, rfl, hRow3, hS4, oD3, hB4⟩
     case round =>
      obtain ⟨j, us, hj, rfl, hRx, hSx, oDx, hBx⟩ := hrel
      clear hRow3 hS4 oD3 hB4 hwx
      by_cases hjl : j < rl
      ·have hjB : decide ((j : Int) < (rl : Int)) = true := decide_eq_true (by omega)
       have hjI : (j : Int) < (rl : Int) := by omega
       have hj0 : (0 : Int) ≤ (j : Int) := by omega
       have wj1 : IntKind.i64.wrap ((j : Int) + 1) = (j : Int) + 1 := by rw [IntKind.wrap_i64]; omega
       obtain ⟨u, hu⟩ : ∃ u, us[i + j]? = some u := ⟨_, List.getElem?_eq_getElem (by rw [hRx.len]; omega)⟩
       obtain ⟨wsj, hwj⟩ : ∃ ws, L[i + j]? = some ws := ⟨_, List.getElem?_eq_getElem (by omega)⟩
       have hWj := hRx.ws _ _ _ hu hwj
       have hcj := hRx.cell hu
       obtain ⟨ua, uc, rfl⟩ := hWj.form
       have hpj := hne _ (List.mem_of_getElem? hwj)
       have cC := clone_any _ wsj wr hWj hpj (hws _ (List.mem_of_getElem? hwj))
       generalize wsj.length = wl at *
       go_wp2_with fail
       refine (Calls.mono cC ?_)
       rintro _ w5 ⟨g5, cap5, rfl, hW5, q5⟩
       have hR5 := hRx.b q5
       have hc5 := hR5.cell hu
       have hf5 := hR5.own.frozenAt (i + j)
       have HZ := Lib.hid (And.intro hR5 (And.intro hW5 (And.intro (hSx.b q5) (And.intro (q5.obj oDx) (And.intro (hBx.trans q5) (And.intro hjl (And.intro hwj hrl)))))))
       clear hrl hR5 hW5 hSx oDx hBx q5 hRx hu hwj hWj hcj cC hj hjl hP
       go_wp2
       go_roundw
       case rel =>
        obtain ⟨hR5, hW5, hS5, oD5, hB5, hjl, hwj, hrl⟩ := HZ.out
        obtain ⟨hgb, curg, hgo⟩ := ownsRow_obj hR5.own (i := g) rfl
        have tg : Tn [some 96] 0 w5 (w5.setCell ⟨g, i + j, none⟩ (.slice (some ⟨g5, 0, none⟩) wl cap5)) := Tn.set (p := ⟨g, i + j, none⟩) (Tn.refl _ 0 w5) hgo (by decide) (Nat.zero_le _) _
        exact ⟨j + 1, _, by omega, by go_num, hR5.put hne hwj hW5, hS5.tn tg (by decide) (by decide) (by decide) (by decide) (by decide) (by decide), tg.objc oD5 (by decide), hB5.setCell (p := ⟨g, i + j, none⟩) hgb _⟩
       case measure => have := HZ.out; simp [intOf]; omega
      ·have hjB : decide ((j : Int) < (rl : Int)) = false := decide_eq_false (by omega)
       have hjB' : decide (j < rl) = false := decide_eq_false (by omega)
       obtain rfl : j = rl := by omega
       obtain ⟨a0, c0, e0⟩ := hSx.rows.dk.ws.form
       obtain ⟨a1, c1, e1⟩ := hSx.rows.dk.ts.form
       obtain ⟨a2, c2, e2⟩ := hSx.rows.dk.fs.form
       subst e0 e1 e2
       have z0 : wr.cell? ⟨S, 0, none⟩ = some (.slice a0 d.ws.length c0) := obj_cell hSx.obj 0
       have z1 : wr.cell? ⟨S, 1, none⟩ = some (.slice a1 d.ts.length c1) := obj_cell hSx.obj 1
       have z2 : wr.cell? ⟨S, 2, none⟩ = some (.slice a2 d.fs.length c2) := obj_cell hSx.obj 2
       have b0 : wr.cell? ⟨w.heap.size, 0, none⟩ = some (.slice none 0 0) := obj_cell oDx 0
       have b1 : wr.cell? ⟨w.heap.size, 1, none⟩ = some (.slice none 0 0) := obj_cell oDx 1
       have b2 : wr.cell? ⟨w.heap.size, 2, none⟩ = some (.slice none 0 0) := obj_cell oDx 2
       have f0 := obj_free oDx 0
       have f1 := obj_free oDx 1
       have f2 := obj_free oDx 2
       have hq := qRes wr hBx (.slice a0 d.ws.length c0) (.slice a1 d.ts.length c1) (.slice a2 d.fs.length c2)
       have oE := obj_three oDx (.slice a0 d.ws.length c0) (.slice a1 d.ts.length c1) (.slice a2 d.fs.length c2)
       have hRE := hRx.box hne oDx rfl (.slice a0 d.ws.length c0) (.slice a1 d.ts.length c1) (.slice a2 d.fs.length c2)
       have tD : Tn [some 26] 0 wr (((wr.setCell ⟨w.heap.size, 0, none⟩ (.slice a0 d.ws.length c0)).setCell ⟨w.heap.size, 1, none⟩ (.slice a1 d.ts.length c1)).setCell ⟨w.heap.size, 2, none⟩ (.slice a2 d.fs.length c2)) :=
        Tn.set (p := ⟨w.heap.size, 2, none⟩) (Tn.set (p := ⟨w.heap.size, 1, none⟩) (Tn.set (p := ⟨w.heap.size, 0, none⟩) (Tn.refl _ 0 _) oDx (by decide) (Nat.zero_le _) _) (obj_set oDx 0 _) (by decide) (Nat.zero_le _) _) (obj_set (obj_set oDx 0 _) 1 _) (by decide) (Nat.zero_le _) _
       have hDk := (hSx.rows.tn tD (by decide) (by decide) (by decide) (by decide)).dk
       have hLn := hRE.lnO (i := i) (cap' := cap - i) (by omega) (by omega) (by omega)
       rw [hrl] at hLn
       have HZ := Lib.hid (And.intro hDk (And.intro hLn (And.intro hq oE)))
       clear hDk hLn hq oE hRE tD hRx hSx oDx hBx qRes hrl
       generalize w.heap.size = H at *
       go_wp2
       obtain ⟨hDk, hLn, hq, oE⟩ := HZ.out
       have c0' := obj_cell oE 0
       have c1' := obj_cell oE 1
       have c2' := obj_cell oE 2
       exact bodyPost_ret (v := .tuple #[.agg #[.slice a0 d.ws.length c0, .slice a1 d.ts.length c1, .slice a2 d.fs.length c2], .slice (some ⟨g, i, none⟩) j (cap - i), .int .i64 0, .int .i64 0]) (by simp [results, Tryz.results12, go_sem, c0', c1', c2']) rfl
        ⟨_, _, _, _, by rw [← hP.out]; rfl, by rw [← hP.out]; exact hDk, by rw [← hP.out]; exact hLn, hq⟩
   ·rw [hdk] at hls
    have cL := ln_any W1 wr W1.heap.size S bw bt bf _ k l d o f i (Nat.le_refl _) qr hbase ⟨ug, uo, ucap, rfl, u2, u3, u4⟩ hLn hN (by omega) (fun x hx => hlong _ hmem x (by simp [hx])) hdk
    have hPs := parseD_step k l (L.drop (i + 1)) d o f hdk
    rw [hdrop, hPs] at hP
    generalize lenS (strB k.2) = LN at *
    clear hPs hdrop hW u4 hu hLi hmem
    go_wp2_with (go_at_call 44; refine (cl _).mono ?_; rintro _ _ ⟨rfl, rfl⟩)
    refine (Calls.mono cL ?_)
    rintro _ w3 ⟨fa, fe, rfl, t3, hres⟩
    have q3 : B W1 w3 := t3.toB qr (Nat.le_refl _)
    cases hs : stepD (k :: l) d o f with
    | error z =>
     rw [hs] at hres hP
     obtain ⟨hfa, hfe0, hz⟩ := hres
     have hfe : fe ≠ 0 := by rw [hfe0]; omega
     replace hfa := Lib.hid hfa
     replace hfe0 := Lib.hid hfe0
     replace hP := Lib.hid hP
     clear hs hz
     have qF : B w3 (w3.alloc (.cells #[.int .i64 fa, .int .i64 fe] 98)) := (B.refl w3).alloc _ _
     have oD3 := oD (q3.trans qF)
     have oF3 := obj_new w3 (.cells #[.int .i64 fa, .int .i64 fe] 98)
     have hne0 : (fe != 0) = true := by simpa using hfe
     have qw3 := qW.trans (q3.trans qF)
     have hHlt := obj_lt (oD q3)
     go_wp2_with fail
     generalize (w3.alloc (.cells #[.int .i64 fa, .int .i64 fe] 98)) = w4 at *
     generalize w3.heap.size = F4 at *
     have b0 : w4.cell? ⟨w.heap.size, 0, none⟩ = some (.slice none 0 0) := obj_cell oD3 0
     have b1 : w4.cell? ⟨w.heap.size, 1, none⟩ = some (.slice none 0 0) := obj_cell oD3 1
     have b2 : w4.cell? ⟨w.heap.size, 2, none⟩ = some (.slice none 0 0) := obj_cell oD3 2
     have e0 := obj_free oD3 0
     have e1 := obj_free oD3 1
     have e2 := obj_free oD3 2
     have f0 : w4.cell? ⟨F4, 0, none⟩ = some (.int .i64 fa) := obj_cell oF3 0
     have f1 : w4.cell? ⟨F4, 1, none⟩ = some (.int .i64 fe) := obj_cell oF3 1
     have hHne : ¬ F4 = w.heap.size := by omega
     have hHne2 : ¬ w.heap.size = F4 := by omega
     have hq := qRes w4 qw3 (.slice none 0 0) (.slice none 0 0) (.slice none 0 0)
     have oE := obj_three oD3 (.slice none 0 0) (.slice none 0 0) (.slice none 0 0)
     clear oD qRes
     generalize w.heap.size = H at *
     have b0' : w4.drew.cell? ⟨H, 0, none⟩ = some (.slice none 0 0) := b0
     have b1' : w4.drew.cell? ⟨H, 1, none⟩ = some (.slice none 0 0) := b1
     have b2' : w4.drew.cell? ⟨H, 2, none⟩ = some (.slice none 0 0) := b2
     have e0' : w4.drew.frozen? ⟨H, 0, none⟩ = false := e0
     have e1' : w4.drew.frozen? ⟨H, 1, none⟩ = false := e1
     have e2' : w4.drew.frozen? ⟨H, 2, none⟩ = false := e2
     have f0' : w4.drew.cell? ⟨F4, 0, none⟩ = some (.int .i64 fa) := f0
     have f1' : w4.drew.cell? ⟨F4, 1, none⟩ = some (.int .i64 fe) := f1
     go_region
     all_goals
      go_wp2
      have c0 := obj_cell oE 0
      have c1 := obj_cell oE 1
      have c2 := obj_cell oE 2
      exact bodyPost_ret (v := .tuple #[.agg #[.slice none 0 0, .slice none 0 0, .slice none 0 0], .slice none 0 0, .int .i64 fa, .int .i64 fe]) (by simp [results, Tryz.results12, go_sem, c0, c1, c2]) rfl
       ⟨_, _, _, _, by rw [← hP.out, hfa.out, hfe0.out], by rw [← hP.out]; exact ⟨.inl ⟨rfl, rfl⟩, .inl ⟨rfl, rfl⟩, .inl ⟨rfl, rfl⟩⟩, by rw [← hP.out]; exact .inl ⟨rfl, rfl⟩, hq.drew⟩
    | ok z =>
     obtain ⟨d', o', f'⟩ := z
     rw [hs] at hres hP
     obtain ⟨rfl, rfl, hL3, hN3⟩ := hres
     have HR := Lib.hid (And.intro hP (And.intro hL3 (And.intro hN3 (And.intro (tw.trans t3) hl))))
     clear hP hL3 hN3 hs hl hlI hLn hN tw t3 cL hown hownr oD oDr qRes qW q2 q3 qr hcell y1 hHn
     go_wp2
     go_roundw
     case rel =>
      obtain ⟨hP, hL3, hN3, t23, hl⟩ := HR.out
      exact ⟨i + 1, d', o', f', by omega, by go_num, hL3.b ((B.refl _).alloc _ _), hN3, t23.alloc _ _, hP⟩
     case measure => have := HR.out; simp [intOf]; omega
  ·have hlB : decide ((i : Int) < (L.length : Int)) = false := decide_eq_false (by omega)
   have hPe := (parseD_end (d := d) (o := o) (f := f) (L := L.drop i) (.inl (List.drop_eq_nil_of_le (by omega)))).symm.trans hP
   clear hP
   obtain ⟨wv, tv, fv, pv, head, ss, tt, hS, hO, hh⟩ := hLn
   have hRow : RowL wr w.heap.size g cap L vs := ⟨hownr, fun m u ws h1 h2 => (hvs m u ws h1 h2).keep qr, fun m u h1 => by
    have hml : m < L.length := by have := (List.getElem?_eq_some_iff.1 h1).1; omega
    obtain ⟨ao, c, e⟩ := (hvs m u _ h1 (List.getElem?_eq_getElem hml)).form
    exact ⟨_, _, _, e⟩⟩
   cases hw : wholeD d o
   ·rw [hw] at hPe
    have ho : o ≠ 0 := by rintro rfl; cases hw
    have cF := fin_no hS hO hw wr (B.refl _)
    have hhf := hh ho
    obtain ⟨fa, hfa⟩ : ∃ fa, fa = head := ⟨_, rfl⟩
    obtain ⟨fe, hfe0⟩ : ∃ fe : Int, fe = 23 := ⟨_, rfl⟩
    rw [← hfa, ← hfe0] at cF
    rw [← hfa] at hhf
    have hfe : fe ≠ 0 := by omega
    replace hfa := Lib.hid hhf
    replace hfe0 := Lib.hid (show fe = ((23 : Nat) : Int) from hfe0)
    have hP := Lib.hid (show (dk0, [], f, 23) = PP by simpa using hPe)
    clear hPe hhf hh hO hw hN hRow hownr
    go_wp2_with fail
    refine (Calls.mono cF ?_)
    rintro _ w3 ⟨rfl, _, t3⟩
    have q3 : B W1 w3 := t3.toB qr (Nat.le_refl _)
    clear cF hS tw t3
    have qF : B w3 (w3.alloc (.cells #[.int .i64 fa, .int .i64 fe] 98)) := (B.refl w3).alloc _ _
    have oD3 := oD (q3.trans qF)
    have oF3 := obj_new w3 (.cells #[.int .i64 fa, .int .i64 fe] 98)
    have hne0 : (fe != 0) = true := by simpa using hfe
    have qw3 := qW.trans (q3.trans qF)
    have hHlt := obj_lt (oD q3)
    go_wp2_with fail
    generalize (w3.alloc (.cells #[.int .i64 fa, .int .i64 fe] 98)) = w4 at *
    generalize w3.heap.size = F4 at *
    have b0 : w4.cell? ⟨w.heap.size, 0, none⟩ = some (.slice none 0 0) := obj_cell oD3 0
    have b1 : w4.cell? ⟨w.heap.size, 1, none⟩ = some (.slice none 0 0) := obj_cell oD3 1
    have b2 : w4.cell? ⟨w.heap.size, 2, none⟩ = some (.slice none 0 0) := obj_cell oD3 2
    have e0 := obj_free oD3 0
    have e1 := obj_free oD3 1
    have e2 := obj_free oD3 2
    have f0 : w4.cell? ⟨F4, 0, none⟩ = some (.int .i64 fa) := obj_cell oF3 0
    have f1 : w4.cell? ⟨F4, 1, none⟩ = some (.int .i64 fe) := obj_cell oF3 1
    have hHne : ¬ F4 = w.heap.size := by omega
    have hHne2 : ¬ w.heap.size = F4 := by omega
    have hq := qRes w4 qw3 (.slice none 0 0) (.slice none 0 0) (.slice none 0 0)
    have oE := obj_three oD3 (.slice none 0 0) (.slice none 0 0) (.slice none 0 0)
    clear oD qRes
    generalize w.heap.size = H at *
    have b0' : w4.drew.cell? ⟨H, 0, none⟩ = some (.slice none 0 0) := b0
    have b1' : w4.drew.cell? ⟨H, 1, none⟩ = some (.slice none 0 0) := b1
    have b2' : w4.drew.cell? ⟨H, 2, none⟩ = some (.slice none 0 0) := b2
    have e0' : w4.drew.frozen? ⟨H, 0, none⟩ = false := e0
    have e1' : w4.drew.frozen? ⟨H, 1, none⟩ = false := e1
    have e2' : w4.drew.frozen? ⟨H, 2, none⟩ = false := e2
    have f0' : w4.drew.cell? ⟨F4, 0, none⟩ = some (.int .i64 fa) := f0
    have f1' : w4.drew.cell? ⟨F4, 1, none⟩ = some (.int .i64 fe) := f1
    go_region
    all_goals
     go_wp2
     have c0 := obj_cell oE 0
     have c1 := obj_cell oE 1
     have c2 := obj_cell oE 2
     exact bodyPost_ret (v := .tuple #[.agg #[.slice none 0 0, .slice none 0 0, .slice none 0 0], .slice none 0 0, .int .i64 fa, .int .i64 fe]) (by simp [results, Tryz.results12, go_sem, c0, c1, c2]) rfl
      ⟨_, _, _, _, by rw [← hP.out, hfa.out, hfe0.out], by rw [← hP.out]; exact ⟨.inl ⟨rfl, rfl⟩, .inl ⟨rfl, rfl⟩, .inl ⟨rfl, rfl⟩⟩, by rw [← hP.out]; exact .inl ⟨rfl, rfl⟩, hq.drew⟩
   ·rw [hw] at hPe
    have cF := fin_yes hS hO hw wr (B.refl _)
    have hP := Lib.hid (show (d, L.drop i, 0, 0) = PP by simpa using hPe)
    clear hPe hh hO hw hS hN
    go_wp2_with fail
    refine (Calls.mono cF ?_)
    rintro _ w3 ⟨rfl, hS3, t3⟩
    have q3 : B W1 w3 := t3.toB qr (Nat.le_refl _)
    have qF : B w3 (w3.alloc (.cells #[.int .i64 0, .int .i64 0] 98)) := (B.refl w3).alloc _ _
    have oD3 := oD (q3.trans qF)
    have hRow3 : RowL (w3.alloc (.cells #[.int .i64 0, .int .i64 0] 98)) w.heap.size g cap L vs := ⟨ownsRow_keepB hown (q3.trans qF), fun m u ws h1 h2 => (hvs m u ws h1 h2).keep (q3.trans qF), hRow.sl⟩
    have hS4 := hS3.b qF
    have hB4 := qW.trans (q3.trans qF)
    have hcap : L.length ≤ cap ∧ cap ≤ maxLen := by
     rcases hown.2 with ⟨h1, _⟩ | ⟨g', cap', cur, h1, _, _, h2, h3, _⟩
     ·cases h1
     ·simp only [Value.slice.injEq] at h1
      exact ⟨h1.2.2 ▸ h2, h1.2.2 ▸ h3⟩
    have kc1 : (i : Int) ≤ (cap : Int) := by omega
    have kc2 : (i : Int) ≤ (L.length : Int) := by omega
    have kc3 : (L.length : Int) ≤ (cap : Int) := by omega
    clear cF tw t3 hRow hownr hown hvs qr q3 qF hS3 oDr oD qW
    by_cases hcc : cap = i
    ·have hccT : (cap = i) = True := by simp [hcc]
     have hiL : L.length ≤ i := by omega
     have hcr : cap - i = 0 := by omega
     clear hcc
     go_wp2_with fail
     have hwx : B (w3.alloc (.cells #[.int .i64 0, .int .i64 0] 98)) (w3.alloc (.cells #[.int .i64 0, .int .i64 0] 98)) := B.refl _
     generalize (w3.alloc (.cells #[.int .i64 0, .int .i64 0] 98)) = w4 at *
     generalize hF4 : w3.heap.size = F4 at *
     generalize hrl : L.length - i = rl at *
     go_loopw [64] (fun jv wx => ∃ (j : Nat) (us : List Value), j ≤ rl ∧ jv = .int .i64 j ∧ RowL wx w.heap.size g cap L us ∧ StAt wx W1.heap.size S bw bt bf wv tv fv (.pointer none) head d (d.ws.map Rec.n) (d.ts.map Rec.n) d.fs ss tt ∧ wx.heap[w.heap.size]? = some (.cells #[.slice none 0 0, .slice none 0 0, .slice none 0 0] 26 (0, 0)) ∧ B w wx) (fun jv _ => rl + 1 - (intOf jv).toNat)
     case atStart => exact ⟨0, vs, Nat.zero_le _, rfl, hRow3, hS4, oD3, hB4⟩
     case round =>
      obtain ⟨j, us, hj, rfl, hRx, hSx, oDx, hBx⟩ := hrel
      clear hRow3 hS4 oD3 hB4 hwx
      by_cases hjl : j < rl
      ·exfalso; omega
      ·have hjB : decide ((j : Int) < (rl : Int)) = false := decide_eq_false (by omega)
       have hjB' : decide (j < rl) = false := decide_eq_false (by omega)
       obtain rfl : j = rl := by omega
       have hz : j = 0 := by omega
       obtain ⟨a0, c0, e0⟩ := hSx.rows.dk.ws.form
       obtain ⟨a1, c1, e1⟩ := hSx.rows.dk.ts.form
       obtain ⟨a2, c2, e2⟩ := hSx.rows.dk.fs.form
       subst e0 e1 e2
       have z0 : wr.cell? ⟨S, 0, none⟩ = some (.slice a0 d.ws.length c0) := obj_cell hSx.obj 0
       have z1 : wr.cell? ⟨S, 1, none⟩ = some (.slice a1 d.ts.length c1) := obj_cell hSx.obj 1
       have z2 : wr.cell? ⟨S, 2, none⟩ = some (.slice a2 d.fs.length c2) := obj_cell hSx.obj 2
       have b0 : wr.cell? ⟨w.heap.size, 0, none⟩ = some (.slice none 0 0) := obj_cell oDx 0
       have b1 : wr.cell? ⟨w.heap.size, 1, none⟩ = some (.slice none 0 0) := obj_cell oDx 1
       have b2 : wr.cell? ⟨w.heap.size, 2, none⟩ = some (.slice none 0 0) := obj_cell oDx 2
       have f0 := obj_free oDx 0
       have f1 := obj_free oDx 1
       have f2 := obj_free oDx 2
       have hq := qRes wr hBx (.slice a0 d.ws.length c0) (.slice a1 d.ts.length c1) (.slice a2 d.fs.length c2)
       have oE := obj_three oDx (.slice a0 d.ws.length c0) (.slice a1 d.ts.length c1) (.slice a2 d.fs.length c2)
       have hRE := hRx.box hne oDx rfl (.slice a0 d.ws.length c0) (.slice a1 d.ts.length c1) (.slice a2 d.fs.length c2)
       have tD : Tn [some 26] 0 wr (((wr.setCell ⟨w.heap.size, 0, none⟩ (.slice a0 d.ws.length c0)).setCell ⟨w.heap.size, 1, none⟩ (.slice a1 d.ts.length c1)).setCell ⟨w.heap.size, 2, none⟩ (.slice a2 d.fs.length c2)) :=
        Tn.set (p := ⟨w.heap.size, 2, none⟩) (Tn.set (p := ⟨w.heap.size, 1, none⟩) (Tn.set (p := ⟨w.heap.size, 0, none⟩) (Tn.refl _ 0 _) oDx (by decide) (Nat.zero_le _) _) (obj_set oDx 0 _) (by decide) (Nat.zero_le _) _) (obj_set (obj_set oDx 0 _) 1 _) (by decide) (Nat.zero_le _) _
       have hDk := (hSx.rows.tn tD (by decide) (by decide) (by decide) (by decide)).dk
       have hLn : IsLnO (((wr.setCell ⟨w.heap.size, 0, none⟩ (.slice a0 d.ws.length c0)).setCell ⟨w.heap.size, 1, none⟩ (.slice a1 d.ts.length c1)).setCell ⟨w.heap.size, 2, none⟩ (.slice a2 d.fs.length c2)) (.slice (some ⟨g, 0, none⟩) j 0) (L.drop i) := .inr ⟨g, 0, 0, by rw [List.length_drop, hrl], by rw [List.length_drop]; omega, Nat.zero_le _, fun m ws hm => by have := (List.getElem?_eq_some_iff.1 hm).1; rw [List.length_drop] at this; omega⟩
       have HZ := Lib.hid (And.intro hDk (And.intro hLn (And.intro hq oE)))
       clear hDk hLn hq oE hRE tD hRx hSx oDx hBx qRes hrl
       generalize w.heap.size = H at *
       go_wp2
       obtain ⟨hDk, hLn, hq, oE⟩ := HZ.out
       have c0' := obj_cell oE 0
       have c1' := obj_cell oE 1
       have c2' := obj_cell oE 2
       exact bodyPost_ret (v := .tuple #[.agg #[.slice a0 d.ws.length c0, .slice a1 d.ts.length c1, .slice a2 d.fs.length c2], .slice (some ⟨g, 0, none⟩) j (0), .int .i64 0, .int .i64 0]) (by simp [results, Tryz.results12, go_sem, c0', c1', c2'] <;> omega) rfl
        ⟨_, _, _, _, by rw [← hP.out]; rfl, by rw [← hP.out]; exact hDk, by rw [← hP.out]; exact hLn, hq⟩
    ·have hci : ¬ cap = i := hcc
     clear hcc
     go_wp2_with fail
     have hwx : B (w3.alloc (.cells #[.int .i64 0, .int .i64 0] 98)) (w3.alloc (.cells #[.int .i64 0, .int .i64 0] 98)) := B.refl _
     generalize (w3.alloc (.cells #[.int .i64 0, .int .i64 0] 98)) = w4 at *
     generalize hF4 : w3.heap.size = F4 at *
     generalize hrl : L.length - i = rl at *
     go_loopw [64] (fun jv wx => ∃ (j : Nat) (us : List Value), j ≤ rl ∧ jv = .int .i64 j ∧ RowL wx w.heap.size g cap L us ∧ StAt wx W1.heap.size S bw bt bf wv tv fv (.pointer none) head d (d.ws.map Rec.n) (d.ts.map Rec.n) d.fs ss tt ∧ wx.heap[w.heap.size]? = some (.cells #[.slice none 0 0, .slice none 0 0, .slice none 0 0] 26 (0, 0)) ∧ B w wx) (fun jv _ => rl + 1 - (intOf jv).toNat)
     case atStart => exact ⟨0, vs, Nat.zero_le _, rfl, hRow3, hS4, oD3, hB4⟩
     case round =>
      obtain ⟨j, us, hj, rfl, hRx, hSx, oDx, hBx⟩ := hrel
      clear hRow3 hS4 oD3 hB4 hwx
      by_cases hjl : j < rl
      ·have hjB : decide ((j : Int) < (rl : Int)) = true := decide_eq_true (by omega)
       have hjI : (j : Int) < (rl : Int) := by omega
       have hj0 : (0 : Int) ≤ (j : Int) := by omega
       have wj1 : IntKind.i64.wrap ((j : Int) + 1) = (j : Int) + 1 := by rw [IntKind.wrap_i64]; omega
       obtain ⟨u, hu⟩ : ∃ u, us[i + j]? = some u := ⟨_, List.getElem?_eq_getElem (by rw [hRx.len]; omega)⟩
       obtain ⟨wsj, hwj⟩ : ∃ ws, L[i + j]? = some ws := ⟨_, List.getElem?_eq_getElem (by omega)⟩
       have hWj := hRx.ws _ _ _ hu hwj
       have hcj := hRx.cell hu
       obtain ⟨ua, uc, rfl⟩ := hWj.form
       have hpj := hne _ (List.mem_of_getElem? hwj)
       have cC := clone_any _ wsj wr hWj hpj (hws _ (List.mem_of_getElem? hwj))
       generalize wsj.length = wl at *
       go_wp2_with fail
       refine (Calls.mono cC ?_)
       rintro _ w5 ⟨g5, cap5, rfl, hW5, q5⟩
       have hR5 := hRx.b q5
       have hc5 := hR5.cell hu
       have hf5 := hR5.own.frozenAt (i + j)
       have HZ := Lib.hid (And.intro hR5 (And.intro hW5 (And.intro (hSx.b q5) (And.intro (q5.obj oDx) (And.intro (hBx.trans q5) (And.intro hjl (And.intro hwj hrl)))))))
       clear hrl hR5 hW5 hSx oDx hBx q5 hRx hu hwj hWj hcj cC hj hjl hP
       go_wp2
       go_roundw
       case rel =>
        obtain ⟨hR5, hW5, hS5, oD5, hB5, hjl, hwj, hrl⟩ := HZ.out
        obtain ⟨hgb, curg, hgo⟩ := ownsRow_obj hR5.own (i := g) rfl
        have tg : Tn [some 96] 0 w5 (w5.setCell ⟨g, i + j, none⟩ (.slice (some ⟨g5, 0, none⟩) wl cap5)) := Tn.set (p := ⟨g, i + j, none⟩) (Tn.refl _ 0 w5) hgo (by decide) (Nat.zero_le _) _
        exact ⟨j + 1, _, by omega, by go_num, hR5.put hne hwj hW5, hS5.tn tg (by decide) (by decide) (by decide) (by decide) (by decide) (by decide), tg.objc oD5 (by decide), hB5.setCell (p := ⟨g, i + j, none⟩) hgb _⟩
       case measure => have := HZ.out; simp [intOf]; omega
      ·have hjB : decide ((j : Int) < (rl : Int)) = false := decide_eq_false (by omega)
       have hjB' : decide (j < rl) = false := decide_eq_false (by omega)
       obtain rfl : j = rl := by omega
       obtain ⟨a0, c0, e0⟩ := hSx.rows.dk.ws.form
       obtain ⟨a1, c1, e1⟩ := hSx.rows.dk.ts.form
       obtain ⟨a2, c2, e2⟩ := hSx.rows.dk.fs.form
       subst e0 e1 e2
       have z0 : wr.cell? ⟨S, 0, none⟩ = some (.slice a0 d.ws.length c0) := obj_cell hSx.obj 0
       have z1 : wr.cell? ⟨S, 1, none⟩ = some (.slice a1 d.ts.length c1) := obj_cell hSx.obj 1
       have z2 : wr.cell? ⟨S, 2, none⟩ = some (.slice a2 d.fs.length c2) := obj_cell hSx.obj 2
       have b0 : wr.cell? ⟨w.heap.size, 0, none⟩ = some (.slice none 0 0) := obj_cell oDx 0
       have b1 : wr.cell? ⟨w.heap.size, 1, none⟩ = some (.slice none 0 0) := obj_cell oDx 1
       have b2 : wr.cell? ⟨w.heap.size, 2, none⟩ = some (.slice none 0 0) := obj_cell oDx 2
       have f0 := obj_free oDx 0
       have f1 := obj_free oDx 1
       have f2 := obj_free oDx 2
       have hq := qRes wr hBx (.slice a0 d.ws.length c0) (.slice a1 d.ts.length c1) (.slice a2 d.fs.length c2)
       have oE := obj_three oDx (.slice a0 d.ws.length c0) (.slice a1 d.ts.length c1) (.slice a2 d.fs.length c2)
       have hRE := hRx.box hne oDx rfl (.slice a0 d.ws.length c0) (.slice a1 d.ts.length c1) (.slice a2 d.fs.length c2)
       have tD : Tn [some 26] 0 wr (((wr.setCell ⟨w.heap.size, 0, none⟩ (.slice a0 d.ws.length c0)).setCell ⟨w.heap.size, 1, none⟩ (.slice a1 d.ts.length c1)).setCell ⟨w.heap.size, 2, none⟩ (.slice a2 d.fs.length c2)) :=
        Tn.set (p := ⟨w.heap.size, 2, none⟩) (Tn.set (p := ⟨w.heap.size, 1, none⟩) (Tn.set (p := ⟨w.heap.size, 0, none⟩) (Tn.refl _ 0 _) oDx (by decide) (Nat.zero_le _) _) (obj_set oDx 0 _) (by decide) (Nat.zero_le _) _) (obj_set (obj_set oDx 0 _) 1 _) (by decide) (Nat.zero_le _) _
       have hDk := (hSx.rows.tn tD (by decide) (by decide) (by decide) (by decide)).dk
       have hLn := hRE.lnO (i := i) (cap' := cap - i) (by omega) (by omega) (by omega)
       rw [hrl] at hLn
       have HZ := Lib.hid (And.intro hDk (And.intro hLn (And.intro hq oE)))
       clear hDk hLn hq oE hRE tD hRx hSx oDx hBx qRes hrl
       generalize w.heap.size = H at *
       go_wp2
       obtain ⟨hDk, hLn, hq, oE⟩ := HZ.out
       have c0' := obj_cell oE 0
       have c1' := obj_cell oE 1
       have c2' := obj_cell oE 2
       exact bodyPost_ret (v := .tuple #[.agg #[.slice a0 d.ws.length c0, .slice a1 d.ts.length c1, .slice a2 d.fs.length c2], .slice (some ⟨g, i, none⟩) j (cap - i), .int .i64 0, .int .i64 0]) (by simp [results, Tryz.results12, go_sem, c0', c1', c2']) rfl
        ⟨_, _, _, _, by rw [← hP.out]; rfl, by rw [← hP.out]; exact hDk, by rw [← hP.out]; exact hLn, hq⟩
end Go.Proofs.YtglniapfnhedoaaGreatDoor
namespace Go.Proofs.YtglniapfnhedoaaGreatDoor
open Go.RowKit
theorem ofWord_any (n : Nat) (w : World) : Calls Tryz.prog 79 #[.int .u8 (n : Int)] w fun e w' => e = .returned (.bool (partN n)) ∧ w = w' := by
 have c0 := fun w => kind_any n w
 have hp := kind_part n
 have hle := kind_le n
 generalize kindN n = k at *
 generalize partN n = p at *
 have ks : k = 0 ∨ k = 1 ∨ k = 2 ∨ k = 3 ∨ k = 4 ∨ k = 5 ∨ k = 6 ∨ k = 7 := by omega
 rcases ks with rfl | rfl | rfl | rfl | rfl | rfl | rfl | rfl
 ·obtain rfl : p = false := by simpa using hp
  clear hp hle
  go_enter Tryz.func79, Tryz.ntmps79
  go_wp2_with fail
  refine (c0 _).mono ?_
  rintro e w1 ⟨rfl, rfl⟩
  go_wp2
  go_ret
  exact ⟨rfl, rfl⟩
 ·obtain rfl : p = true := by simpa using hp
  clear hp hle
  go_enter Tryz.func79, Tryz.ntmps79
  go_wp2_with fail
  refine (c0 _).mono ?_
  rintro e w1 ⟨rfl, rfl⟩
  go_wp2
  go_ret
  exact ⟨rfl, rfl⟩
 ·obtain rfl : p = true := by simpa using hp
  clear hp hle
  go_enter Tryz.func79, Tryz.ntmps79
  go_wp2_with fail
  refine (c0 _).mono ?_
  rintro e w1 ⟨rfl, rfl⟩
  go_wp2
  go_ret
  exact ⟨rfl, rfl⟩
 ·obtain rfl : p = true := by simpa using hp
  clear hp hle
  go_enter Tryz.func79, Tryz.ntmps79
  go_wp2_with fail
  refine (c0 _).mono ?_
  rintro e w1 ⟨rfl, rfl⟩
  go_wp2
  go_ret
  exact ⟨rfl, rfl⟩
 ·obtain rfl : p = true := by simpa using hp
  clear hp hle
  go_enter Tryz.func79, Tryz.ntmps79
  go_wp2_with fail
  refine (c0 _).mono ?_
  rintro e w1 ⟨rfl, rfl⟩
  go_wp2
  go_ret
  exact ⟨rfl, rfl⟩
 ·obtain rfl : p = false := by simpa using hp
  clear hp hle
  go_enter Tryz.func79, Tryz.ntmps79
  go_wp2_with fail
  refine (c0 _).mono ?_
  rintro e w1 ⟨rfl, rfl⟩
  go_wp2
  go_ret
  exact ⟨rfl, rfl⟩
 ·obtain rfl : p = false := by simpa using hp
  clear hp hle
  go_enter Tryz.func79, Tryz.ntmps79
  go_wp2_with fail
  refine (c0 _).mono ?_
  rintro e w1 ⟨rfl, rfl⟩
  go_wp2
  go_ret
  exact ⟨rfl, rfl⟩
 ·obtain rfl : p = false := by simpa using hp
  clear hp hle
  go_enter Tryz.func79, Tryz.ntmps79
  go_wp2_with fail
  refine (c0 _).mono ?_
  rintro e w1 ⟨rfl, rfl⟩
  go_wp2
  go_ret
  exact ⟨rfl, rfl⟩
theorem r8part_any (n : Nat) (w : World) : Calls Tryz.prog 42 #[.int .u8 (n : Int)] w fun e w' => e = .returned (.bool (partN n)) ∧ w = w' := by
 have c1 := fun w => r8lower_any n w
 have c2 := fun w => r8digit_any n w
 have hp : partN n = (lowN n || capN n || digN n || decide (n = 46)) := rfl
 have hl : lowN n = true ∨ lowN n = false := by cases lowN n <;> simp
 have hd : digN n = true ∨ digN n = false := by cases digN n <;> simp
 have c65 : (65 ≤ n ∧ n ≤ 90) ∨ n < 65 ∨ 90 < n := by omega
 have c46 : n = 46 ∨ n ≠ 46 := by omega
 rw [hp]
 clear hp
 rcases hl with hl | hl
 ·rw [hl] at c1 ⊢
  simp only [Bool.true_or]
  clear hd c65 c46 hl c2
  go_enter Tryz.func42, Tryz.ntmps42
  go_wp2_with fail
  refine (c1 _).mono ?_
  rintro e w1 ⟨rfl, rfl⟩
  go_wp2
  go_ret
  exact ⟨rfl, rfl⟩
 rw [hl] at c1 ⊢
 clear hl
 rcases c65 with c65 | c65 | c65
 ·have g65 : decide ((65 : Int) ≤ (n : Int)) = true := decide_eq_true (by omega)
  have g90 : decide ((n : Int) ≤ 90) = true := decide_eq_true (by omega)
  have e : capN n = true := by unfold capN; simp; omega
  rw [e]
  simp only [Bool.false_or, Bool.true_or]
  clear hd c65 c46 c2 e
  go_enter Tryz.func42, Tryz.ntmps42
  go_wp2_with fail
  refine (c1 _).mono ?_
  rintro e w1 ⟨rfl, rfl⟩
  go_wp2
  go_ret
  exact ⟨rfl, rfl⟩
 ·have g65 : decide ((65 : Int) ≤ (n : Int)) = false := decide_eq_false (by omega)
  have e : capN n = false := by unfold capN; simp; omega
  rw [e]
  simp only [Bool.false_or]
  clear c65 e
  rcases hd with hd | hd
  ·rw [hd] at c2 ⊢
   simp only [Bool.true_or]
   clear hd c46
   go_enter Tryz.func42, Tryz.ntmps42
   go_wp2_with fail
   refine (c1 _).mono ?_
   rintro e w1 ⟨rfl, rfl⟩
   go_wp2_with fail
   refine (c2 _).mono ?_
   rintro e w1 ⟨rfl, rfl⟩
   go_wp2
   go_ret
   exact ⟨rfl, rfl⟩
  rw [hd] at c2 ⊢
  simp only [Bool.false_or]
  clear hd
  rcases c46 with c46 | c46
  ·have e46 : ((n : Int) == 46) = true := by simp; omega
   rw [decide_eq_true c46]
   clear c46
   go_enter Tryz.func42, Tryz.ntmps42
   go_wp2_with fail
   refine (c1 _).mono ?_
   rintro e w1 ⟨rfl, rfl⟩
   go_wp2_with fail
   refine (c2 _).mono ?_
   rintro e w1 ⟨rfl, rfl⟩
   go_wp2
   go_ret
   exact ⟨rfl, rfl⟩
  ·have e46 : ((n : Int) == 46) = false := by simp; omega
   rw [decide_eq_false c46]
   clear c46
   go_enter Tryz.func42, Tryz.ntmps42
   go_wp2_with fail
   refine (c1 _).mono ?_
   rintro e w1 ⟨rfl, rfl⟩
   go_wp2_with fail
   refine (c2 _).mono ?_
   rintro e w1 ⟨rfl, rfl⟩
   go_wp2
   go_ret
   exact ⟨rfl, rfl⟩
 ·have g65 : decide ((65 : Int) ≤ (n : Int)) = true := decide_eq_true (by omega)
  have g90 : decide ((n : Int) ≤ 90) = false := decide_eq_false (by omega)
  have e : capN n = false := by unfold capN; simp; omega
  rw [e]
  simp only [Bool.false_or]
  clear c65 e
  rcases hd with hd | hd
  ·rw [hd] at c2 ⊢
   simp only [Bool.true_or]
   clear hd c46
   go_enter Tryz.func42, Tryz.ntmps42
   go_wp2_with fail
   refine (c1 _).mono ?_
   rintro e w1 ⟨rfl, rfl⟩
   go_wp2_with fail
   refine (c2 _).mono ?_
   rintro e w1 ⟨rfl, rfl⟩
   go_wp2
   go_ret
   exact ⟨rfl, rfl⟩
  rw [hd] at c2 ⊢
  simp only [Bool.false_or]
  clear hd
  rcases c46 with c46 | c46
  ·have e46 : ((n : Int) == 46) = true := by simp; omega
   rw [decide_eq_true c46]
   clear c46
   go_enter Tryz.func42, Tryz.ntmps42
   go_wp2_with fail
   refine (c1 _).mono ?_
   rintro e w1 ⟨rfl, rfl⟩
   go_wp2_with fail
   refine (c2 _).mono ?_
   rintro e w1 ⟨rfl, rfl⟩
   go_wp2
   go_ret
   exact ⟨rfl, rfl⟩
  ·have e46 : ((n : Int) == 46) = false := by simp; omega
   rw [decide_eq_false c46]
   clear c46
   go_enter Tryz.func42, Tryz.ntmps42
   go_wp2_with fail
   refine (c1 _).mono ?_
   rintro e w1 ⟨rfl, rfl⟩
   go_wp2_with fail
   refine (c2 _).mono ?_
   rintro e w1 ⟨rfl, rfl⟩
   go_wp2
   go_ret
   exact ⟨rfl, rfl⟩
end Go.Proofs.YtglniapfnhedoaaGreatDoor
