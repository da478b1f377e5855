/-
 Contracts and what they rest on.
-/
import Derived.Lib.ConvBytes
import Derived.Lib.Strings
import Derived.Lib.UnsafeStr
import Derived.Lib.SlBytesConst
import Derived.Test.YtalnfojaccfcjaaGreatDoorZ1
import Derived.Test.YtalnfojaccfcjaaGreatDoorZ2
import Derived.Test.YtalnfojaccfcjaaGreatDoorZ3
import Derived.Test.YtalnfojaccfcjaaGreatDoorZ4
import Derived.Test.YtalnfojaccfcjaaGreatDoorZ5
import Derived.Test.YtalnfojaccfcjaaGreatDoorZ6
import Derived.Test.YtalnfojaccfcjaaGreatDoorZ7
import Derived.Test.YtalnfojaccfcjaaGreatDoorZ8
import Derived.Test.YtalnfojaccfcjaaGreatDoorZ9
import Derived.Test.YtalnfojaccfcjaaGreatDoorZ10
import Derived.Test.YtalnfojaccfcjaaGreatDoorZ11
import Derived.Test.YtalnfojaccfcjaaGreatDoorZ12
import Derived.Test.YtalnfojaccfcjaaGreatDoorZ13
import Derived.Test.YtalnfojaccfcjaaGreatDoorZ14
import Derived.Test.YtalnfojaccfcjaaGreatDoorZ15
import Derived.Test.YtalnfojaccfcjaaGreatDoorZ16
namespace Go.Proofs.YtalnfojaccfcjaaGreatDoor
open Go.RowKit
theorem lineInfo : (Tryz.prog.info? 135).map (fun i => (i.zero, i.size, i.bytes)) = some (some (.slice none 0 0), 1, 24) := by kernel_rfl
theorem scan_next {bs : List UInt8} {q : Nat} {out : List (List Wd)} {ws : List Wd} (h : bs.length ≤ q ∨ ∃ c, bs[q]? = some c ∧ c.toNat = 10) : scan (bs.drop q) q out ws [] false = scan (bs.drop (q + 1)) (q + 1) (flushL out ws) [] [] false := by
 rcases h with h | ⟨c, h, hc⟩
 ·rw [scan_end h, scan_end (by omega), flushW_none, flushW_none, flushL_none]
 ·rw [scan_feed h hc, flushW_none]
def LinesRes (bs : List UInt8) (w : World) (e : Ending) (w' : World) : Prop :=
 ∃ v, e = .returned (.tuple #[v, .int .i64 (((linesB bs).2.1 : Nat) : Int), .int .i64 (((linesB bs).2.2 : Nat) : Int)]) ∧ IsLines w' v (linesB bs).1 ∧ B w w'
set_option maxHeartbeats 2000000 in
theorem lines_any (ao : Option Addr) (b o cap : Nat) (bs : List UInt8) (w : World) (h : IsB w ao cap b o bs) :
  Calls Tryz.prog 44 #[.slice ao bs.length cap] w (LinesRes bs w) := by
 have hle := h.le
 have hcap := h.max
 unfold maxLen at hcap
 by_cases hbig : 65536 < bs.length
 ·have hlB : decide ((65536 : Int) < (bs.length : Int)) = true := decide_eq_true (by omega)
  have e : linesB bs = ([], 65536, 27) := if_pos hbig
  unfold LinesRes
  rw [e]
  clear e h hle hcap
  go_enter Tryz.func44, Tryz.ntmps44
  go_wp2
  go_ret3
  exact ⟨_, rfl, .inl ⟨rfl, rfl⟩, B.refl _⟩
 have hlB : decide ((65536 : Int) < (bs.length : Int)) = false := decide_eq_false (by omega)
 have e : linesB bs = scan (bs.drop 0) 0 [] [] [] false := if_neg hbig
 obtain ⟨R, hR⟩ : ∃ R, linesB bs = R := ⟨_, rfl⟩
 have hn : bs.length ≤ 65536 := by omega
 unfold LinesRes
 rw [hR]
 rw [hR] at e
 clear hR hbig
 obtain ⟨i0, hi0, hz0, hz1, hz2⟩ := info_of lineInfo
 go_enter Tryz.func44, Tryz.ntmps44
 go_wp2
 clear hlB
 go_loopw [5, 6] (fun lv av wr => ∃ (p : Nat) (ao' : Option Addr) (c : Nat) (LL : List (List Wd)) (vs : List Value), p ≤ bs.length + 1 ∧ av = .int .i64 p ∧ lv = .slice ao' LL.length c ∧ LL.length ≤ p ∧ LinesO wr w.heap.size 135 (.slice ao' LL.length c) LL vs ∧
   R = scan (bs.drop p) p LL [] [] false ∧ B w wr) (fun _ av _ => bs.length + 2 - (intOf av).toNat)
 case atStart => exact ⟨0, none, 0, [], [], by omega, rfl, rfl, by simp, LinesO.nil _ _ _, e, B.refl _⟩
 case round =>
  obtain ⟨p, ao', cc, LL, vs, hp, rfl, rfl, hLL, hO, hscan, hB⟩ := hrel
  clear e
  by_cases hl : p < bs.length
  ·have hlB : decide ((p : Int) < (bs.length : Int)) = true := decide_eq_true (by omega)
   have hlI : (p : Int) < (bs.length : Int) := by omega
   have cl := line_any ao b o cap p bs wr (h.keep hB) hn (by omega)
   go_wp2_with fail
   refine cl.mono ?_
   clear cl
   rintro e w1 (⟨q, v, ws, rfl, k1, k2, k3, k4, k5, k6, k7⟩ | ⟨q, rfl, k3, k7⟩)
   ·obtain ⟨av, cv, rfl⟩ := k5.form
    have wk : IntKind.i64.wrap ((q : Int) + 1) = (q : Int) + 1 := by rw [IntKind.wrap_i64]; omega
    have hR' : R = scan (bs.drop (q + 1)) (q + 1) (flushL LL ws) [] [] false := by rw [hscan, k3 LL, scan_next k4]
    by_cases hw : ws = []
    ·subst hw
     rw [flushL_none] at hR'
     have HS := Lib.hid (And.intro hR' (And.intro (hO.keep k7) (hB.trans k7)))
     have HM := Lib.hid (And.intro k1 (And.intro k2 (And.intro hLL hl)))
     clear hR' hscan k1 k2 k3 k4 k5 k6 k7 hO hB hl hlB hlI hLL hp
     go_wp2
     go_roundw
     case rel => exact ⟨q + 1, ao', cc, LL, vs, by have := HM.out; omega, by go_num, rfl, by have := HM.out; omega, HS.out.2.1, HS.out.1, HS.out.2.2⟩
     case measure => have := HM.out; simp [intOf]; omega
    ·have hlen : 0 < ws.length := List.length_pos_iff.2 hw
     have hwB : decide ((0 : Int) < (ws.length : Int)) = true := decide_eq_true (by omega)
     rw [flushL_some hw] at hR'
     obtain ⟨g, c2, hv, _, _, hg, _⟩ := k5.full hlen
     obtain ⟨rfl, _, rfl⟩ : av = some ⟨g, 0, none⟩ ∧ True ∧ cv = c2 := by simpa using hv
     have hO2 := (hO.keep k7).keep ((B.refl w1).alloc #[.slice (some ⟨g, 0, none⟩) ws.length cv] 135)
     have own2 := hO2.own
     have hIW : IsWords (w1.alloc (.cells #[.slice (some ⟨g, 0, none⟩) ws.length cv] 135)) (.slice (some ⟨g, 0, none⟩) ws.length cv) ws := k5.keep ((B.refl w1).alloc _ _)
     have B2 := (hB.trans k7).alloc #[.slice (some ⟨g, 0, none⟩) ws.length cv] 135
     have hne : (Value.slice ao' LL.length cc).ownBlock ≠ some g := fun e => by have := (hO.own.lt g e).2; have := (k6 g rfl).1; omega
     have hgb : w.heap.size ≤ g := by have := (k6 g rfl).1; have := hB.below.size; omega
     have h16 : LL.length ≤ 65536 := by omega
     have hb2 := B2.below.size
     have HM := Lib.hid (And.intro k1 (And.intro k2 (And.intro hLL (And.intro hl hg))))
     have HS := Lib.hid (And.intro hR' (And.intro hO2 (And.intro hIW (And.intro hne (And.intro hgb B2)))))
     clear hR' hscan k1 k2 k3 k4 k5 k6 k7 hO hB hl hlB hlI hLL hp hO2 hIW hne hgb B2 hv hw hle hcap
     go_wp2_with (at_builtin; refine wpList_append_lies _ rfl _ _ 48 rfl w.heap.size 135 i0 _ 1 24 Tryz.underlying48 hi0 hz0 hz1 hz2 rfl (by omega) (.slice ao' LL.length cc) LL.length vs rfl own2 ⟨w1.heap.size, 0, none⟩ 1 1 [.slice (some ⟨g, 0, none⟩) ws.length cv] rfl rfl (newest rfl) (fun u hu => by simp at hu; rw [hu]; rfl) (by omega) (by unfold maxLen; omega) (by omega) hb2 _ rfl ?_; intro gb cp W4 hown4 hgrow hat4 hlt4; have hO4 := lines_more HS.out.2.1 hown4 hgrow hat4 HS.out.2.2.1 rfl HS.out.2.2.2.1 (by simp; have := HM.out; omega) HS.out.2.2.2.2.1; have B4 := HS.out.2.2.2.2.2.grownBy hgrow (fun x hx => (own2.lt x hx).1); clear hgrow hat4 hlt4 own2 hown4 hlen hwB; replace hO4 := Lib.hid hO4; go_wp2_with fail)
     go_roundw
     case rel => exact ⟨q + 1, some ⟨gb, 0, none⟩, cp, LL ++ [ws], vs ++ [.slice (some ⟨g, 0, none⟩) ws.length cv], by have := HM.out; omega, by go_num, by simp, by have := HM.out; simp; omega, hO4.out, HS.out.1, B4⟩
     case measure => have := HM.out; simp [intOf]; omega
   ·have HR : R = ([], q, 24) := by rw [hscan, k3]
    have HB := Lib.hid (hB.trans k7)
    subst HR
    clear hscan k3 k7 hB hO
    go_wp2
    go_ret3
    exact ⟨_, rfl, .inl ⟨rfl, rfl⟩, HB.out⟩
  ·have hlB : decide ((p : Int) < (bs.length : Int)) = false := decide_eq_false (by omega)
   have HR : R = (LL, 0, 0) := by rw [hscan, scan_end (by omega), flushW_none, flushL_none]
   have HB := Lib.hid (And.intro hO.is hB)
   subst HR
   clear hscan hB hO
   go_wp2
   go_ret3
   exact ⟨_, rfl, HB.out.1, HB.out.2⟩
end Go.Proofs.YtalnfojaccfcjaaGreatDoor
namespace Go.Proofs.YtalnfojaccfcjaaGreatDoor
open Go.RowKit
theorem B.allocM {a w : World} (h : B a w) (o : Obj) : B a (w.alloc o) := ⟨h.below.alloc h.below.size _⟩
def cellsB (bs : List UInt8) : Array Value := (bs.map fun c => Value.int .u8 ((c.toNat : Nat) : Int)).toArray
theorem isB_const (w : World) (bs : List UInt8) (t : TypeId) (fr : Nat × Nat) (h : bs.length ≤ maxLen) : IsB (w.alloc (.cells (cellsB bs) t fr)) (some ⟨w.heap.size, 0, none⟩) bs.length w.heap.size 0 bs := by
 refine ⟨fun i c hc => ?_, fun _ => rfl, Nat.le_refl _, h⟩
 rw [Nat.zero_add, World.cell?_alloc_mark]
 simp [cellsB, hc]
end Go.Proofs.YtalnfojaccfcjaaGreatDoor
namespace Go.Proofs.YtalnfojaccfcjaaGreatDoor
open Go.RowKit
theorem conv_b (w : World) (e : TypeId) (s : ByteArray) : B w (Lib.bytesWorld w e s) :=
 ⟨Lib.below_freeze (((B.refl w).drew.alloc _ _).below) (p := ⟨w.heap.size, _, none⟩) (Nat.le_refl _) _⟩
theorem isB_conv (w : World) (e : TypeId) (T : List UInt8) (h : T.length ≤ 1000000) : IsB (Lib.bytesWorld w e (strB T)) (some ⟨w.heap.size, 0, none⟩) (grownCap w (strB T).size 0 e) w.heap.size 0 T := by
 have hz : (strB T).size = T.length := strB_size T
 refine ⟨fun i c hc => ?_, fun _ => rfl, ?_, grownCap_le_maxLen _ _ _ _ (by rw [hz]; unfold maxLen; omega)⟩
 ·have hi : i < T.length := (List.getElem?_eq_some_iff.1 hc).1
  rw [Nat.zero_add, Lib.bytesWorld_cell w e (strB T) i (by rw [hz]; exact hi)]
  have : (strB T).data.toList.getD i 0 = c := by
   show T.getD i 0 = c
   rw [List.getD_eq_getElem?_getD, hc]
   rfl
  rw [this]
 ·rw [← hz]
  exact grownCap_ge _ _ _ _
end Go.Proofs.YtalnfojaccfcjaaGreatDoor
namespace Go.Proofs.YtalnfojaccfcjaaGreatDoor
open Go.RowKit
set_option linter.unusedVariables false
set_option maxRecDepth 100000 in
set_option maxHeartbeats 2000000 in
theorem source_any (wv tv fv sv : Value) (d : Dk) (L : List Sp) (w : World) (hD : IsDk w wv tv fv d) (hS : IsSps w sv L) (hfs : d.fs.length < 1000) (hlen : (textD d).length + (stepsT L).length ≤ 1000000) :
  Calls Tryz.prog 21 #[.agg #[wv, tv, fv], sv] w fun e w' => ∃ b cap, e = .returned (.slice (some ⟨b, 0, none⟩) (textD d ++ stepsT L).length cap) ∧ IsB w' (some ⟨b, 0, none⟩) cap b 0 (textD d ++ stepsT L) ∧ B w w' := by
 obtain ⟨ao, ac, bo, bc, co, cc, rfl, rfl, rfl⟩ := hD.forms
 obtain ⟨so, sc, rfl⟩ := hS.form
 have q0 := (B.refl w).alloc #[.slice ao d.ws.length ac, .slice bo d.ts.length bc, .slice co d.fs.length cc] 26
 have cP := r8print_any _ _ _ d _ (hD.keepB q0) hfs
 have cS : ∀ w', B w w' → Calls Tryz.prog 78 #[.slice so L.length sc] w' fun e w'' => e = .returned (.string (strB (stepsT L))) ∧ B w' w'' := fun w' q => r8stepsprint_any _ L w' (hS.keepB q)
 obtain ⟨TD, hTD⟩ : ∃ T, textD d = T := ⟨_, rfl⟩
 obtain ⟨TS, hTS⟩ : ∃ T, stepsT L = T := ⟨_, rfl⟩
 rw [hTD] at cP hlen ⊢
 rw [hTS] at hlen ⊢
 simp only [hTS] at cS
 have happ : strB TD ++ strB TS = strB (TD ++ TS) := strB_app TD TS
 have z1 := strB_size TD
 have z2 := strB_size TS
 have n1 : ¬ 9223372036854775807 < TD.length + TS.length := by omega
 have hl2 : (TD ++ TS).length ≤ 1000000 := by rw [List.length_append]; exact hlen
 obtain ⟨T, hT⟩ : ∃ T, TD ++ TS = T := ⟨_, rfl⟩
 rw [hT] at happ hl2 ⊢
 clear hD hS hTD hTS hT
 go_enter Tryz.func21, Tryz.ntmps21
 go_wp2_with fail
 refine cP.mono ?_
 rintro _ w1 ⟨rfl, q1⟩
 have q01 := q0.trans q1
 go_wp2_with fail
 refine (cS _ q01).mono ?_
 rintro _ w2 ⟨rfl, q2⟩
 have q3 := q01.trans q2
 have hcv := Lib.run_convert_string_bytes (P := Tryz.prog) w2 9 47 5 (strB T) Tryz.underlying9 Tryz.underlying47 Tryz.underlying5
 have IB := isB_conv w2 5 T hl2
 have b3 := conv_b w2 5 (strB T)
 rw [strB_size] at hcv IB
 generalize grownCap w2 T.length 0 5 = cap at *
 generalize Lib.bytesWorld w2 5 (strB T) = w3 at *
 generalize w2.heap.size = N at *
 have HZ := Lib.hid (And.intro IB (q3.trans b3))
 clear IB b3 q3 q2 q1 q01 q0 cP cS
 go_wp2
 go_ret
 exact ⟨_, _, rfl, HZ.out.1, HZ.out.2⟩
end Go.Proofs.YtalnfojaccfcjaaGreatDoor
namespace Go.Proofs.YtalnfojaccfcjaaGreatDoor
open Go.RowKit
set_option linter.unusedVariables false
theorem kindW_len (k : Int) : (kindW k).length ≤ 8 := by
 unfold kindW
 repeat (first | (split) | decide)
theorem decI_len {x : Nat} (h : x ≤ 10000000000000) : (decI (x : Int)).length ≤ 20 := by
 have := decS_size h
 rw [decS_strB, strB_size] at this
 exact this
theorem pieceV_nat (p : Pz) : ∃ n : Nat, pieceV p = (n : Int) ∧ n ≤ 90000 := by
 unfold pieceV
 split
 ·exact ⟨_, rfl, by omega⟩
 ·exact ⟨_, rfl, by omega⟩
theorem piece_len (d : Dk) (p : Pz) : (lineT (stepL (pieceS d p))).length ≤ 300 := by
 obtain ⟨n, hn, hn9⟩ := pieceV_nat p
 have hv := decI_len (x := n) (by omega)
 have h3 := wellsT_len (pieceW d.ws p)
 have l3 : (pieceW d.ws p).length = 3 := rfl
 have h1 := wellsT_len ((pieceW d.ws p).take 1)
 have l1 : ((pieceW d.ws p).take 1).length = 1 := rfl
 have h2 := wellsT_len ((pieceW d.ws p).take 2)
 have l2 : ((pieceW d.ws p).take 2).length = 2 := rfl
 have hd := wellsT_len ((pieceW d.ws p).drop 1)
 have ld : ((pieceW d.ws p).drop 1).length = 2 := rfl
 have k0 := kindW_len 0
 have k1 := kindW_len 1
 have k2 := kindW_len 2
 have k3 := kindW_len 3
 have k4 := kindW_len 4
 have k5 := kindW_len 5
 have k6 := kindW_len 6
 unfold pieceS
 rw [hn]
 split
 ·rw [sl_0]
  simp only [List.length_append, List.length_cons, List.length_nil]
  split
  ·have : nameT2.data.toList.length = 2 := rfl
   omega
  ·have : nameT1.data.toList.length = 2 := rfl
   omega
 split
 ·have hA : p.a % 2 = 0 ∨ p.a % 2 = 1 := by omega
  rcases hA with hA | hA <;> rw [hA]
  ·have := sl_1a ⟨#[]⟩ [] 0
   rw [show ((0 : Nat) : Int) = 0 from rfl, this]
   simp only [List.length_append, List.length_cons, List.length_nil]
   omega
  ·have := sl_1b ⟨#[]⟩ [] 0
   rw [show ((1 : Nat) : Int) = 1 from rfl, this]
   simp only [List.length_append, List.length_cons, List.length_nil]
   omega
 split
 ·rw [sl_34 (.inl rfl)]
  simp only [List.length_append, List.length_cons, List.length_nil]
  omega
 split
 ·rw [sl_34 (.inr rfl)]
  simp only [List.length_append, List.length_cons, List.length_nil]
  omega
 split
 ·have hb := decI_len (x := p.b % 3 + 1) (by omega)
  rw [sl_5]
  simp only [List.length_append, List.length_cons, List.length_nil]
  omega
 split
 ·rw [sl_6]
  simp only [List.length_append, List.length_cons, List.length_nil]
  omega
 ·rw [sl_2]
  simp only [List.length_append, List.length_cons, List.length_nil]
  omega
theorem seat_steps_ok {d : Dk} (hb : ∀ x ∈ d.ws, wareB x) (hn : ∀ x ∈ d.ws, nameS x.n = true) (hc : 0 < countW d.ws) {ps : List Pz} (hp : ps.length ≤ 100) : stepsOk (seatSteps d ps) = true ∧ ∀ s ∈ seatSteps d ps, stepOk s = true := by
 have h : ∀ s ∈ seatSteps d ps, stepOk s = true := fun s hs => by
  unfold seatSteps at hs
  rw [List.mem_cons] at hs
  rcases hs with rfl | hs
  ·rfl
  ·obtain ⟨p, _, rfl⟩ := List.mem_map.1 hs
   exact piece_ok hb hn hc p
 refine ⟨?_, h⟩
 unfold stepsOk
 rw [Bool.and_eq_true, decide_eq_true_eq, List.all_eq_true]
 exact ⟨by unfold seatSteps; simp; omega, h⟩
theorem seat_steps_len (d : Dk) {ps : List Pz} (hp : ps.length ≤ 10) : ((seatSteps d ps).flatMap fun s => lineT (stepL s)).length ≤ 4000 := by
 have := flat_len9 (fun s => lineT (stepL s)) 300 (seatSteps d ps) (fun s hs => by
  unfold seatSteps at hs
  rw [List.mem_cons] at hs
  rcases hs with rfl | hs
  ·show (lineT (stepL ⟨0, nameT1, [], 0, 0⟩)).length ≤ 300
   rw [sl_0]
   decide
  ·obtain ⟨p, _, rfl⟩ := List.mem_map.1 hs
   exact piece_len d p)
 have hl : (seatSteps d ps).length ≤ 11 := by unfold seatSteps; simp; omega
 omega
theorem fill_len {f : Fl} (hv : 0 ≤ f.v ∧ f.v ≤ 20000000) : (lineT (fillL f)).length ≤ 100 := by
 unfold fillL
 rw [lineT_words]
 have hw := wellT_len9 f.n f.r f.c
 obtain ⟨n, hn⟩ := Int.eq_ofNat_of_zero_le hv.1
 have hd := decI_len (x := n) (by omega)
 rw [hn]
 have hk : kFill.length = 4 := rfl
 simp only [List.flatMap_cons, List.flatMap_nil, List.length_append, List.length_cons, List.length_nil]
 omega
theorem textD_len {d : Dk} (h : rightD d = true) (hf : d.fs.length ≤ 20) : (textD d).length ≤ 14000 := by
 obtain ⟨h1, h2, h3, h4, h5⟩ := right_parts h
 unfold textD
 rw [if_pos h, deck_text]
 have a1 := flat_len9 (recT kWare) 1000 d.ws (fun r hr => by obtain ⟨x, y, z, e⟩ := h3 r hr; exact recT_len (by decide) e)
 have a2 := flat_len9 (recT kTip) 1000 d.ts (fun r hr => by obtain ⟨x, y, z, e⟩ := h4 r hr; exact recT_len (by decide) e)
 have a3 := flat_len9 (fun f => lineT (fillL f)) 100 d.fs (fun f hf => fill_len (h5 f hf).2.2.2)
 rw [List.length_append, List.length_append]
 omega
theorem lineT_ge (l : List (List UInt8)) : l.length ≤ (lineT l).length + 0 ∧ 1 ≤ (lineT l).length ∧ ∀ x ∈ l, x.length ≤ (lineT l).length := by
 cases l with
 | nil => exact ⟨by simp, by decide, fun x hx => by simp at hx⟩
 | cons w ws =>
  rw [lineT_words]
  have h : ∀ ws : List (List UInt8), ws.length ≤ (ws.flatMap fun x => 32 :: x).length ∧ ∀ x ∈ ws, x.length ≤ (ws.flatMap fun x => 32 :: x).length := by
   intro ws
   induction ws with
   | nil => exact ⟨by simp, fun x hx => by simp at hx⟩
   | cons y ws ih =>
    rw [List.flatMap_cons, List.length_append, List.length_cons, List.length_cons]
    refine ⟨by omega, fun x hx => ?_⟩
    rw [List.mem_cons] at hx
    rcases hx with rfl | hx
    ·omega
    ·have := ih.2 x hx; omega
  obtain ⟨h1, h2⟩ := h ws
  simp only [List.length_append, List.length_cons, List.length_nil]
  refine ⟨by omega, by omega, fun x hx => ?_⟩
  rw [List.mem_cons] at hx
  rcases hx with rfl | hx
  ·omega
  ·have := h2 x hx; omega
theorem flat_ge : ∀ (L : List (List (List UInt8))), L.length ≤ (L.flatMap lineT).length ∧ ∀ l ∈ L, (lineT l).length ≤ (L.flatMap lineT).length
 | [] => ⟨by simp, fun l hl => by simp at hl⟩
 | l :: L => by
  obtain ⟨h1, h2⟩ := flat_ge L
  have h3 := (lineT_ge l).2.1
  rw [List.flatMap_cons, List.length_append, List.length_cons]
  refine ⟨by omega, fun x hx => ?_⟩
  rw [List.mem_cons] at hx
  rcases hx with rfl | hx
  ·omega
  ·have := h2 x hx; omega
theorem said_parts {L : List (List (List UInt8))} (hne : ∀ l ∈ L, l ≠ []) (hlen : (L.flatMap lineT).length ≤ 65536) (p : Nat) :
  (∀ ws ∈ placeL p L, 0 < ws.length) ∧ (placeL p L).length ≤ 65536 ∧ (∀ ws ∈ placeL p L, ws.length ≤ 65536) ∧ ∀ ws ∈ placeL p L, ∀ x ∈ ws, x.2.length ≤ 65536 := by
 obtain ⟨g1, g2⟩ := flat_ge L
 have ht := placeL_texts p L
 have hm : ∀ ws ∈ placeL p L, ws.map Prod.snd ∈ L := fun ws hws => by
  have := List.mem_map_of_mem (f := List.map Prod.snd) hws
  rw [ht] at this
  exact this
 refine ⟨fun ws hws => ?_, ?_, fun ws hws => ?_, fun ws hws x hx => ?_⟩
 ·have := hne _ (hm ws hws)
  cases ws with
  | nil => exact absurd rfl this
  | cons => simp
 ·have := congrArg List.length ht
  rw [List.length_map] at this
  omega
 ·have h1 := (lineT_ge (ws.map Prod.snd)).1
  have h2 := g2 _ (hm ws hws)
  rw [List.length_map] at h1
  omega
 ·have h1 := (lineT_ge (ws.map Prod.snd)).2.2 x.2 (List.mem_map_of_mem (f := Prod.snd) hx)
  have h2 := g2 _ (hm ws hws)
  omega
theorem source_said {d : Dk} (h : rightD d = true) {l : List Sp} (hk : stepsOk l = true) (hl : ∀ s ∈ l, stepOk s = true) (hn : (textD d ++ stepsT l).length ≤ 65536) :
  ∃ LL R, linesB (textD d ++ stepsT l) = (LL, 0, 0) ∧ R.length = l.length ∧ parseD LL dk0 0 0 = (d, R, 0, 0) ∧ (∃ k, k + R.length = LL.length ∧ LL.drop k = R) ∧
   (∀ ws ∈ LL, 0 < ws.length) ∧ LL.length ≤ 65536 ∧ (∀ ws ∈ LL, ws.length ≤ 65536) ∧ ∀ ws ∈ LL, ∀ x ∈ ws, x.2.length ≤ 65536 := by
 have e0 : stepsT l = l.flatMap fun s => lineT (stepL s) := by unfold stepsT; rw [if_pos hk]
 rw [e0] at hn ⊢
 obtain ⟨R, r1, r2, r3⟩ := deck_steps_said h hl hn
 have e : textD d ++ (l.flatMap fun s => lineT (stepL s)) = (deckL d ++ l.map stepL).flatMap lineT := by
  unfold textD
  rw [if_pos h, List.flatMap_append, List.flatMap_map]
 have hw : ∀ x ∈ deckL d ++ l.map stepL, x ≠ [] ∧ ∀ w ∈ x, partW w := fun x hx => by
  rw [List.mem_append] at hx
  rcases hx with hx | hx
  ·exact deck_words h x hx
  ·obtain ⟨s, hs, rfl⟩ := List.mem_map.1 hx
   exact step_words (hl s hs)
 have hlen : ((deckL d ++ l.map stepL).flatMap lineT).length ≤ 65536 := by rw [← e]; exact hn
 have hs := lines_said hw hlen
 have hp := said_parts (fun x hx => (hw x hx).1) hlen 0
 rw [← e, r1] at hs
 have hLL : placeL 0 (deckL d) ++ R = placeL 0 (deckL d ++ l.map stepL) := congrArg Prod.fst hs
 rw [← hLL] at hp
 exact ⟨_, R, r1, r2, r3, ⟨(placeL 0 (deckL d)).length, by rw [List.length_append], List.drop_left ..⟩, hp⟩
end Go.Proofs.YtalnfojaccfcjaaGreatDoor
namespace Go.Proofs.YtalnfojaccfcjaaGreatDoor
open Go.RowKit
theorem r8wordInfo : (Tryz.prog.info? 102).map (fun i => (i.zero, i.size, i.bytes)) = some (some (.agg #[.int .i64 0, .string .empty]), 2, 24) := by kernel_rfl
theorem r8lineInfo : (Tryz.prog.info? 103).map (fun i => (i.zero, i.size, i.bytes)) = some (some (.slice none 0 0), 1, 24) := by kernel_rfl
def Apart (lv ov : Value) (vs : List Value) : Prop := ∀ g, lv.ownBlock = some g → ov.ownBlock ≠ some g ∧ ∀ u ∈ vs, u.ownBlock ≠ some g
theorem apart_nil (ov : Value) (vs : List Value) : Apart (.slice none 0 0) ov vs := fun g h => by cases h
theorem apart_more {w : World} {base : Nat} {e : TypeId} {ov lv : Value} {LL : List (List Wd)} {vs : List Value} (h : LinesO w base e ov LL vs) (ha : Apart lv ov vs) {g n cap H : Nat} (hH : w.heap.size ≤ H) (hat : lv.ownBlock = some g ∨ g = H) : Apart (.slice (some ⟨g, 0, none⟩) n cap) ov vs := by
 intro x hx
 have hx' : g = x := Option.some.inj hx
 subst hx'
 rcases hat with hat | hat
 ·exact ha g hat
 ·refine ⟨fun e => by have := (h.own.lt g e).2; omega, fun u hu e => ?_⟩
  obtain ⟨j, hj⟩ := List.getElem?_of_mem hu
  have hlen := h.len
  have hlt : j < LL.length := by have := (List.getElem?_eq_some_iff.1 hj).1; omega
  obtain ⟨_, b, h2, _, h4, _⟩ := h.row j u _ hj (List.getElem?_eq_getElem hlt)
  rw [h2] at e
  cases e
  omega
set_option maxHeartbeats 4000000 in
set_option maxRecDepth 100000 in
theorem r8lines_any (ao : Option Addr) (b o cap : Nat) (bs : List UInt8) (w : World) (h : IsB w ao cap b o bs) :
  Calls Tryz.prog 16 #[.slice ao bs.length cap] w (LinesRes bs w) := by
 have hle := h.le
 have hcap := h.max
 unfold maxLen at hcap
 by_cases hbig : 65536 < bs.length
 ·have hlB : decide ((65536 : Int) < (bs.length : Int)) = true := decide_eq_true (by omega)
  have e : linesB bs = ([], 65536, 27) := if_pos hbig
  unfold LinesRes
  rw [e]
  clear e h hle hcap
  go_enter Tryz.func16, Tryz.ntmps16
  go_wp2
  go_ret3
  exact ⟨_, rfl, .inl ⟨rfl, rfl⟩, B.refl _⟩
 have hlB : decide ((65536 : Int) < (bs.length : Int)) = false := decide_eq_false (by omega)
 have e : linesB bs = scan (bs.drop 0) 0 [] [] [] false := if_neg hbig
 obtain ⟨R, hR⟩ : ∃ R, linesB bs = R := ⟨_, rfl⟩
 have hn : bs.length ≤ 65536 := by omega
 unfold LinesRes
 rw [hR]
 rw [hR] at e
 clear hR hbig
 obtain ⟨i0, hi0, hz0, hz1, hz2⟩ := info_of r8lineInfo
 obtain ⟨i1, hi1, hy0, hy1, hy2⟩ := info_of r8wordInfo
 go_enter Tryz.func16, Tryz.ntmps16
 go_wp2
 clear hlB
 go_loopw [5, 6, 7, 8] (fun ov lv nv iv wr => ∃ (i : Nat) (ao1 ao2 : Option Addr) (c1 c2 : Nat) (LL : List (List Wd)) (vs : List Value) (ws : List Wd) (note : Bool), i ≤ bs.length ∧ iv = .int .i64 i ∧ ov = .slice ao1 LL.length c1 ∧ lv = .slice ao2 ws.length c2 ∧ nv = .bool note ∧
   LL.length ≤ i ∧ ws.length ≤ i ∧ LinesO wr w.heap.size 103 (.slice ao1 LL.length c1) LL vs ∧ wr.ownsRow w.heap.size 102 2 (.slice ao2 ws.length c2) ws.length (flatW ws) ∧ Apart (.slice ao2 ws.length c2) (.slice ao1 LL.length c1) vs ∧
   R = scan (bs.drop i) i LL ws [] note ∧ B w wr) (fun _ _ _ iv _ => bs.length + 1 - (intOf iv).toNat)
 case atStart => exact ⟨0, none, none, 0, 0, [], [], [], false, by omega, rfl, rfl, rfl, rfl, by simp, by simp, LinesO.nil _ _ _, World.ownsRow_nil _ _ _ _, apart_nil _ _, e, B.refl _⟩
 case round =>
  obtain ⟨i, ao1, ao2, c1, c2, LL, vs, ws, note, hi, rfl, rfl, rfl, rfl, hLL, hws, hO, hown, hap, hscan, hB⟩ := hrel
  obtain ⟨wo, rfl⟩ : ∃ wo : World, wo = wr := ⟨_, rfl⟩
  clear e
  by_cases hl : i < bs.length
  ·obtain rfl := h.ao (by omega)
   obtain ⟨c, hg⟩ : ∃ c, bs[i]? = some c := ⟨_, List.getElem?_eq_getElem hl⟩
   have hat := h.at_.keep hB
   have hc := hat i c hg
   have hlB : decide ((i : Int) < (bs.length : Int)) = true := decide_eq_true (by omega)
   have hlI : (i : Int) < (bs.length : Int) := by omega
   have hi0' : (0 : Int) ≤ (i : Int) := by omega
   have wk1 : IntKind.i64.wrap ((i : Int) + 1) = (i : Int) + 1 := by rw [IntKind.wrap_i64]; omega
   obtain ⟨m, hm⟩ : ∃ m, c.toNat = m := ⟨_, rfl⟩
   rw [hm] at hc
   by_cases e10 : m = 10
   ·have b10 : ((m : Int) == 10) = true := by simp; omega
    have hR' : R = scan (bs.drop (i + 1)) (i + 1) (flushL LL ws) [] [] false := by rw [hscan, scan_feed hg (by omega), flushW_none]
    by_cases hw : ws = []
    ·subst hw
     rw [flushL_none] at hR'
     have HS := Lib.hid (And.intro hR' (And.intro hO hB))
     have HM := Lib.hid (And.intro hLL hl)
     clear hR' hscan hO hB hl hLL hws hown hap hat h hle hcap hg hm e10 hi
     go_wp2
     go_roundw
     case rel => exact ⟨i + 1, ao1, none, c1, 0, LL, vs, [], false, by have := HM.out; omega, by go_num, rfl, rfl, rfl, by have := HM.out; omega, by simp, HS.out.2.1, World.ownsRow_nil _ _ _ _, apart_nil _ _, HS.out.1, HS.out.2.2⟩
     case measure => have := HM.out; simp [intOf]; omega
    ·have hlen : 0 < ws.length := List.length_pos_iff.2 hw
     have hwB : decide ((0 : Int) < (ws.length : Int)) = true := decide_eq_true (by omega)
     rw [flushL_some hw] at hR'
     have hIW := words_own hown rfl
     obtain ⟨g, c3, hv, _, _, hg', _⟩ := hIW.full hlen
     obtain ⟨rfl, _, rfl⟩ : ao2 = some ⟨g, 0, none⟩ ∧ True ∧ c2 = c3 := by simpa using hv
     have hO2 := hO.keep ((B.refl wo).alloc #[.slice (some ⟨g, 0, none⟩) ws.length c2] 103)
     have own2 := hO2.own
     have hIW2 := hIW.keep ((B.refl wo).alloc #[.slice (some ⟨g, 0, none⟩) ws.length c2] 103)
     have B2 := hB.alloc #[.slice (some ⟨g, 0, none⟩) ws.length c2] 103
     have hne := (hap g rfl).1
     have hgb := (hown.lt g rfl).1
     have h16 : LL.length ≤ 65536 := by omega
     have hb2 := B2.below.size
     have HM := Lib.hid (And.intro hLL (And.intro hl hg'))
     have HS := Lib.hid (And.intro hR' (And.intro hO2 (And.intro hIW2 (And.intro hne (And.intro hgb B2)))))
     clear hR' hscan hO hB hl hLL hws hown hap hat h hle hcap hg hm e10 hO2 hIW hIW2 hne hgb B2 hv hw hg' hi
     go_wp2_with (at_builtin; refine wpList_append_lies _ rfl _ _ 44 rfl w.heap.size 103 i0 _ 1 24 Tryz.underlying44 hi0 hz0 hz1 hz2 rfl (by omega) (.slice ao1 LL.length c1) LL.length vs rfl own2 ⟨wo.heap.size, 0, none⟩ 1 1 [.slice (some ⟨g, 0, none⟩) ws.length c2] rfl rfl (newest rfl) (fun u hu => by simp at hu; rw [hu]; rfl) (by omega) (by unfold maxLen; omega) (by omega) hb2 _ rfl ?_; intro gb cp W4 hown4 hgrow hat4 hlt4; have hO4 := lines_more HS.out.2.1 hown4 hgrow hat4 HS.out.2.2.1 rfl HS.out.2.2.2.1 (by simp; have := HM.out; omega) HS.out.2.2.2.2.1; have B4 := HS.out.2.2.2.2.2.grownBy hgrow (fun x hx => (own2.lt x hx).1); clear hgrow hat4 hlt4 own2 hown4 hlen hwB; replace hO4 := Lib.hid hO4; go_wp2_with fail)
     go_roundw
     case rel => exact ⟨i + 1, some ⟨gb, 0, none⟩, none, cp, 0, LL ++ [ws], vs ++ [.slice (some ⟨g, 0, none⟩) ws.length c2], [], false, by have := HM.out; omega, by go_num, by simp, rfl, rfl, by have := HM.out; simp; omega, by simp, hO4.out, World.ownsRow_nil _ _ _ _, apart_nil _ _, HS.out.1, B4⟩
     case measure => have := HM.out; simp [intOf]; omega
   have b10 : ((m : Int) == 10) = false := by simp; omega
   cases note
   case true =>
    have hR' : R = scan (bs.drop (i + 1)) (i + 1) LL ws [] true := by rw [hscan, scan_note hg (by omega)]
    have HS := Lib.hid (And.intro hR' (And.intro hO (And.intro hown (And.intro hap hB))))
    have HM := Lib.hid (And.intro hLL (And.intro hl hws))
    clear hR' hscan hO hB hl hLL hws hown hap hat h hle hcap hg hm e10 hi
    go_wp2
    go_roundw
    case rel => exact ⟨i + 1, ao1, ao2, c1, c2, LL, vs, ws, true, by have := HM.out; omega, by go_num, rfl, rfl, rfl, by have := HM.out; omega, by have := HM.out; omega, HS.out.2.1, HS.out.2.2.1, HS.out.2.2.2.1, HS.out.1, HS.out.2.2.2.2⟩
    case measure => have := HM.out; simp [intOf]; omega
   by_cases e35 : m = 35
   ·have b35 : ((m : Int) == 35) = true := by simp; omega
    have hR' : R = scan (bs.drop (i + 1)) (i + 1) LL ws [] true := by rw [hscan, scan_hash hg (by omega), flushW_none]
    have HS := Lib.hid (And.intro hR' (And.intro hO (And.intro hown (And.intro hap hB))))
    have HM := Lib.hid (And.intro hLL (And.intro hl hws))
    clear hR' hscan hO hB hl hLL hws hown hap hat h hle hcap hg hm e10 e35 hi
    go_wp2
    go_roundw
    case rel => exact ⟨i + 1, ao1, ao2, c1, c2, LL, vs, ws, true, by have := HM.out; omega, by go_num, rfl, rfl, rfl, by have := HM.out; omega, by have := HM.out; omega, HS.out.2.1, HS.out.2.2.1, HS.out.2.2.2.1, HS.out.1, HS.out.2.2.2.2⟩
    case measure => have := HM.out; simp [intOf]; omega
   have b35 : ((m : Int) == 35) = false := by simp; omega
   by_cases e32 : m = 32
   ·have b32 : ((m : Int) == 32) = true := by simp; omega
    have hR' : R = scan (bs.drop (i + 1)) (i + 1) LL ws [] false := by rw [hscan, scan_gap hg (by omega), flushW_none]
    have HS := Lib.hid (And.intro hR' (And.intro hO (And.intro hown (And.intro hap hB))))
    have HM := Lib.hid (And.intro hLL (And.intro hl hws))
    clear hR' hscan hO hB hl hLL hws hown hap hat h hle hcap hg hm e10 e35 e32 hi
    go_wp2
    go_roundw
    case rel => exact ⟨i + 1, ao1, ao2, c1, c2, LL, vs, ws, false, by have := HM.out; omega, by go_num, rfl, rfl, rfl, by have := HM.out; omega, by have := HM.out; omega, HS.out.2.1, HS.out.2.2.1, HS.out.2.2.2.1, HS.out.1, HS.out.2.2.2.2⟩
    case measure => have := HM.out; simp [intOf]; omega
   by_cases e9 : m = 9
   ·have b32 : ((m : Int) == 32) = false := by simp; omega
    have b9 : ((m : Int) == 9) = true := by simp; omega
    have hR' : R = scan (bs.drop (i + 1)) (i + 1) LL ws [] false := by rw [hscan, scan_gap hg (by omega), flushW_none]
    have HS := Lib.hid (And.intro hR' (And.intro hO (And.intro hown (And.intro hap hB))))
    have HM := Lib.hid (And.intro hLL (And.intro hl hws))
    clear hR' hscan hO hB hl hLL hws hown hap hat h hle hcap hg hm e10 e35 e9 e32 hi
    go_wp2
    go_roundw
    case rel => exact ⟨i + 1, ao1, ao2, c1, c2, LL, vs, ws, false, by have := HM.out; omega, by go_num, rfl, rfl, rfl, by have := HM.out; omega, by have := HM.out; omega, HS.out.2.1, HS.out.2.2.1, HS.out.2.2.2.1, HS.out.1, HS.out.2.2.2.2⟩
    case measure => have := HM.out; simp [intOf]; omega
   have b32 : ((m : Int) == 32) = false := by simp; omega
   have b9 : ((m : Int) == 9) = false := by simp; omega
   have cp := fun w => r8part_any m w
   cases hpart : partN m
   ·rw [hpart] at cp
    have HR : R = ([], i, 24) := by rw [hscan, scan_bad hg (by omega) (by rw [hm]; exact hpart) (by omega) (by omega)]
    have HB := Lib.hid hB
    subst HR
    clear hscan hO hB hl hLL hws hown hap hat h hle hcap hg hm e10 e35 e32 e9 hpart hi
    go_wp2_with fail
    refine (cp _).mono ?_
    rintro e w1 ⟨rfl, rfl⟩
    clear cp
    go_wp2
    go_ret3
    exact ⟨_, rfl, .inl ⟨rfl, rfl⟩, HB.out⟩
   ·rw [hpart] at cp
    have HO := Lib.hid (And.intro hO (And.intro hown (And.intro hap (And.intro hscan hB))))
    have HM := Lib.hid (And.intro hLL (And.intro hl hws))
    have HG := Lib.hid (And.intro hg (show partN c.toNat = true by rw [hm]; exact hpart))
    have hconvs : ∀ k, i ≤ k → k ≤ bs.length → (convert 47 9 (.slice (some ⟨b, o + i, none⟩) (k - i) (cap - i))).run Tryz.prog wo = .ok (.string (strB (cut bs i k))) wo := fun k h1 h2 => by
     have := run_convert_bytes_arg (P := Tryz.prog) wo 47 5 Tryz.underlying47 Tryz.underlying5 b (o + i) (k - i) (cap - i) (nums (cut bs i k)) (by rw [nums_len, cut_len h1 h2])
      ((hat.drop i).take (k - i) |>.nums (cut_len h1 h2)) 9 Tryz.underlying9
     rw [strB_nums] at this
     exact this
    replace hat := Lib.hid hat
    replace hconvs := Lib.hid hconvs
    have hcp : i < cap := by omega
    have hcp' : ¬ cap = i := by omega
    replace h := Lib.hid h
    have Hl := Lib.hid hl
    clear hscan hO hB hl hLL hws hown hap hg hm e10 e35 e32 e9 hpart
    go_wp2_with fail
    refine (cp _).mono ?_
    rintro e w1 ⟨rfl, rfl⟩
    clear cp
    go_wp2
    clear b10 b35 b32 b9
    go_loopw [10] (fun kv wq => ∃ k : Nat, i ≤ k ∧ k ≤ bs.length ∧ kv = .int .i64 k ∧ (∀ j, i ≤ j → j < k → ∀ c, bs[j]? = some c → partN c.toNat = true) ∧ wo = wq) (fun kv _ => bs.length + 1 - (intOf kv).toNat)
    case atStart => exact ⟨i, Nat.le_refl _, hi, rfl, fun j h1 h2 => by omega, rfl⟩
    case round =>
     obtain ⟨k, hik, hk, rfl, hall, rfl⟩ := hrel
     obtain ⟨wo, rfl⟩ : ∃ wq : World, wq = wo := ⟨_, rfl⟩
     by_cases hlk : k < bs.length
     ·obtain ⟨x, hx⟩ : ∃ x, bs[k]? = some x := ⟨_, List.getElem?_eq_getElem hlk⟩
      have hcx := hat.out k x hx
      have hlB : decide ((k : Int) < (bs.length : Int)) = true := decide_eq_true (by omega)
      have hlI : (k : Int) < (bs.length : Int) := by omega
      have hk0 : (0 : Int) ≤ (k : Int) := by omega
      obtain ⟨mx, hmx⟩ : ∃ m, x.toNat = m := ⟨_, rfl⟩
      rw [hmx] at hcx
      have cp := fun w => r8part_any mx w
      cases hpx : partN mx
      ·rw [hpx] at cp
       have hconv := hconvs.out k hik hk
       have kp : (i : Int) ≤ (k : Int) := by omega
       have kc : (k : Int) ≤ (cap : Int) := by omega
       obtain ⟨hSz, hscan', hqk⟩ : (cut bs i k).length = k - i ∧ R = scan (bs.drop k) k LL (ws ++ [(i, cut bs i k)]) [] false ∧ i < k := by
        obtain ⟨hg, hpart⟩ := HG.out
        have k4 : bs.length ≤ k ∨ ∃ c, bs[k]? = some c ∧ partN c.toNat = false := .inr ⟨x, hx, by rw [hmx]; exact hpx⟩
        have hqk : i < k := by
         rcases Nat.lt_or_ge i k with hh | hh
         ·exact hh
         ·have e : k = i := by omega
          subst e
          rcases k4 with k4 | ⟨x, kx, ky⟩
          ·have := Hl.out; omega
          ·rw [hg] at kx; cases kx; rw [hpart] at ky; cases ky
        exact ⟨cut_len hik hk, HO.out.2.2.2.1.trans (scan_whole hqk hk hall k4), hqk⟩
       obtain ⟨km, hkm⟩ : ∃ km, k = km + 1 := ⟨k - 1, by omega⟩
       have wkm : IntKind.i64.wrap ((k : Int) - 1) = (km : Int) := by rw [IntKind.wrap_i64]; omega
       have wkp : IntKind.i64.wrap ((km : Int) + 1) = (k : Int) := by rw [IntKind.wrap_i64]; omega
       obtain ⟨T, hT⟩ : ∃ T, cut bs i k = T := ⟨_, rfl⟩
       rw [hT] at hscan' hconv
       obtain ⟨S, hS⟩ : ∃ S, strB T = S := ⟨_, rfl⟩
       rw [hS] at hconv
       have own3 := row_keep HO.out.2.1 ((B.refl wo).alloc #[.int .i64 (i : Int), .string S] 102)
       have hO3 := HO.out.1.keep ((B.refl wo).alloc #[.int .i64 (i : Int), .string S] 102)
       have B3 := HO.out.2.2.2.2.alloc #[.int .i64 (i : Int), .string S] 102
       have hfl : flatW (ws ++ [(i, T)]) = flatW ws ++ [.int .i64 ((i : Nat) : Int), .string S] := by rw [flatW_snoc, hS]
       have h16 : ws.length ≤ 65536 := by have := HM.out; omega
       have hb3 := B3.below.size
       have HS := Lib.hid (And.intro hscan' (And.intro hqk (And.intro hk (And.intro hO3 (And.intro HO.out.2.2.1 B3)))))
       replace hfl := Lib.hid hfl
       replace hS := Lib.hid hS
       clear hkm hconvs hall hT hSz hscan' hqk hO3 B3 HG hat HO hik hk h hx hmx hpx hlk
       go_wp2_with fail
       refine (cp _).mono ?_
       rintro e w1 ⟨rfl, rfl⟩
       clear cp hcx
       go_wp2_with (at_builtin; refine wpList_append_lies _ rfl _ _ 103 rfl w.heap.size 102 i1 _ 2 24 Tryz.underlying103 hi1 hy0 hy1 hy2 rfl (by omega) (.slice ao2 ws.length c2) ws.length (flatW ws) rfl own3 ⟨wo.heap.size, 0, none⟩ 1 1 [.int .i64 (i : Int), .string S] rfl rfl (newest rfl) (fun u hu => by simp at hu; rcases hu with rfl | rfl <;> rfl) (by omega) (by unfold maxLen; omega) (by omega) hb3 _ rfl ?_; intro gb cp W4 hown4 hgrow hat4 hlt4; have hO4 := lines_keep HS.out.2.2.2.1 hgrow (fun x hx => (HS.out.2.2.2.2.1 x hx).1) (fun x hx => (HS.out.2.2.2.2.1 x hx).2); have hap4 := apart_more HS.out.2.2.2.1 HS.out.2.2.2.2.1 (n := ws.length + 1) (cap := cp) (Nat.le_refl _) hat4; have B4 := HS.out.2.2.2.2.2.grownBy hgrow (fun x hx => (own3.lt x hx).1); rw [← hfl.out] at hown4; clear hgrow hat4 hlt4 own3; go_wp2_with fail)
       go_roundw
       case rel => exact ⟨k, ao1, some ⟨gb, 0, none⟩, c1, cp, LL, vs, ws ++ [(i, T)], false, HS.out.2.2.1, by go_num, rfl, by simp, rfl, by have := HS.out.2.1; have := HM.out; omega, by have := HS.out.2.1; have := HM.out; simp; omega, hO4, by simpa using hown4, by simpa using hap4, HS.out.1, B4⟩
       case measure => have := HS.out.2.1; have := HM.out; simp [intOf]; omega
      ·rw [hpx] at cp
       have wk1 : IntKind.i64.wrap ((k : Int) + 1) = (k : Int) + 1 := by rw [IntKind.wrap_i64]; omega
       have HA := Lib.hid (show i ≤ k + 1 ∧ k + 1 ≤ bs.length ∧ (∀ j, i ≤ j → j < k + 1 → ∀ c, bs[j]? = some c → partN c.toNat = true) ∧ k < bs.length from ⟨by omega, by omega, fun j h1 h2 y hy => by
        by_cases hj : j = k
        ·subst hj; rw [hx] at hy; cases hy; rw [hmx]; exact hpx
        ·exact hall j h1 (by omega) y hy, hlk⟩)
       clear hall hpx hmx hx hlk hik hk
       go_wp2_with fail
       refine (cp _).mono ?_
       rintro e w1 ⟨rfl, rfl⟩
       clear cp
       go_wp2
       go_roundw
       case rel => exact ⟨k + 1, HA.out.1, HA.out.2.1, by go_num, HA.out.2.2.1, trivial⟩
       case measure => have := HA.out; simp [intOf]; omega
     ·have hlB : decide ((k : Int) < (bs.length : Int)) = false := decide_eq_false (by omega)
      have hconv := hconvs.out k hik hk
      have kp : (i : Int) ≤ (k : Int) := by omega
      have kc : (k : Int) ≤ (cap : Int) := by omega
      obtain ⟨hSz, hscan', hqk⟩ : (cut bs i k).length = k - i ∧ R = scan (bs.drop k) k LL (ws ++ [(i, cut bs i k)]) [] false ∧ i < k := by
       obtain ⟨hg, hpart⟩ := HG.out
       have k4 : bs.length ≤ k ∨ ∃ c, bs[k]? = some c ∧ partN c.toNat = false := .inl (by omega)
       have hqk : i < k := by
        rcases Nat.lt_or_ge i k with hh | hh
        ·exact hh
        ·have e : k = i := by omega
         subst e
         rcases k4 with k4 | ⟨x, kx, ky⟩
         ·have := Hl.out; omega
         ·rw [hg] at kx; cases kx; rw [hpart] at ky; cases ky
       exact ⟨cut_len hik hk, HO.out.2.2.2.1.trans (scan_whole hqk hk hall k4), hqk⟩
      obtain ⟨km, hkm⟩ : ∃ km, k = km + 1 := ⟨k - 1, by omega⟩
      have wkm : IntKind.i64.wrap ((k : Int) - 1) = (km : Int) := by rw [IntKind.wrap_i64]; omega
      have wkp : IntKind.i64.wrap ((km : Int) + 1) = (k : Int) := by rw [IntKind.wrap_i64]; omega
      obtain ⟨T, hT⟩ : ∃ T, cut bs i k = T := ⟨_, rfl⟩
      rw [hT] at hscan' hconv
      obtain ⟨S, hS⟩ : ∃ S, strB T = S := ⟨_, rfl⟩
      rw [hS] at hconv
      have own3 := row_keep HO.out.2.1 ((B.refl wo).alloc #[.int .i64 (i : Int), .string S] 102)
      have hO3 := HO.out.1.keep ((B.refl wo).alloc #[.int .i64 (i : Int), .string S] 102)
      have B3 := HO.out.2.2.2.2.alloc #[.int .i64 (i : Int), .string S] 102
      have hfl : flatW (ws ++ [(i, T)]) = flatW ws ++ [.int .i64 ((i : Nat) : Int), .string S] := by rw [flatW_snoc, hS]
      have h16 : ws.length ≤ 65536 := by have := HM.out; omega
      have hb3 := B3.below.size
      have HS := Lib.hid (And.intro hscan' (And.intro hqk (And.intro hk (And.intro hO3 (And.intro HO.out.2.2.1 B3)))))
      replace hfl := Lib.hid hfl
      replace hS := Lib.hid hS
      clear hkm hconvs hall hT hSz hscan' hqk hO3 B3 HG hat HO hik hk h 
      go_wp2_with (at_builtin; refine wpList_append_lies _ rfl _ _ 103 rfl w.heap.size 102 i1 _ 2 24 Tryz.underlying103 hi1 hy0 hy1 hy2 rfl (by omega) (.slice ao2 ws.length c2) ws.length (flatW ws) rfl own3 ⟨wo.heap.size, 0, none⟩ 1 1 [.int .i64 (i : Int), .string S] rfl rfl (newest rfl) (fun u hu => by simp at hu; rcases hu with rfl | rfl <;> rfl) (by omega) (by unfold maxLen; omega) (by omega) hb3 _ rfl ?_; intro gb cp W4 hown4 hgrow hat4 hlt4; have hO4 := lines_keep HS.out.2.2.2.1 hgrow (fun x hx => (HS.out.2.2.2.2.1 x hx).1) (fun x hx => (HS.out.2.2.2.2.1 x hx).2); have hap4 := apart_more HS.out.2.2.2.1 HS.out.2.2.2.2.1 (n := ws.length + 1) (cap := cp) (Nat.le_refl _) hat4; have B4 := HS.out.2.2.2.2.2.grownBy hgrow (fun x hx => (own3.lt x hx).1); rw [← hfl.out] at hown4; clear hgrow hat4 hlt4 own3; go_wp2_with fail)
      go_roundw
      case rel => exact ⟨k, ao1, some ⟨gb, 0, none⟩, c1, cp, LL, vs, ws ++ [(i, T)], false, HS.out.2.2.1, by go_num, rfl, by simp, rfl, by have := HS.out.2.1; have := HM.out; omega, by have := HS.out.2.1; have := HM.out; simp; omega, hO4, by simpa using hown4, by simpa using hap4, HS.out.1, B4⟩
      case measure => have := HS.out.2.1; have := HM.out; simp [intOf]; omega
  ·have hlB : decide ((i : Int) < (bs.length : Int)) = false := decide_eq_false (by omega)
   have hR' : R = (flushL LL ws, 0, 0) := by rw [hscan, scan_end (by omega), flushW_none]
   by_cases hw : ws = []
   ·subst hw
    rw [flushL_none] at hR'
    have HB := Lib.hid (And.intro hO.is hB)
    subst hR'
    clear hscan hO hB hLL hws hown hap h hle hcap
    go_wp2
    go_ret3
    exact ⟨_, rfl, HB.out.1, HB.out.2⟩
   ·have hlen : 0 < ws.length := List.length_pos_iff.2 hw
    have hwB : decide ((0 : Int) < (ws.length : Int)) = true := decide_eq_true (by omega)
    rw [flushL_some hw] at hR'
    have hIW := words_own hown rfl
    obtain ⟨g, c3, hv, _, _, hg', _⟩ := hIW.full hlen
    obtain ⟨rfl, _, rfl⟩ : ao2 = some ⟨g, 0, none⟩ ∧ True ∧ c2 = c3 := by simpa using hv
    have hO2 := hO.keep ((B.refl wo).alloc #[.slice (some ⟨g, 0, none⟩) ws.length c2] 103)
    have own2 := hO2.own
    have hIW2 := hIW.keep ((B.refl wo).alloc #[.slice (some ⟨g, 0, none⟩) ws.length c2] 103)
    have B2 := hB.alloc #[.slice (some ⟨g, 0, none⟩) ws.length c2] 103
    have hne := (hap g rfl).1
    have hgb := (hown.lt g rfl).1
    have h16 : LL.length ≤ 65536 := by omega
    have hb2 := B2.below.size
    subst hR'
    have HM := Lib.hid hg'
    have HS := Lib.hid (And.intro hO2 (And.intro hIW2 (And.intro hne (And.intro hgb B2))))
    clear hscan hO hB hLL hws hown hap h hle hcap hO2 hIW hIW2 hne hgb B2 hv hw hg' hi
    go_wp2_with (at_builtin; refine wpList_append_lies _ rfl _ _ 44 rfl w.heap.size 103 i0 _ 1 24 Tryz.underlying44 hi0 hz0 hz1 hz2 rfl (by omega) (.slice ao1 LL.length c1) LL.length vs rfl own2 ⟨wo.heap.size, 0, none⟩ 1 1 [.slice (some ⟨g, 0, none⟩) ws.length c2] rfl rfl (newest rfl) (fun u hu => by simp at hu; rw [hu]; rfl) (by omega) (by unfold maxLen; omega) (by omega) hb2 _ rfl ?_; intro gb cp W4 hown4 hgrow hat4 hlt4; have hO4 := lines_more HS.out.1 hown4 hgrow hat4 HS.out.2.1 rfl HS.out.2.2.1 (by simp; have := HM.out; omega) HS.out.2.2.2.1; have B4 := HS.out.2.2.2.2.grownBy hgrow (fun x hx => (own2.lt x hx).1); clear hgrow hat4 hlt4 own2 hown4 hlen hwB; replace hO4 := Lib.hid hO4; go_wp2_with fail)
    go_ret3
    exact ⟨_, rfl, by have := hO4.out.is; simpa using this, B4⟩
end Go.Proofs.YtalnfojaccfcjaaGreatDoor
namespace Go.Proofs.YtalnfojaccfcjaaGreatDoor
open Go.RowKit
def IsLnO (w : World) (v : Value) (LL : List (List Wd)) : Prop :=
 (v = .slice none 0 0 ∧ LL = []) ∨
 ∃ g o cap, v = .slice (some ⟨g, o, none⟩) LL.length cap ∧ LL.length ≤ cap ∧ cap ≤ maxLen ∧ ∀ i L, LL[i]? = some L → ∃ u, w.cell? ⟨g, o + i, none⟩ = some u ∧ IsWords w u L
theorem IsLnO.keep {w w' : World} {v : Value} {LL : List (List Wd)} (h : IsLnO w v LL) (q : B w w') : IsLnO w' v LL := by
 rcases h with h | ⟨g, o, cap, h1, h2, h3, h4⟩
 ·exact .inl h
 ·exact .inr ⟨g, o, cap, h1, h2, h3, fun i L hL => let ⟨u, k1, k2⟩ := h4 i L hL; ⟨u, q.keep k1, k2.keep q⟩⟩
theorem IsLnO.form {w : World} {v : Value} {LL : List (List Wd)} (h : IsLnO w v LL) : ∃ ao cap, v = .slice ao LL.length cap := by
 rcases h with ⟨rfl, rfl⟩ | ⟨g, o, cap, rfl, _⟩ <;> exact ⟨_, _, rfl⟩
theorem IsLnO.at_ {w : World} {v : Value} {LL : List (List Wd)} (h : IsLnO w v LL) {i : Nat} (hi : i < LL.length) : ∃ g o cap u, v = .slice (some ⟨g, o, none⟩) LL.length cap ∧ w.cell? ⟨g, o + i, none⟩ = some u ∧ IsWords w u LL[i] := by
 rcases h with ⟨_, rfl⟩ | ⟨g, o, cap, h1, _, _, h4⟩
 ·simp at hi
 ·obtain ⟨u, k1, k2⟩ := h4 i _ (List.getElem?_eq_getElem hi)
  exact ⟨g, o, cap, u, h1, k1, k2⟩
theorem IsLines.lnO {w : World} {v : Value} {LL : List (List Wd)} (h : IsLines w v LL) : IsLnO w v LL := by
 rcases h with h | ⟨g, cap, h1, h2, h3, h4⟩
 ·exact .inl h
 ·exact .inr ⟨g, 0, cap, h1, h2, h3, fun i L hL => by rw [Nat.zero_add]; exact h4 i L hL⟩
theorem IsLnO.drop {w : World} {g o cap : Nat} {LL : List (List Wd)} (h : IsLnO w (.slice (some ⟨g, o, none⟩) LL.length cap) LL) {k : Nat} (hk : k ≤ LL.length) :
  IsLnO w (.slice (some ⟨g, o + k, none⟩) (LL.length - k) (cap - k)) (LL.drop k) := by
 rcases h with ⟨e, _⟩ | ⟨g', o', cap', e, h2, h3, h4⟩
 ·simp at e
 ·obtain ⟨⟨rfl, rfl⟩, rfl⟩ : (g = g' ∧ o = o') ∧ cap = cap' := by simpa using e
  refine .inr ⟨g, o + k, cap - k, by rw [List.length_drop], by rw [List.length_drop]; omega, by omega, fun i L hL => ?_⟩
  rw [List.getElem?_drop] at hL
  obtain ⟨u, k1, k2⟩ := h4 _ L hL
  exact ⟨u, by rw [show o + k + i = o + (k + i) by omega]; exact k1, k2⟩
end Go.Proofs.YtalnfojaccfcjaaGreatDoor
