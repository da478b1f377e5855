/-
 Contracts and what they rest on.
-/
import Derived.Test.YtalnfojaccfcjaaGreatDoorChecked
import Derived.Lib.ConvBytes
import Derived.KernelRfl
import Derived.Test.YtalnfojaccfcjaaGreatDoorZ26
namespace Go.Proofs.YtalnfojaccfcjaaGreatDoor
open Go.RowKit
theorem helptip_any (n : ByteArray) (x y z : Int) (v1 v2 : Value) (l : List Sec) (w : World) (h1 : IsSecs w v1 l) (h2 : IsSecs w v2 l) : Calls Tryz.prog 38 #[.agg #[.string n, .int .i64 x, .int .i64 y, .int .i64 z, v1], .agg #[.string n, .int .i64 x, .int .i64 y, .int .i64 z, v2]] w fun e w' => e = .returned (.bool true) ∧ Q w w' := by
 have q1 := (Q.refl w).alloc #[.string n, .int .i64 x, .int .i64 y, .int .i64 z, v1] 35
 have hQ := q1.alloc #[.string n, .int .i64 x, .int .i64 y, .int .i64 z, v2] 35
 have ht := sections_any v1 v2 l _ (h1.keepB hQ.b) (h2.keepB hQ.b)
 replace hQ := Lib.hid hQ
 clear q1 h1 h2
 go_enter Tryz.func38, Tryz.ntmps38
 go_wp2_with fail
 refine (Calls.mono ht ?_)
 rintro _ w1 ⟨rfl, hD⟩
 go_wp2
 go_ret
 exact ⟨rfl, hQ.out.dr hD⟩
set_option maxHeartbeats 2000000 in
theorem helpdeck_any (wv tv fv wv2 tv2 fv2 : Value) (d : Dk) (w : World) (h1 : IsDk w wv tv fv d) (h2 : IsDk w wv2 tv2 fv2 d) : Calls Tryz.prog 19 #[.agg #[wv, tv, fv], .agg #[wv2, tv2, fv2]] w fun e w' => e = .returned (.bool true) ∧ Q w w' := by
 obtain ⟨ao, ac, bo, bc, co, cc, rfl, rfl, rfl⟩ := h1.forms
 obtain ⟨ao2, ac2, bo2, bc2, co2, cc2, rfl, rfl, rfl⟩ := h2.forms
 have q1 := (Q.refl w).alloc #[.slice ao d.ws.length ac, .slice bo d.ts.length bc, .slice co d.fs.length cc] 26
 have hQ := q1.alloc #[.slice ao2 d.ws.length ac2, .slice bo2 d.ts.length bc2, .slice co2 d.fs.length cc2] 26
 obtain ⟨W, hW⟩ : ∃ W, (w.alloc (.cells #[.slice ao d.ws.length ac, .slice bo d.ts.length bc, .slice co d.fs.length cc] 26)).alloc (.cells #[.slice ao2 d.ws.length ac2, .slice bo2 d.ts.length bc2, .slice co2 d.fs.length cc2] 26) = W := ⟨_, rfl⟩
 have e1 : (w.alloc (.cells #[.slice ao d.ws.length ac, .slice bo d.ts.length bc, .slice co d.fs.length cc] 26)).heap.size = w.heap.size + 1 := by simp
 have k0 : W.cell? ⟨w.heap.size, 0, none⟩ = some (.slice ao d.ws.length ac) := by rw [← hW]; exact ((Q.refl _).alloc _ _).keep (by rw [World.cell?_alloc_new]; rfl)
 have k1 : W.cell? ⟨w.heap.size, 1, none⟩ = some (.slice bo d.ts.length bc) := by rw [← hW]; exact ((Q.refl _).alloc _ _).keep (by rw [World.cell?_alloc_new]; rfl)
 have k2 : W.cell? ⟨w.heap.size, 2, none⟩ = some (.slice co d.fs.length cc) := by rw [← hW]; exact ((Q.refl _).alloc _ _).keep (by rw [World.cell?_alloc_new]; rfl)
 have l0 : W.cell? ⟨w.heap.size + 1, 0, none⟩ = some (.slice ao2 d.ws.length ac2) := by rw [← hW, ← e1, World.cell?_alloc_new]; rfl
 have l1 : W.cell? ⟨w.heap.size + 1, 1, none⟩ = some (.slice bo2 d.ts.length bc2) := by rw [← hW, ← e1, World.cell?_alloc_new]; rfl
 have l2 : W.cell? ⟨w.heap.size + 1, 2, none⟩ = some (.slice co2 d.fs.length cc2) := by rw [← hW, ← e1, World.cell?_alloc_new]; rfl
 rw [hW] at hQ
 have hD1 := h1.keepB hQ.b
 have hD2 := h2.keepB hQ.b
 have hf := fills_any _ _ d.fs W hD1.fs hD2.fs
 have n0 : ((d.ws.length : Int) != (d.ws.length : Int)) = false := by simp
 have n1 : ((d.ts.length : Int) != (d.ts.length : Int)) = false := by simp
 have hlen0 := h1.ws.len
 have hlen1 := h1.ts.len
 replace hQ := Lib.hid hQ
 clear q1 h1 h2 e1
 go_enter Tryz.func19, Tryz.ntmps19
 go_wp2_with fail
 try rw [hW]
 refine (Calls.mono hf ?_)
 rintro _ W1 ⟨rfl, hd⟩
 have hq := hd.q
 replace k0 := hq.keep k0
 replace k1 := hq.keep k1
 replace k2 := hq.keep k2
 replace l0 := hq.keep l0
 replace l1 := hq.keep l1
 replace l2 := hq.keep l2
 replace hD1 := hD1.keepB hq.b
 replace hD2 := hD2.keepB hq.b
 replace hQ := Lib.hid (hQ.out.trans hq)
 clear hq hd hW
 go_wp2
 generalize w.heap.size = H at *
 go_loopw [5] (fun iv wr => ∃ i : Nat, i ≤ d.ws.length ∧ iv = .int .i64 i ∧ Q W1 wr) (fun iv _ => d.ws.length + 1 - (intOf iv).toNat)
 case atStart => exact ⟨0, Nat.zero_le _, rfl, Q.refl _⟩
 case round =>
  obtain ⟨i, hi, rfl, hQi⟩ := hrel
  obtain ⟨wo, rfl⟩ : ∃ wo : World, wo = wr := ⟨_, rfl⟩
  replace k0 := hQi.keep k0
  replace k1 := hQi.keep k1
  replace k2 := hQi.keep k2
  replace l0 := hQi.keep l0
  replace l1 := hQi.keep l1
  replace l2 := hQi.keep l2
  replace hD1 := hD1.keepB hQi.b
  replace hD2 := hD2.keepB hQi.b
  replace hQ := Lib.hid (hQ.out.trans hQi)
  by_cases hl : i < d.ws.length
  ·have hlB : decide ((i : Int) < (d.ws.length : Int)) = true := decide_eq_true (by omega)
   have hlI : (i : Int) < (d.ws.length : Int) := by omega
   have hi0 : (0 : Int) ≤ (i : Int) := by omega
   have wk1 : IntKind.i64.wrap ((i : Int) + 1) = (i : Int) + 1 := by rw [IntKind.wrap_i64]; omega
   obtain ⟨a, cap, e1, _, _, hr⟩ := hD1.ws.at_ hl
   obtain ⟨rfl, _, rfl⟩ : ao = some a ∧ True ∧ ac = cap := by simpa using e1
   obtain ⟨b, cap2, e2, _, _, hs⟩ := hD2.ws.at_ hl
   obtain ⟨rfl, _, rfl⟩ : ao2 = some b ∧ True ∧ ac2 = cap2 := by simpa using e2
   generalize d.ws[i] = F at *
   obtain ⟨N, X, Y, Z, SL⟩ := F
   obtain ⟨a1, a2, a3, a4, sv, a5, a6⟩ := hr
   obtain ⟨b1, b2, b3, b4, su, b5, b6⟩ := hs
   simp only at a1 a2 a3 a4 a5 a6 b1 b2 b3 b4 b5 b6
   obtain ⟨so, sc, rfl⟩ := secs_form a6
   obtain ⟨uo, uc, rfl⟩ := secs_form b6
   obtain ⟨sn, hsn⟩ : ∃ sn, SL.length = sn := ⟨_, rfl⟩
   rw [hsn] at a5 b5
   have HL := Lib.hid hl
   clear e1 e2 hi
   have s0 := World.block_lt_of_cell? _ _ k0
   have s1 := World.block_lt_of_cell? _ _ l0
   have s2 := World.block_lt_of_cell? _ _ a1
   have s3 := World.block_lt_of_cell? _ _ b1
   go_wp2_with fail
   go_region
   ·obtain ⟨W2, hW2⟩ : ∃ W2, ((wo.alloc (.cells #[.string N, .int .i64 X, .int .i64 Y, .int .i64 Z, .slice so sn sc] 33)).alloc (.cells #[.string N, .int .i64 X, .int .i64 Y, .int .i64 Z, .slice uo sn uc] 33)).drew = W2 := ⟨_, rfl⟩
    have z1 : (wo.alloc (.cells #[.string N, .int .i64 X, .int .i64 Y, .int .i64 Z, .slice so sn sc] 33)).heap.size = wo.heap.size + 1 := by simp
    have q2 : Q wo W2 := by rw [← hW2]; exact (((Q.refl wo).alloc #[.string N, .int .i64 X, .int .i64 Y, .int .i64 Z, .slice so sn sc] 33).alloc #[.string N, .int .i64 X, .int .i64 Y, .int .i64 Z, .slice uo sn uc] 33).drew
    have p0 : W2.cell? ⟨wo.heap.size, 0, none⟩ = some (.string N) := by rw [← hW2, World.cell?_drew]; exact ((Q.refl _).alloc _ _).keep (by rw [World.cell?_alloc_new]; rfl)
    have r0 : W2.cell? ⟨wo.heap.size + 1, 0, none⟩ = some (.string N) := by rw [← hW2, World.cell?_drew, ← z1, World.cell?_alloc_new]; rfl
    have p1 : W2.cell? ⟨wo.heap.size, 1, none⟩ = some (.int .i64 X) := by rw [← hW2, World.cell?_drew]; exact ((Q.refl _).alloc _ _).keep (by rw [World.cell?_alloc_new]; rfl)
    have r1 : W2.cell? ⟨wo.heap.size + 1, 1, none⟩ = some (.int .i64 X) := by rw [← hW2, World.cell?_drew, ← z1, World.cell?_alloc_new]; rfl
    have p2 : W2.cell? ⟨wo.heap.size, 2, none⟩ = some (.int .i64 Y) := by rw [← hW2, World.cell?_drew]; exact ((Q.refl _).alloc _ _).keep (by rw [World.cell?_alloc_new]; rfl)
    have r2 : W2.cell? ⟨wo.heap.size + 1, 2, none⟩ = some (.int .i64 Y) := by rw [← hW2, World.cell?_drew, ← z1, World.cell?_alloc_new]; rfl
    have p3 : W2.cell? ⟨wo.heap.size, 3, none⟩ = some (.int .i64 Z) := by rw [← hW2, World.cell?_drew]; exact ((Q.refl _).alloc _ _).keep (by rw [World.cell?_alloc_new]; rfl)
    have r3 : W2.cell? ⟨wo.heap.size + 1, 3, none⟩ = some (.int .i64 Z) := by rw [← hW2, World.cell?_drew, ← z1, World.cell?_alloc_new]; rfl
    have p4 : W2.cell? ⟨wo.heap.size, 4, none⟩ = some (.slice so sn sc) := by rw [← hW2, World.cell?_drew]; exact ((Q.refl _).alloc _ _).keep (by rw [World.cell?_alloc_new]; rfl)
    have r4 : W2.cell? ⟨wo.heap.size + 1, 4, none⟩ = some (.slice uo sn uc) := by rw [← hW2, World.cell?_drew, ← z1, World.cell?_alloc_new]; rfl
    have hs := sections_any _ _ SL W2 (a6.keepB q2.b) (b6.keepB q2.b)
    rw [hsn] at hs
    replace k0 := q2.keep k0
    replace k1 := q2.keep k1
    replace k2 := q2.keep k2
    replace l0 := q2.keep l0
    replace l1 := q2.keep l1
    replace l2 := q2.keep l2
    have HQ := Lib.hid (hQi.trans q2)
    clear a1 a2 a3 a4 a5 a6 b1 b2 b3 b4 b5 b6 s0 s1 s2 s3 hD1 hD2 hQi q2 z1 hl
    rw [hW2]
    clear hW2
    go_wp2_with fail
    refine (Calls.mono hs ?_)
    rintro _ W3 ⟨rfl, hd⟩
    replace HQ := Lib.hid (HQ.out.dr hd)
    go_wp2
    go_roundw
    case rel => exact ⟨i + 1, by have := HL.out; omega, by go_num, HQ.out⟩
    case measure => have := HL.out; simp [intOf]; omega
   ·obtain ⟨W2, hW2⟩ : ∃ W2, ((wo.alloc (.cells #[.string N, .int .i64 X, .int .i64 Y, .int .i64 Z, .slice uo sn uc] 33)).alloc (.cells #[.string N, .int .i64 X, .int .i64 Y, .int .i64 Z, .slice so sn sc] 33)).drew = W2 := ⟨_, rfl⟩
    have z1 : (wo.alloc (.cells #[.string N, .int .i64 X, .int .i64 Y, .int .i64 Z, .slice uo sn uc] 33)).heap.size = wo.heap.size + 1 := by simp
    have q2 : Q wo W2 := by rw [← hW2]; exact (((Q.refl wo).alloc #[.string N, .int .i64 X, .int .i64 Y, .int .i64 Z, .slice uo sn uc] 33).alloc #[.string N, .int .i64 X, .int .i64 Y, .int .i64 Z, .slice so sn sc] 33).drew
    have p0 : W2.cell? ⟨wo.heap.size, 0, none⟩ = some (.string N) := by rw [← hW2, World.cell?_drew]; exact ((Q.refl _).alloc _ _).keep (by rw [World.cell?_alloc_new]; rfl)
    have r0 : W2.cell? ⟨wo.heap.size + 1, 0, none⟩ = some (.string N) := by rw [← hW2, World.cell?_drew, ← z1, World.cell?_alloc_new]; rfl
    have p1 : W2.cell? ⟨wo.heap.size, 1, none⟩ = some (.int .i64 X) := by rw [← hW2, World.cell?_drew]; exact ((Q.refl _).alloc _ _).keep (by rw [World.cell?_alloc_new]; rfl)
    have r1 : W2.cell? ⟨wo.heap.size + 1, 1, none⟩ = some (.int .i64 X) := by rw [← hW2, World.cell?_drew, ← z1, World.cell?_alloc_new]; rfl
    have p2 : W2.cell? ⟨wo.heap.size, 2, none⟩ = some (.int .i64 Y) := by rw [← hW2, World.cell?_drew]; exact ((Q.refl _).alloc _ _).keep (by rw [World.cell?_alloc_new]; rfl)
    have r2 : W2.cell? ⟨wo.heap.size + 1, 2, none⟩ = some (.int .i64 Y) := by rw [← hW2, World.cell?_drew, ← z1, World.cell?_alloc_new]; rfl
    have p3 : W2.cell? ⟨wo.heap.size, 3, none⟩ = some (.int .i64 Z) := by rw [← hW2, World.cell?_drew]; exact ((Q.refl _).alloc _ _).keep (by rw [World.cell?_alloc_new]; rfl)
    have r3 : W2.cell? ⟨wo.heap.size + 1, 3, none⟩ = some (.int .i64 Z) := by rw [← hW2, World.cell?_drew, ← z1, World.cell?_alloc_new]; rfl
    have p4 : W2.cell? ⟨wo.heap.size, 4, none⟩ = some (.slice uo sn uc) := by rw [← hW2, World.cell?_drew]; exact ((Q.refl _).alloc _ _).keep (by rw [World.cell?_alloc_new]; rfl)
    have r4 : W2.cell? ⟨wo.heap.size + 1, 4, none⟩ = some (.slice so sn sc) := by rw [← hW2, World.cell?_drew, ← z1, World.cell?_alloc_new]; rfl
    have hs := sections_any _ _ SL W2 (a6.keepB q2.b) (b6.keepB q2.b)
    rw [hsn] at hs
    replace k0 := q2.keep k0
    replace k1 := q2.keep k1
    replace k2 := q2.keep k2
    replace l0 := q2.keep l0
    replace l1 := q2.keep l1
    replace l2 := q2.keep l2
    have HQ := Lib.hid (hQi.trans q2)
    clear a1 a2 a3 a4 a5 a6 b1 b2 b3 b4 b5 b6 s0 s1 s2 s3 hD1 hD2 hQi q2 z1 hl
    rw [hW2]
    clear hW2
    go_wp2_with fail
    refine (Calls.mono hs ?_)
    rintro _ W3 ⟨rfl, hd⟩
    replace HQ := Lib.hid (HQ.out.dr hd)
    go_wp2
    go_roundw
    case rel => exact ⟨i + 1, by have := HL.out; omega, by go_num, HQ.out⟩
    case measure => have := HL.out; simp [intOf]; omega
  ·have hlB : decide ((i : Int) < (d.ws.length : Int)) = false := decide_eq_false (by omega)
   clear hi hlen0 n0 n1 hQi hf
   go_wp2
   go_loopw [8] (fun iv wr => ∃ i : Nat, i ≤ d.ts.length ∧ iv = .int .i64 i ∧ Q wo wr) (fun iv _ => d.ts.length + 1 - (intOf iv).toNat)
   case atStart => exact ⟨0, Nat.zero_le _, rfl, Q.refl _⟩
   case round =>
    clear hlB hl
    obtain ⟨i, hi, rfl, hQi⟩ := hrel
    obtain ⟨wt, rfl⟩ : ∃ wt : World, wt = wr := ⟨_, rfl⟩
    replace k0 := hQi.keep k0
    replace k1 := hQi.keep k1
    replace k2 := hQi.keep k2
    replace l0 := hQi.keep l0
    replace l1 := hQi.keep l1
    replace l2 := hQi.keep l2
    replace hD1 := hD1.keepB hQi.b
    replace hD2 := hD2.keepB hQi.b
    replace hQ := Lib.hid (hQ.out.trans hQi)
    by_cases hl : i < d.ts.length
    ·have hlB : decide ((i : Int) < (d.ts.length : Int)) = true := decide_eq_true (by omega)
     have hlI : (i : Int) < (d.ts.length : Int) := by omega
     have hi0 : (0 : Int) ≤ (i : Int) := by omega
     have wk1 : IntKind.i64.wrap ((i : Int) + 1) = (i : Int) + 1 := by rw [IntKind.wrap_i64]; omega
     obtain ⟨a, cap, e1, _, _, hr⟩ := hD1.ts.at_ hl
     obtain ⟨rfl, _, rfl⟩ : bo = some a ∧ True ∧ bc = cap := by simpa using e1
     obtain ⟨b, cap2, e2, _, _, hs⟩ := hD2.ts.at_ hl
     obtain ⟨rfl, _, rfl⟩ : bo2 = some b ∧ True ∧ bc2 = cap2 := by simpa using e2
     generalize d.ts[i] = F at *
     obtain ⟨N, X, Y, Z, SL⟩ := F
     obtain ⟨a1, a2, a3, a4, sv, a5, a6⟩ := hr
     obtain ⟨b1, b2, b3, b4, su, b5, b6⟩ := hs
     simp only at a1 a2 a3 a4 a5 a6 b1 b2 b3 b4 b5 b6
     have ht := helptip_any N X Y Z sv su SL wt.drew (a6.keepB ((Q.refl wt).drew).b) (b6.keepB ((Q.refl wt).drew).b)
     have HL := Lib.hid hl
     have HQ := Lib.hid hQi
     clear e1 e2 hi hl hD1 hD2 hQi
     go_wp2_with fail
     go_region_with (go_at_call 38; refine (Calls.mono ht ?_); rintro _ w3 ⟨rfl, hd⟩)
     all_goals
      have HQ2 := Lib.hid ((HQ.out.drew).trans hd)
      go_wp2
      go_roundw
      case rel => exact ⟨i + 1, by have := HL.out; omega, by go_num, HQ2.out⟩
      case measure => have := HL.out; simp [intOf]; omega
    ·have hlB : decide ((i : Int) < (d.ts.length : Int)) = false := decide_eq_false (by omega)
     clear hi hlen1 hD1 hD2 hQi
     go_wp2
     go_ret
     exact ⟨rfl, hQ.out⟩
end Go.Proofs.YtalnfojaccfcjaaGreatDoor
namespace Go.Proofs.YtalnfojaccfcjaaGreatDoor
open Go.RowKit
set_option linter.unusedVariables false
theorem grid_any (n : ByteArray) (x y z : Int) (so : Option Addr) (sn sc : Nat) (w : World) (hx : I64 x) (hy : I64 y) : Calls Tryz.prog 53 #[.agg #[.string n, .int .i64 x, .int .i64 y, .int .i64 z, .slice so sn sc]] w fun e w' => e = .returned (.bool (inB x 1 8 && inB y 1 12 && inB z 0 1000000)) ∧ B w w' := by
 have cx := fun w => within_any x 1 8 w
 have cy := fun w => within_any y 1 12 w
 have cz := fun w => within_any z 0 1000000 w
 have ex : inB x 1 8 = (decide (1 ≤ x) && decide (x ≤ 8)) := rfl
 have ey : inB y 1 12 = (decide (1 ≤ y) && decide (y ≤ 12)) := rfl
 have ez : inB z 0 1000000 = (decide (0 ≤ z) && decide (z ≤ 1000000)) := rfl
 rw [← ex] at cx
 rw [← ey] at cy
 rw [← ez] at cz
 clear ex ey ez
 have hQ := (B.refl w).alloc #[.string n, .int .i64 x, .int .i64 y, .int .i64 z, .slice so sn sc] 33
 generalize inB x 1 8 = bx at *
 generalize inB y 1 12 = by_ at *
 generalize inB z 0 1000000 = bz at *
 cases bx
 ·go_enter Tryz.func53, Tryz.ntmps53
  go_wp2_with fail
  refine (cx _).mono ?_
  rintro _ _ ⟨rfl, rfl⟩
  go_wp2
  go_ret
  exact ⟨rfl, hQ⟩
 ·cases by_
  ·go_enter Tryz.func53, Tryz.ntmps53
   go_wp2_with fail
   refine (cx _).mono ?_
   rintro _ _ ⟨rfl, rfl⟩
   go_wp2_with fail
   refine (cy _).mono ?_
   rintro _ _ ⟨rfl, rfl⟩
   go_wp2
   go_ret
   exact ⟨rfl, hQ⟩
  ·go_enter Tryz.func53, Tryz.ntmps53
   go_wp2_with fail
   refine (cx _).mono ?_
   rintro _ _ ⟨rfl, rfl⟩
   go_wp2_with fail
   refine (cy _).mono ?_
   rintro _ _ ⟨rfl, rfl⟩
   go_wp2_with fail
   refine (cz _).mono ?_
   rintro _ _ ⟨rfl, rfl⟩
   go_wp2
   go_ret
   exact ⟨by simp, hQ⟩
end Go.Proofs.YtalnfojaccfcjaaGreatDoor
namespace Go.Proofs.YtalnfojaccfcjaaGreatDoor
open Go.RowKit
theorem named_any (s : ByteArray) (w : World) : Calls Tryz.prog 98 #[.string s] w fun e w' => e = .returned (.bool (nameS s)) ∧ B w w' := by
 by_cases h1 : s.size < 1
 ·have h1B : decide ((s.size : Int) < 1) = true := decide_eq_true (by omega)
  rw [nameS_size (.inl h1)]
  clear h1
  go_enter Tryz.func98, Tryz.ntmps98
  go_wp2
  go_ret
  exact ⟨rfl, B.refl _⟩
 have h1B : decide ((s.size : Int) < 1) = false := decide_eq_false (by omega)
 by_cases h2 : 16 < s.size
 ·have h2B : decide ((16 : Int) < (s.size : Int)) = true := decide_eq_true (by omega)
  rw [nameS_size (.inr h2)]
  clear h1 h2
  go_enter Tryz.func98, Tryz.ntmps98
  go_wp2
  go_ret
  exact ⟨rfl, B.refl _⟩
 have h2B : decide ((16 : Int) < (s.size : Int)) = false := decide_eq_false (by omega)
 have hconv := fun w => Lib.run_convert_string_bytes (P := Tryz.prog) w 9 47 5 s Tryz.underlying9 Tryz.underlying47 Tryz.underlying5
 have hcell : ∀ j, j < s.size → (Lib.bytesWorld w 5 s).cell? ⟨w.heap.size, j, none⟩ = some (.int .u8 ((byteAt s j : Nat) : Int)) := fun j hj => Lib.bytesWorld_cell w _ s j hj
 have hB : B w (Lib.bytesWorld w 5 s) := (B.refl w).bytes _ _
 have hgood := Lib.hid (fun h3 h => nameS_good (s := s) (by omega) (by omega) h3 h)
 have hbad := @nameS_bad s
 have hfst := @nameS_first s
 have HB := Lib.hid hB
 generalize nameS s = R at *
 clear hB
 go_enter Tryz.func98, Tryz.ntmps98
 go_wp2
 generalize Lib.bytesWorld w 5 s = W1 at *
 generalize w.heap.size = H at *
 go_loopw [18] (fun i wr => ∃ k : Nat, k ≤ s.size ∧ i = .int .i64 k ∧ (∀ j, j < k → (lowN (byteAt s j) || digN (byteAt s j)) = true) ∧ (0 < k → lowN (byteAt s 0) = true) ∧ W1 = wr) (fun i _ => s.size + 1 - (intOf i).toNat)
 case atStart => exact ⟨0, Nat.zero_le _, rfl, fun j hj => by omega, fun h => by omega, rfl⟩
 case round =>
  obtain ⟨k, hk, rfl, hall, h0, rfl⟩ := hrel
  by_cases hl : k < s.size
  ·obtain ⟨b, eb⟩ : ∃ b, byteAt s k = b := ⟨_, rfl⟩
   have hlB : decide ((k : Int) < (s.size : Int)) = true := decide_eq_true (by omega)
   have hlI : (k : Int) < (s.size : Int) := by omega
   have wk1 : IntKind.i64.wrap ((k : Int) + 1) = (k : Int) + 1 := by rw [IntKind.wrap_i64]; omega
   have hc := hcell k hl
   have hb := hbad hl
   have hnext : (lowN (byteAt s k) || digN (byteAt s k)) = true → ∀ j, j < k + 1 → (lowN (byteAt s j) || digN (byteAt s j)) = true := fun h j hj => by
    by_cases c : j = k
    ·subst c; exact h
    ·exact hall j (by omega)
   have hz : (k = 0 → lowN b = true) → lowN (byteAt s 0) = true := fun h => by
    by_cases c : k = 0
    ·subst c; rw [eb]; exact h rfl
    ·exact h0 (by omega)
   have hf : k = 0 → lowN b = false → R = false := fun h1 h2 => by
    subst h1; exact hfst (by rw [eb]; exact h2)
   rw [eb] at hc hb hnext
   clear eb hall h0 hcell
   have five : b < 48 ∨ (48 ≤ b ∧ b ≤ 57) ∨ (58 ≤ b ∧ b ≤ 96) ∨ (97 ≤ b ∧ b ≤ 122) ∨ 122 < b := by omega
   rcases five with c | c | c | c | c
   ·have d1 : decide (97 ≤ (b : Int)) = false := decide_eq_false (by omega)
    have d2 : decide ((b : Int) ≤ 122) = true := decide_eq_true (by omega)
    have d3 : decide (48 ≤ (b : Int)) = false := decide_eq_false (by omega)
    have d4 : decide ((b : Int) ≤ 57) = true := decide_eq_true (by omega)
    have l1 : lowN b = false := by unfold lowN; simp; omega
    have l2 : digN b = false := by unfold digN; simp; omega
    obtain rfl := hb (by rw [l1, l2]; rfl)
    clear hnext hz hf hb l1 l2
    go_wp2
    go_ret
    exact ⟨rfl, HB.out⟩
   ·have d1 : decide (97 ≤ (b : Int)) = false := decide_eq_false (by omega)
    have d2 : decide ((b : Int) ≤ 122) = true := decide_eq_true (by omega)
    have d3 : decide (48 ≤ (b : Int)) = true := decide_eq_true (by omega)
    have d4 : decide ((b : Int) ≤ 57) = true := decide_eq_true (by omega)
    have l1 : lowN b = false := by unfold lowN; simp; omega
    have l2 : digN b = true := by unfold digN; simp; omega
    by_cases k0 : k = 0
    ·obtain rfl := hf k0 l1
     subst k0
     clear hnext hz hf hb l1 l2
     go_wp2
     go_ret
     exact ⟨rfl, HB.out⟩
    ·have k0B : ((k : Int) == 0) = false := by simp; omega
     have HA := Lib.hid (hnext (by rw [l1, l2]; rfl))
     have HZ := Lib.hid (hz (fun h => by first | exact l1 | omega))
     clear hnext hz hf hb l1 l2
     go_wp2
     go_roundw
     case rel => exact ⟨k + 1, by omega, by go_num, HA.out, fun _ => HZ.out, trivial⟩
     case measure => simp [intOf]; omega
   ·have d1 : decide (97 ≤ (b : Int)) = false := decide_eq_false (by omega)
    have d2 : decide ((b : Int) ≤ 122) = true := decide_eq_true (by omega)
    have d3 : decide (48 ≤ (b : Int)) = true := decide_eq_true (by omega)
    have d4 : decide ((b : Int) ≤ 57) = false := decide_eq_false (by omega)
    have l1 : lowN b = false := by unfold lowN; simp; omega
    have l2 : digN b = false := by unfold digN; simp; omega
    obtain rfl := hb (by rw [l1, l2]; rfl)
    clear hnext hz hf hb l1 l2
    go_wp2
    go_ret
    exact ⟨rfl, HB.out⟩
   ·have d1 : decide (97 ≤ (b : Int)) = true := decide_eq_true (by omega)
    have d2 : decide ((b : Int) ≤ 122) = true := decide_eq_true (by omega)
    have d3 : decide (48 ≤ (b : Int)) = true := decide_eq_true (by omega)
    have d4 : decide ((b : Int) ≤ 57) = false := decide_eq_false (by omega)
    have l1 : lowN b = true := by unfold lowN; simp; omega
    have l2 : digN b = false := by unfold digN; simp; omega
    have HA := Lib.hid (hnext (by rw [l1, l2]; rfl))
    have HZ := Lib.hid (hz (fun h => by first | exact l1 | omega))
    clear hnext hz hf hb l1 l2
    go_wp2
    go_roundw
    case rel => exact ⟨k + 1, by omega, by go_num, HA.out, fun _ => HZ.out, trivial⟩
    case measure => simp [intOf]; omega
   ·have d1 : decide (97 ≤ (b : Int)) = true := decide_eq_true (by omega)
    have d2 : decide ((b : Int) ≤ 122) = false := decide_eq_false (by omega)
    have d3 : decide (48 ≤ (b : Int)) = true := decide_eq_true (by omega)
    have d4 : decide ((b : Int) ≤ 57) = false := decide_eq_false (by omega)
    have l1 : lowN b = false := by unfold lowN; simp; omega
    have l2 : digN b = false := by unfold digN; simp; omega
    obtain rfl := hb (by rw [l1, l2]; rfl)
    clear hnext hz hf hb l1 l2
    go_wp2
    go_ret
    exact ⟨rfl, HB.out⟩
  ·have hlB : decide ((k : Int) < (s.size : Int)) = false := decide_eq_false (by omega)
   have HR := Lib.hid (hgood.out (h0 (by omega)) (fun i hi => hall i (by omega)))
   clear hall hgood hbad
   go_wp2
   go_ret
   exact ⟨by rw [HR.out]; rfl, HB.out⟩
end Go.Proofs.YtalnfojaccfcjaaGreatDoor
namespace Go.Proofs.YtalnfojaccfcjaaGreatDoor
open Go.RowKit
theorem tin_any (v a b : Int) (w : World) :
  Calls Tryz.prog 97 #[.int .i64 v, .int .i64 a, .int .i64 b] w fun e w' => e = .returned (.bool (inB v a b)) ∧ w = w' := by
 unfold inB
 have hb : decide (a ≤ v) = true ∨ decide (a ≤ v) = false := by cases decide (a ≤ v) <;> simp
 rcases hb with hb | hb
 all_goals
  go_enter Tryz.func97, Tryz.ntmps97
  go_wp2
  go_ret
  exact ⟨by simp [hb], rfl⟩
theorem tipright_any (s : ByteArray) (cap filt err : Int) (v : Value) (l : List Sec) (w : World) (hv : IsSecs w v l) :
  Calls Tryz.prog 55 #[.agg #[.string s, .int .i64 cap, .int .i64 filt, .int .i64 err, v]] w fun e w' => e = .returned (.bool (tipB s cap filt err l)) ∧ B w w' := by
 obtain ⟨ao, nn, cc, rfl⟩ := hv.form
 have HV := Lib.hid hv
 clear hv
 have cl := fun w h => right_code (.slice ao nn cc) l w h
 have cc_ := fun w => tin_any cap 1 20000000 w
 have cf := fun w => tin_any filt 1 60000 w
 have ce := fun w => tin_any err 0 10000 w
 have cn := fun w => named_any s w
 unfold tipB
 have kc : ∀ w', B (w.alloc (.cells #[.string s, .int .i64 cap, .int .i64 filt, .int .i64 err, .slice ao nn cc] 35)) w' → B w w' := fun w' q => ((B.refl w).alloc _ _).trans q
 generalize rightS l = bl at *
 generalize inB cap 1 20000000 = bc at *
 generalize inB filt 1 60000 = bf at *
 generalize inB err 0 10000 = be at *
 generalize nameS s = bn at *
 cases bl
 ·go_enter Tryz.func55, Tryz.ntmps55
  go_wp2_with fail
  have k0 : (w.alloc (.cells #[.string s, .int .i64 cap, .int .i64 filt, .int .i64 err, .slice ao nn cc] 35)).cell? ⟨w.heap.size, 0, none⟩ = some (.string s) := by simp [go_sem]
  have k1 : (w.alloc (.cells #[.string s, .int .i64 cap, .int .i64 filt, .int .i64 err, .slice ao nn cc] 35)).cell? ⟨w.heap.size, 1, none⟩ = some (.int .i64 cap) := by simp [go_sem]
  have k2 : (w.alloc (.cells #[.string s, .int .i64 cap, .int .i64 filt, .int .i64 err, .slice ao nn cc] 35)).cell? ⟨w.heap.size, 2, none⟩ = some (.int .i64 filt) := by simp [go_sem]
  have k3 : (w.alloc (.cells #[.string s, .int .i64 cap, .int .i64 filt, .int .i64 err, .slice ao nn cc] 35)).cell? ⟨w.heap.size, 3, none⟩ = some (.int .i64 err) := by simp [go_sem]
  have k4 : (w.alloc (.cells #[.string s, .int .i64 cap, .int .i64 filt, .int .i64 err, .slice ao nn cc] 35)).cell? ⟨w.heap.size, 4, none⟩ = some (.slice ao nn cc) := by simp [go_sem]
  have hv := HV.out.keepB ((B.refl w).alloc #[.string s, .int .i64 cap, .int .i64 filt, .int .i64 err, .slice ao nn cc] 35)
  have g := (B.refl w).alloc #[.string s, .int .i64 cap, .int .i64 filt, .int .i64 err, .slice ao nn cc] 35
  generalize w.alloc (.cells #[.string s, .int .i64 cap, .int .i64 filt, .int .i64 err, .slice ao nn cc] 35) = W at *
  refine (cl _ hv).mono ?_
  rintro e w2 ⟨rfl, q⟩
  replace k0 := q.keep k0
  replace k1 := q.keep k1
  replace k2 := q.keep k2
  replace k3 := q.keep k3
  replace k4 := q.keep k4
  replace hv := hv.keepB q
  replace g := g.trans q
  clear q
  go_wp2
  go_ret
  exact ⟨by simp, g⟩
 cases bc
 ·go_enter Tryz.func55, Tryz.ntmps55
  go_wp2_with fail
  have k0 : (w.alloc (.cells #[.string s, .int .i64 cap, .int .i64 filt, .int .i64 err, .slice ao nn cc] 35)).cell? ⟨w.heap.size, 0, none⟩ = some (.string s) := by simp [go_sem]
  have k1 : (w.alloc (.cells #[.string s, .int .i64 cap, .int .i64 filt, .int .i64 err, .slice ao nn cc] 35)).cell? ⟨w.heap.size, 1, none⟩ = some (.int .i64 cap) := by simp [go_sem]
  have k2 : (w.alloc (.cells #[.string s, .int .i64 cap, .int .i64 filt, .int .i64 err, .slice ao nn cc] 35)).cell? ⟨w.heap.size, 2, none⟩ = some (.int .i64 filt) := by simp [go_sem]
  have k3 : (w.alloc (.cells #[.string s, .int .i64 cap, .int .i64 filt, .int .i64 err, .slice ao nn cc] 35)).cell? ⟨w.heap.size, 3, none⟩ = some (.int .i64 err) := by simp [go_sem]
  have k4 : (w.alloc (.cells #[.string s, .int .i64 cap, .int .i64 filt, .int .i64 err, .slice ao nn cc] 35)).cell? ⟨w.heap.size, 4, none⟩ = some (.slice ao nn cc) := by simp [go_sem]
  have hv := HV.out.keepB ((B.refl w).alloc #[.string s, .int .i64 cap, .int .i64 filt, .int .i64 err, .slice ao nn cc] 35)
  have g := (B.refl w).alloc #[.string s, .int .i64 cap, .int .i64 filt, .int .i64 err, .slice ao nn cc] 35
  generalize w.alloc (.cells #[.string s, .int .i64 cap, .int .i64 filt, .int .i64 err, .slice ao nn cc] 35) = W at *
  refine (cl _ hv).mono ?_
  rintro e w2 ⟨rfl, q⟩
  replace k0 := q.keep k0
  replace k1 := q.keep k1
  replace k2 := q.keep k2
  replace k3 := q.keep k3
  replace k4 := q.keep k4
  replace hv := hv.keepB q
  replace g := g.trans q
  clear q
  go_wp2_with fail
  refine (cc_ _).mono ?_
  rintro e w1 ⟨rfl, rfl⟩
  go_wp2
  go_ret
  exact ⟨by simp, g⟩
 cases bf
 ·go_enter Tryz.func55, Tryz.ntmps55
  go_wp2_with fail
  have k0 : (w.alloc (.cells #[.string s, .int .i64 cap, .int .i64 filt, .int .i64 err, .slice ao nn cc] 35)).cell? ⟨w.heap.size, 0, none⟩ = some (.string s) := by simp [go_sem]
  have k1 : (w.alloc (.cells #[.string s, .int .i64 cap, .int .i64 filt, .int .i64 err, .slice ao nn cc] 35)).cell? ⟨w.heap.size, 1, none⟩ = some (.int .i64 cap) := by simp [go_sem]
  have k2 : (w.alloc (.cells #[.string s, .int .i64 cap, .int .i64 filt, .int .i64 err, .slice ao nn cc] 35)).cell? ⟨w.heap.size, 2, none⟩ = some (.int .i64 filt) := by simp [go_sem]
  have k3 : (w.alloc (.cells #[.string s, .int .i64 cap, .int .i64 filt, .int .i64 err, .slice ao nn cc] 35)).cell? ⟨w.heap.size, 3, none⟩ = some (.int .i64 err) := by simp [go_sem]
  have k4 : (w.alloc (.cells #[.string s, .int .i64 cap, .int .i64 filt, .int .i64 err, .slice ao nn cc] 35)).cell? ⟨w.heap.size, 4, none⟩ = some (.slice ao nn cc) := by simp [go_sem]
  have hv := HV.out.keepB ((B.refl w).alloc #[.string s, .int .i64 cap, .int .i64 filt, .int .i64 err, .slice ao nn cc] 35)
  have g := (B.refl w).alloc #[.string s, .int .i64 cap, .int .i64 filt, .int .i64 err, .slice ao nn cc] 35
  generalize w.alloc (.cells #[.string s, .int .i64 cap, .int .i64 filt, .int .i64 err, .slice ao nn cc] 35) = W at *
  refine (cl _ hv).mono ?_
  rintro e w2 ⟨rfl, q⟩
  replace k0 := q.keep k0
  replace k1 := q.keep k1
  replace k2 := q.keep k2
  replace k3 := q.keep k3
  replace k4 := q.keep k4
  replace hv := hv.keepB q
  replace g := g.trans q
  clear q
  go_wp2_with fail
  refine (cc_ _).mono ?_
  rintro e w1 ⟨rfl, rfl⟩
  go_wp2_with fail
  refine (cf _).mono ?_
  rintro e w1 ⟨rfl, rfl⟩
  go_wp2
  go_ret
  exact ⟨by simp, g⟩
 cases be
 ·go_enter Tryz.func55, Tryz.ntmps55
  go_wp2_with fail
  have k0 : (w.alloc (.cells #[.string s, .int .i64 cap, .int .i64 filt, .int .i64 err, .slice ao nn cc] 35)).cell? ⟨w.heap.size, 0, none⟩ = some (.string s) := by simp [go_sem]
  have k1 : (w.alloc (.cells #[.string s, .int .i64 cap, .int .i64 filt, .int .i64 err, .slice ao nn cc] 35)).cell? ⟨w.heap.size, 1, none⟩ = some (.int .i64 cap) := by simp [go_sem]
  have k2 : (w.alloc (.cells #[.string s, .int .i64 cap, .int .i64 filt, .int .i64 err, .slice ao nn cc] 35)).cell? ⟨w.heap.size, 2, none⟩ = some (.int .i64 filt) := by simp [go_sem]
  have k3 : (w.alloc (.cells #[.string s, .int .i64 cap, .int .i64 filt, .int .i64 err, .slice ao nn cc] 35)).cell? ⟨w.heap.size, 3, none⟩ = some (.int .i64 err) := by simp [go_sem]
  have k4 : (w.alloc (.cells #[.string s, .int .i64 cap, .int .i64 filt, .int .i64 err, .slice ao nn cc] 35)).cell? ⟨w.heap.size, 4, none⟩ = some (.slice ao nn cc) := by simp [go_sem]
  have hv := HV.out.keepB ((B.refl w).alloc #[.string s, .int .i64 cap, .int .i64 filt, .int .i64 err, .slice ao nn cc] 35)
  have g := (B.refl w).alloc #[.string s, .int .i64 cap, .int .i64 filt, .int .i64 err, .slice ao nn cc] 35
  generalize w.alloc (.cells #[.string s, .int .i64 cap, .int .i64 filt, .int .i64 err, .slice ao nn cc] 35) = W at *
  refine (cl _ hv).mono ?_
  rintro e w2 ⟨rfl, q⟩
  replace k0 := q.keep k0
  replace k1 := q.keep k1
  replace k2 := q.keep k2
  replace k3 := q.keep k3
  replace k4 := q.keep k4
  replace hv := hv.keepB q
  replace g := g.trans q
  clear q
  go_wp2_with fail
  refine (cc_ _).mono ?_
  rintro e w1 ⟨rfl, rfl⟩
  go_wp2_with fail
  refine (cf _).mono ?_
  rintro e w1 ⟨rfl, rfl⟩
  go_wp2_with fail
  refine (ce _).mono ?_
  rintro e w1 ⟨rfl, rfl⟩
  go_wp2
  go_ret
  exact ⟨by simp, g⟩
 cases bn
 ·go_enter Tryz.func55, Tryz.ntmps55
  go_wp2_with fail
  have k0 : (w.alloc (.cells #[.string s, .int .i64 cap, .int .i64 filt, .int .i64 err, .slice ao nn cc] 35)).cell? ⟨w.heap.size, 0, none⟩ = some (.string s) := by simp [go_sem]
  have k1 : (w.alloc (.cells #[.string s, .int .i64 cap, .int .i64 filt, .int .i64 err, .slice ao nn cc] 35)).cell? ⟨w.heap.size, 1, none⟩ = some (.int .i64 cap) := by simp [go_sem]
  have k2 : (w.alloc (.cells #[.string s, .int .i64 cap, .int .i64 filt, .int .i64 err, .slice ao nn cc] 35)).cell? ⟨w.heap.size, 2, none⟩ = some (.int .i64 filt) := by simp [go_sem]
  have k3 : (w.alloc (.cells #[.string s, .int .i64 cap, .int .i64 filt, .int .i64 err, .slice ao nn cc] 35)).cell? ⟨w.heap.size, 3, none⟩ = some (.int .i64 err) := by simp [go_sem]
  have k4 : (w.alloc (.cells #[.string s, .int .i64 cap, .int .i64 filt, .int .i64 err, .slice ao nn cc] 35)).cell? ⟨w.heap.size, 4, none⟩ = some (.slice ao nn cc) := by simp [go_sem]
  have hv := HV.out.keepB ((B.refl w).alloc #[.string s, .int .i64 cap, .int .i64 filt, .int .i64 err, .slice ao nn cc] 35)
  have g := (B.refl w).alloc #[.string s, .int .i64 cap, .int .i64 filt, .int .i64 err, .slice ao nn cc] 35
  generalize w.alloc (.cells #[.string s, .int .i64 cap, .int .i64 filt, .int .i64 err, .slice ao nn cc] 35) = W at *
  refine (cl _ hv).mono ?_
  rintro e w2 ⟨rfl, q⟩
  replace k0 := q.keep k0
  replace k1 := q.keep k1
  replace k2 := q.keep k2
  replace k3 := q.keep k3
  replace k4 := q.keep k4
  replace hv := hv.keepB q
  replace g := g.trans q
  clear q
  go_wp2_with fail
  refine (cc_ _).mono ?_
  rintro e w1 ⟨rfl, rfl⟩
  go_wp2_with fail
  refine (cf _).mono ?_
  rintro e w1 ⟨rfl, rfl⟩
  go_wp2_with fail
  refine (ce _).mono ?_
  rintro e w1 ⟨rfl, rfl⟩
  go_wp2_with fail
  refine (cn _).mono ?_
  rintro e w6 ⟨rfl, q⟩
  replace k0 := q.keep k0
  replace k1 := q.keep k1
  replace k2 := q.keep k2
  replace k3 := q.keep k3
  replace k4 := q.keep k4
  replace hv := hv.keepB q
  replace g := g.trans q
  clear q
  go_wp2
  go_ret
  exact ⟨by simp, g⟩
 ·go_enter Tryz.func55, Tryz.ntmps55
  go_wp2_with fail
  have k0 : (w.alloc (.cells #[.string s, .int .i64 cap, .int .i64 filt, .int .i64 err, .slice ao nn cc] 35)).cell? ⟨w.heap.size, 0, none⟩ = some (.string s) := by simp [go_sem]
  have k1 : (w.alloc (.cells #[.string s, .int .i64 cap, .int .i64 filt, .int .i64 err, .slice ao nn cc] 35)).cell? ⟨w.heap.size, 1, none⟩ = some (.int .i64 cap) := by simp [go_sem]
  have k2 : (w.alloc (.cells #[.string s, .int .i64 cap, .int .i64 filt, .int .i64 err, .slice ao nn cc] 35)).cell? ⟨w.heap.size, 2, none⟩ = some (.int .i64 filt) := by simp [go_sem]
  have k3 : (w.alloc (.cells #[.string s, .int .i64 cap, .int .i64 filt, .int .i64 err, .slice ao nn cc] 35)).cell? ⟨w.heap.size, 3, none⟩ = some (.int .i64 err) := by simp [go_sem]
  have k4 : (w.alloc (.cells #[.string s, .int .i64 cap, .int .i64 filt, .int .i64 err, .slice ao nn cc] 35)).cell? ⟨w.heap.size, 4, none⟩ = some (.slice ao nn cc) := by simp [go_sem]
  have hv := HV.out.keepB ((B.refl w).alloc #[.string s, .int .i64 cap, .int .i64 filt, .int .i64 err, .slice ao nn cc] 35)
  have g := (B.refl w).alloc #[.string s, .int .i64 cap, .int .i64 filt, .int .i64 err, .slice ao nn cc] 35
  generalize w.alloc (.cells #[.string s, .int .i64 cap, .int .i64 filt, .int .i64 err, .slice ao nn cc] 35) = W at *
  refine (cl _ hv).mono ?_
  rintro e w2 ⟨rfl, q⟩
  replace k0 := q.keep k0
  replace k1 := q.keep k1
  replace k2 := q.keep k2
  replace k3 := q.keep k3
  replace k4 := q.keep k4
  replace hv := hv.keepB q
  replace g := g.trans q
  clear q
  go_wp2_with fail
  refine (cc_ _).mono ?_
  rintro e w1 ⟨rfl, rfl⟩
  go_wp2_with fail
  refine (cf _).mono ?_
  rintro e w1 ⟨rfl, rfl⟩
  go_wp2_with fail
  refine (ce _).mono ?_
  rintro e w1 ⟨rfl, rfl⟩
  go_wp2_with fail
  refine (cn _).mono ?_
  rintro e w6 ⟨rfl, q⟩
  replace k0 := q.keep k0
  replace k1 := q.keep k1
  replace k2 := q.keep k2
  replace k3 := q.keep k3
  replace k4 := q.keep k4
  replace hv := hv.keepB q
  replace g := g.trans q
  clear q
  go_wp2
  go_ret
  exact ⟨by simp, g⟩
end Go.Proofs.YtalnfojaccfcjaaGreatDoor
