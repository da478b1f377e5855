/-
  Contracts of tips, decks held against one another, where they are the same; What stands behind a deck are lines of what was given. No program is named here; The statements' alike: the code's Parse and the document's, held against one another; The code's grid; Contract of the code's own names; The document's shapes: which may be; Which tips may be, by the document; Which tips may be, by the code; Drawn regions in one order: what a guard passes over, where a slot holds something already.
-/
import Derived.Test.YtflklpflpjdbmaaGreatDoorChecked
import Derived.Lib.ConvBytes
import Derived.KernelRfl
import Derived.Lib.Hide
import Derived.Test.YtflklpflpjdbmaaGreatDoorZ1
import Derived.Test.YtflklpflpjdbmaaGreatDoorZ2
import Derived.Test.YtflklpflpjdbmaaGreatDoorZ3
import Derived.Test.YtflklpflpjdbmaaGreatDoorZ4
import Derived.Test.YtflklpflpjdbmaaGreatDoorZ5
import Derived.Test.YtflklpflpjdbmaaGreatDoorZ6
import Derived.Test.YtflklpflpjdbmaaGreatDoorZ7
import Derived.Test.YtflklpflpjdbmaaGreatDoorZ8
import Derived.Test.YtflklpflpjdbmaaGreatDoorZ9
import Derived.Test.YtflklpflpjdbmaaGreatDoorZ10
import Derived.Test.YtflklpflpjdbmaaGreatDoorZ11
import Derived.Test.YtflklpflpjdbmaaGreatDoorZ12
import Derived.Test.YtflklpflpjdbmaaGreatDoorZ13
import Derived.Test.YtflklpflpjdbmaaGreatDoorZ14
import Derived.Test.YtflklpflpjdbmaaGreatDoorZ15
import Derived.Test.YtflklpflpjdbmaaGreatDoorZ16
import Derived.Test.YtflklpflpjdbmaaGreatDoorZ17
namespace Go.Proofs.YtflklpflpjdbmaaGreatDoor
open Go.RowKit
theorem helptip_any (n : ByteArray) (x y z : Int) (v1 v2 : Value) (l : List Sec) (w : World) (h1 : IsSecs w v1 l) (h2 : IsSecs w v2 l) : Calls Tryz.prog 58 #[.agg #[.string n, .int .i64 x, .int .i64 y, .int .i64 z, v1], .agg #[.string n, .int .i64 x, .int .i64 y, .int .i64 z, v2]] w fun e w' => e = .returned (.bool true) ∧ Q w w' := by
  have q1 := (Q.refl w).alloc #[.string n, .int .i64 x, .int .i64 y, .int .i64 z, v1] 35
  have hQ := q1.alloc #[.string n, .int .i64 x, .int .i64 y, .int .i64 z, v2] 35
  have ht := sections_any v1 v2 l _ (h1.keepB hQ.b) (h2.keepB hQ.b)
  replace hQ := Lib.hid hQ
  clear q1 h1 h2
  go_enter Tryz.func58, Tryz.ntmps58
  go_wp2_with fail
  refine (Calls.mono ht ?_)
  rintro _ w1 ⟨rfl, hD⟩
  go_wp2
  go_ret
  exact ⟨rfl, hQ.out.dr hD⟩
set_option maxHeartbeats 2000000 in
theorem helpdeck_any (wv tv fv wv2 tv2 fv2 : Value) (d : Dk) (w : World) (h1 : IsDk w wv tv fv d) (h2 : IsDk w wv2 tv2 fv2 d) : Calls Tryz.prog 17 #[.agg #[wv, tv, fv], .agg #[wv2, tv2, fv2]] w fun e w' => e = .returned (.bool true) ∧ Q w w' := by
  obtain ⟨ao, ac, bo, bc, co, cc, rfl, rfl, rfl⟩ := h1.forms
  obtain ⟨ao2, ac2, bo2, bc2, co2, cc2, rfl, rfl, rfl⟩ := h2.forms
  have q1 := (Q.refl w).alloc #[.slice ao d.ws.length ac, .slice bo d.ts.length bc, .slice co d.fs.length cc] 26
  have hQ := q1.alloc #[.slice ao2 d.ws.length ac2, .slice bo2 d.ts.length bc2, .slice co2 d.fs.length cc2] 26
  obtain ⟨W, hW⟩ : ∃ W, (w.alloc (.cells #[.slice ao d.ws.length ac, .slice bo d.ts.length bc, .slice co d.fs.length cc] 26)).alloc (.cells #[.slice ao2 d.ws.length ac2, .slice bo2 d.ts.length bc2, .slice co2 d.fs.length cc2] 26) = W := ⟨_, rfl⟩
  have e1 : (w.alloc (.cells #[.slice ao d.ws.length ac, .slice bo d.ts.length bc, .slice co d.fs.length cc] 26)).heap.size = w.heap.size + 1 := by simp
  have k0 : W.cell? ⟨w.heap.size, 0, none⟩ = some (.slice ao d.ws.length ac) := by rw [← hW]; exact ((Q.refl _).alloc _ _).keep (by rw [World.cell?_alloc_new]; rfl)
  have k1 : W.cell? ⟨w.heap.size, 1, none⟩ = some (.slice bo d.ts.length bc) := by rw [← hW]; exact ((Q.refl _).alloc _ _).keep (by rw [World.cell?_alloc_new]; rfl)
  have k2 : W.cell? ⟨w.heap.size, 2, none⟩ = some (.slice co d.fs.length cc) := by rw [← hW]; exact ((Q.refl _).alloc _ _).keep (by rw [World.cell?_alloc_new]; rfl)
  have l0 : W.cell? ⟨w.heap.size + 1, 0, none⟩ = some (.slice ao2 d.ws.length ac2) := by rw [← hW, ← e1, World.cell?_alloc_new]; rfl
  have l1 : W.cell? ⟨w.heap.size + 1, 1, none⟩ = some (.slice bo2 d.ts.length bc2) := by rw [← hW, ← e1, World.cell?_alloc_new]; rfl
  have l2 : W.cell? ⟨w.heap.size + 1, 2, none⟩ = some (.slice co2 d.fs.length cc2) := by rw [← hW, ← e1, World.cell?_alloc_new]; rfl
  rw [hW] at hQ
  have hD1 := h1.keepB hQ.b
  have hD2 := h2.keepB hQ.b
  have hf := fills_any _ _ d.fs W hD1.fs hD2.fs
  have n0 : ((d.ws.length : Int) != (d.ws.length : Int)) = false := by simp
  have n1 : ((d.ts.length : Int) != (d.ts.length : Int)) = false := by simp
  have hlen0 := h1.ws.len
  have hlen1 := h1.ts.len
  replace hQ := Lib.hid hQ
  clear q1 h1 h2 e1
  go_enter Tryz.func17, Tryz.ntmps17
  go_wp2_with fail
  try rw [hW]
  refine (Calls.mono hf ?_)
  rintro _ W1 ⟨rfl, hd⟩
  have hq := hd.q
  replace k0 := hq.keep k0
  replace k1 := hq.keep k1
  replace k2 := hq.keep k2
  replace l0 := hq.keep l0
  replace l1 := hq.keep l1
  replace l2 := hq.keep l2
  replace hD1 := hD1.keepB hq.b
  replace hD2 := hD2.keepB hq.b
  replace hQ := Lib.hid (hQ.out.trans hq)
  clear hq hd hW
  go_wp2
  generalize w.heap.size = H at *
  go_loopw [5] (fun iv wr => ∃ i : Nat, i ≤ d.ws.length ∧ iv = .int .i64 i ∧ Q W1 wr) (fun iv _ => d.ws.length + 1 - (intOf iv).toNat)
  case atStart => exact ⟨0, Nat.zero_le _, rfl, Q.refl _⟩
  case round =>
    obtain ⟨i, hi, rfl, hQi⟩ := hrel
    obtain ⟨wo, rfl⟩ : ∃ wo : World, wo = wr := ⟨_, rfl⟩
    replace k0 := hQi.keep k0
    replace k1 := hQi.keep k1
    replace k2 := hQi.keep k2
    replace l0 := hQi.keep l0
    replace l1 := hQi.keep l1
    replace l2 := hQi.keep l2
    replace hD1 := hD1.keepB hQi.b
    replace hD2 := hD2.keepB hQi.b
    replace hQ := Lib.hid (hQ.out.trans hQi)
    by_cases hl : i < d.ws.length
    · have hlB : decide ((i : Int) < (d.ws.length : Int)) = true := decide_eq_true (by omega)
      have hlI : (i : Int) < (d.ws.length : Int) := by omega
      have hi0 : (0 : Int) ≤ (i : Int) := by omega
      have wk1 : IntKind.i64.wrap ((i : Int) + 1) = (i : Int) + 1 := by rw [IntKind.wrap_i64]; omega
      obtain ⟨a, cap, e1, _, _, hr⟩ := hD1.ws.at_ hl
      obtain ⟨rfl, _, rfl⟩ : ao = some a ∧ True ∧ ac = cap := by simpa using e1
      obtain ⟨b, cap2, e2, _, _, hs⟩ := hD2.ws.at_ hl
      obtain ⟨rfl, _, rfl⟩ : ao2 = some b ∧ True ∧ ac2 = cap2 := by simpa using e2
      generalize d.ws[i] = F at *
      obtain ⟨N, X, Y, Z, SL⟩ := F
      obtain ⟨a1, a2, a3, a4, sv, a5, a6⟩ := hr
      obtain ⟨b1, b2, b3, b4, su, b5, b6⟩ := hs
      simp only at a1 a2 a3 a4 a5 a6 b1 b2 b3 b4 b5 b6
      obtain ⟨so, sc, rfl⟩ := secs_form a6
      obtain ⟨uo, uc, rfl⟩ := secs_form b6
      obtain ⟨sn, hsn⟩ : ∃ sn, SL.length = sn := ⟨_, rfl⟩
      rw [hsn] at a5 b5
      have HL := Lib.hid hl
      clear e1 e2 hi
      have s0 := World.block_lt_of_cell? _ _ k0
      have s1 := World.block_lt_of_cell? _ _ l0
      have s2 := World.block_lt_of_cell? _ _ a1
      have s3 := World.block_lt_of_cell? _ _ b1
      go_wp2_with fail
      go_region
      · obtain ⟨W2, hW2⟩ : ∃ W2, ((wo.alloc (.cells #[.string N, .int .i64 X, .int .i64 Y, .int .i64 Z, .slice so sn sc] 33)).alloc (.cells #[.string N, .int .i64 X, .int .i64 Y, .int .i64 Z, .slice uo sn uc] 33)).drew = W2 := ⟨_, rfl⟩
        have z1 : (wo.alloc (.cells #[.string N, .int .i64 X, .int .i64 Y, .int .i64 Z, .slice so sn sc] 33)).heap.size = wo.heap.size + 1 := by simp
        have q2 : Q wo W2 := by rw [← hW2]; exact (((Q.refl wo).alloc #[.string N, .int .i64 X, .int .i64 Y, .int .i64 Z, .slice so sn sc] 33).alloc #[.string N, .int .i64 X, .int .i64 Y, .int .i64 Z, .slice uo sn uc] 33).drew
        have p0 : W2.cell? ⟨wo.heap.size, 0, none⟩ = some (.string N) := by rw [← hW2, World.cell?_drew]; exact ((Q.refl _).alloc _ _).keep (by rw [World.cell?_alloc_new]; rfl)
        have r0 : W2.cell? ⟨wo.heap.size + 1, 0, none⟩ = some (.string N) := by rw [← hW2, World.cell?_drew, ← z1, World.cell?_alloc_new]; rfl
        have p1 : W2.cell? ⟨wo.heap.size, 1, none⟩ = some (.int .i64 X) := by rw [← hW2, World.cell?_drew]; exact ((Q.refl _).alloc _ _).keep (by rw [World.cell?_alloc_new]; rfl)
        have r1 : W2.cell? ⟨wo.heap.size + 1, 1, none⟩ = some (.int .i64 X) := by rw [← hW2, World.cell?_drew, ← z1, World.cell?_alloc_new]; rfl
        have p2 : W2.cell? ⟨wo.heap.size, 2, none⟩ = some (.int .i64 Y) := by rw [← hW2, World.cell?_drew]; exact ((Q.refl _).alloc _ _).keep (by rw [World.cell?_alloc_new]; rfl)
        have r2 : W2.cell? ⟨wo.heap.size + 1, 2, none⟩ = some (.int .i64 Y) := by rw [← hW2, World.cell?_drew, ← z1, World.cell?_alloc_new]; rfl
        have p3 : W2.cell? ⟨wo.heap.size, 3, none⟩ = some (.int .i64 Z) := by rw [← hW2, World.cell?_drew]; exact ((Q.refl _).alloc _ _).keep (by rw [World.cell?_alloc_new]; rfl)
        have r3 : W2.cell? ⟨wo.heap.size + 1, 3, none⟩ = some (.int .i64 Z) := by rw [← hW2, World.cell?_drew, ← z1, World.cell?_alloc_new]; rfl
        have p4 : W2.cell? ⟨wo.heap.size, 4, none⟩ = some (.slice so sn sc) := by rw [← hW2, World.cell?_drew]; exact ((Q.refl _).alloc _ _).keep (by rw [World.cell?_alloc_new]; rfl)
        have r4 : W2.cell? ⟨wo.heap.size + 1, 4, none⟩ = some (.slice uo sn uc) := by rw [← hW2, World.cell?_drew, ← z1, World.cell?_alloc_new]; rfl
        have hs := sections_any _ _ SL W2 (a6.keepB q2.b) (b6.keepB q2.b)
        rw [hsn] at hs
        replace k0 := q2.keep k0
        replace k1 := q2.keep k1
        replace k2 := q2.keep k2
        replace l0 := q2.keep l0
        replace l1 := q2.keep l1
        replace l2 := q2.keep l2
        have HQ := Lib.hid (hQi.trans q2)
        clear a1 a2 a3 a4 a5 a6 b1 b2 b3 b4 b5 b6 s0 s1 s2 s3 hD1 hD2 hQi q2 z1 hl
        rw [hW2]
        clear hW2
        go_wp2_with fail
        refine (Calls.mono hs ?_)
        rintro _ W3 ⟨rfl, hd⟩
        replace HQ := Lib.hid (HQ.out.dr hd)
        go_wp2
        go_roundw
        case rel => exact ⟨i + 1, by have := HL.out; omega, by go_num, HQ.out⟩
        case measure => have := HL.out; simp [intOf]; omega
      · obtain ⟨W2, hW2⟩ : ∃ W2, ((wo.alloc (.cells #[.string N, .int .i64 X, .int .i64 Y, .int .i64 Z, .slice uo sn uc] 33)).alloc (.cells #[.string N, .int .i64 X, .int .i64 Y, .int .i64 Z, .slice so sn sc] 33)).drew = W2 := ⟨_, rfl⟩
        have z1 : (wo.alloc (.cells #[.string N, .int .i64 X, .int .i64 Y, .int .i64 Z, .slice uo sn uc] 33)).heap.size = wo.heap.size + 1 := by simp
        have q2 : Q wo W2 := by rw [← hW2]; exact (((Q.refl wo).alloc #[.string N, .int .i64 X, .int .i64 Y, .int .i64 Z, .slice uo sn uc] 33).alloc #[.string N, .int .i64 X, .int .i64 Y, .int .i64 Z, .slice so sn sc] 33).drew
        have p0 : W2.cell? ⟨wo.heap.size, 0, none⟩ = some (.string N) := by rw [← hW2, World.cell?_drew]; exact ((Q.refl _).alloc _ _).keep (by rw [World.cell?_alloc_new]; rfl)
        have r0 : W2.cell? ⟨wo.heap.size + 1, 0, none⟩ = some (.string N) := by rw [← hW2, World.cell?_drew, ← z1, World.cell?_alloc_new]; rfl
        have p1 : W2.cell? ⟨wo.heap.size, 1, none⟩ = some (.int .i64 X) := by rw [← hW2, World.cell?_drew]; exact ((Q.refl _).alloc _ _).keep (by rw [World.cell?_alloc_new]; rfl)
        have r1 : W2.cell? ⟨wo.heap.size + 1, 1, none⟩ = some (.int .i64 X) := by rw [← hW2, World.cell?_drew, ← z1, World.cell?_alloc_new]; rfl
        have p2 : W2.cell? ⟨wo.heap.size, 2, none⟩ = some (.int .i64 Y) := by rw [← hW2, World.cell?_drew]; exact ((Q.refl _).alloc _ _).keep (by rw [World.cell?_alloc_new]; rfl)
        have r2 : W2.cell? ⟨wo.heap.size + 1, 2, none⟩ = some (.int .i64 Y) := by rw [← hW2, World.cell?_drew, ← z1, World.cell?_alloc_new]; rfl
        have p3 : W2.cell? ⟨wo.heap.size, 3, none⟩ = some (.int .i64 Z) := by rw [← hW2, World.cell?_drew]; exact ((Q.refl _).alloc _ _).keep (by rw [World.cell?_alloc_new]; rfl)
        have r3 : W2.cell? ⟨wo.heap.size + 1, 3, none⟩ = some (.int .i64 Z) := by rw [← hW2, World.cell?_drew, ← z1, World.cell?_alloc_new]; rfl
        have p4 : W2.cell? ⟨wo.heap.size, 4, none⟩ = some (.slice uo sn uc) := by rw [← hW2, World.cell?_drew]; exact ((Q.refl _).alloc _ _).keep (by rw [World.cell?_alloc_new]; rfl)
        have r4 : W2.cell? ⟨wo.heap.size + 1, 4, none⟩ = some (.slice so sn sc) := by rw [← hW2, World.cell?_drew, ← z1, World.cell?_alloc_new]; rfl
        have hs := sections_any _ _ SL W2 (a6.keepB q2.b) (b6.keepB q2.b)
        rw [hsn] at hs
        replace k0 := q2.keep k0
        replace k1 := q2.keep k1
        replace k2 := q2.keep k2
        replace l0 := q2.keep l0
        replace l1 := q2.keep l1
        replace l2 := q2.keep l2
        have HQ := Lib.hid (hQi.trans q2)
        clear a1 a2 a3 a4 a5 a6 b1 b2 b3 b4 b5 b6 s0 s1 s2 s3 hD1 hD2 hQi q2 z1 hl
        rw [hW2]
        clear hW2
        go_wp2_with fail
        refine (Calls.mono hs ?_)
        rintro _ W3 ⟨rfl, hd⟩
        replace HQ := Lib.hid (HQ.out.dr hd)
        go_wp2
        go_roundw
        case rel => exact ⟨i + 1, by have := HL.out; omega, by go_num, HQ.out⟩
        case measure => have := HL.out; simp [intOf]; omega
    · have hlB : decide ((i : Int) < (d.ws.length : Int)) = false := decide_eq_false (by omega)
      clear hi hlen0 n0 n1 hQi hf
      go_wp2
      go_loopw [8] (fun iv wr => ∃ i : Nat, i ≤ d.ts.length ∧ iv = .int .i64 i ∧ Q wo wr) (fun iv _ => d.ts.length + 1 - (intOf iv).toNat)
      case atStart => exact ⟨0, Nat.zero_le _, rfl, Q.refl _⟩
      case round =>
        clear hlB hl
        obtain ⟨i, hi, rfl, hQi⟩ := hrel
        obtain ⟨wt, rfl⟩ : ∃ wt : World, wt = wr := ⟨_, rfl⟩
        replace k0 := hQi.keep k0
        replace k1 := hQi.keep k1
        replace k2 := hQi.keep k2
        replace l0 := hQi.keep l0
        replace l1 := hQi.keep l1
        replace l2 := hQi.keep l2
        replace hD1 := hD1.keepB hQi.b
        replace hD2 := hD2.keepB hQi.b
        replace hQ := Lib.hid (hQ.out.trans hQi)
        by_cases hl : i < d.ts.length
        · have hlB : decide ((i : Int) < (d.ts.length : Int)) = true := decide_eq_true (by omega)
          have hlI : (i : Int) < (d.ts.length : Int) := by omega
          have hi0 : (0 : Int) ≤ (i : Int) := by omega
          have wk1 : IntKind.i64.wrap ((i : Int) + 1) = (i : Int) + 1 := by rw [IntKind.wrap_i64]; omega
          obtain ⟨a, cap, e1, _, _, hr⟩ := hD1.ts.at_ hl
          obtain ⟨rfl, _, rfl⟩ : bo = some a ∧ True ∧ bc = cap := by simpa using e1
          obtain ⟨b, cap2, e2, _, _, hs⟩ := hD2.ts.at_ hl
          obtain ⟨rfl, _, rfl⟩ : bo2 = some b ∧ True ∧ bc2 = cap2 := by simpa using e2
          generalize d.ts[i] = F at *
          obtain ⟨N, X, Y, Z, SL⟩ := F
          obtain ⟨a1, a2, a3, a4, sv, a5, a6⟩ := hr
          obtain ⟨b1, b2, b3, b4, su, b5, b6⟩ := hs
          simp only at a1 a2 a3 a4 a5 a6 b1 b2 b3 b4 b5 b6
          have ht := helptip_any N X Y Z sv su SL wt.drew (a6.keepB ((Q.refl wt).drew).b) (b6.keepB ((Q.refl wt).drew).b)
          have HL := Lib.hid hl
          have HQ := Lib.hid hQi
          clear e1 e2 hi hl hD1 hD2 hQi
          go_wp2_with fail
          go_region_with (go_at_call 58; refine (Calls.mono ht ?_); rintro _ w3 ⟨rfl, hd⟩)
          all_goals
            have HQ2 := Lib.hid ((HQ.out.drew).trans hd)
            go_wp2
            go_roundw
            case rel => exact ⟨i + 1, by have := HL.out; omega, by go_num, HQ2.out⟩
            case measure => have := HL.out; simp [intOf]; omega
        · have hlB : decide ((i : Int) < (d.ts.length : Int)) = false := decide_eq_false (by omega)
          clear hi hlen1 hD1 hD2 hQi
          go_wp2
          go_ret
          exact ⟨rfl, hQ.out⟩
end Go.Proofs.YtflklpflpjdbmaaGreatDoor

namespace Go.Proofs.YtflklpflpjdbmaaGreatDoor
open Go.RowKit
theorem parseD_rest : ∀ (L : List (List Wd)) (d : Dk) (o f : Nat), (parseD L d o f).2.1.length ≤ L.length ∧ ∀ ws ∈ (parseD L d o f).2.1, ws ∈ L
  | [], d, o, f => by
    unfold parseD
    split <;> simp
  | [] :: L, d, o, f => by
    have h := parseD_rest L d o f
    unfold parseD
    exact ⟨by rw [List.length_cons]; omega, fun ws hw => List.mem_cons_of_mem _ (h.2 ws hw)⟩
  | (k :: x) :: L, d, o, f => by
    have up : ∀ d o f, (parseD L d o f).2.1.length ≤ ((k :: x) :: L).length ∧ ∀ ws ∈ (parseD L d o f).2.1, ws ∈ (k :: x) :: L := fun d o f => by
      have h := parseD_rest L d o f
      exact ⟨by rw [List.length_cons]; omega, fun ws hw => List.mem_cons_of_mem _ (h.2 ws hw)⟩
    have no : ∀ (d : Dk) (p e : Nat), ((d, ([] : List (List Wd)), p, e) : Dk × List (List Wd) × Nat × Nat).2.1.length ≤ ((k :: x) :: L).length ∧ ∀ ws ∈ ((d, ([] : List (List Wd)), p, e) : Dk × List (List Wd) × Nat × Nat).2.1, ws ∈ (k :: x) :: L := fun d p e => ⟨by simp, fun ws hw => by cases hw⟩
    rw [parseD]
    split
    · split
      · exact no _ _ _
      · split
        · exact no _ _ _
        · exact up _ _ _
    · split
      · exact no _ _ _
      · split
        · split
          · exact no _ _ _
          · exact up _ _ _
        · split
          · split
            · exact no _ _ _
            · exact up _ _ _
          · split
            · split
              · exact no _ _ _
              · exact up _ _ _
            · exact ⟨Nat.le_refl _, fun ws hw => hw⟩
end Go.Proofs.YtflklpflpjdbmaaGreatDoor

namespace Go.Proofs.YtflklpflpjdbmaaGreatDoor
open Go.RowKit
set_option linter.unusedVariables false
set_option maxRecDepth 100000 in
set_option maxHeartbeats 4000000 in
theorem alike9_any (v : Value) (L : List (List Wd)) (w : World) (h : IsLnO w v L) (hne : ∀ ws ∈ L, 0 < ws.length) (hL : L.length ≤ 65536) (hws : ∀ ws ∈ L, ws.length ≤ 65536) (hlong : ∀ ws ∈ L, ∀ x ∈ ws, x.2.length ≤ 65536)
    (cD : ∀ w', B w w' → Calls Tryz.prog 18 #[v] w' (ParseRes L w')) :
    Calls Tryz.prog 19 #[v] w fun e w' => e = .returned (.bool true) ∧ B w w' := by
  have cW := words9_any v L w h hne hL hws
  have hr1 : (parseD L dk0 0 0).2.1.length ≤ maxLen := by
    have := (parseD_rest L dk0 0 0).1
    unfold maxLen
    omega
  have hr2 : ∀ ws ∈ (parseD L dk0 0 0).2.1, ws.length ≤ maxLen := fun ws hw => by
    have := hws ws ((parseD_rest L dk0 0 0).2 ws hw)
    unfold maxLen
    omega
  unfold ParseRes at cD
  generalize hPP : parseD L dk0 0 0 = PP at *
  obtain ⟨D, R, p, f⟩ := PP
  simp only at cD hr1 hr2
  go_enter Tryz.func19, Tryz.ntmps19
  go_wp2_with fail
  refine cW.mono ?_
  rintro e w1 ⟨u, vs, rfl, hO, q1⟩
  clear cW
  have cP := parse_any u L w1 hO.is.lnO hne hL hws hlong
  unfold ParseRes at cP
  rw [hPP] at cP
  simp only at cP
  clear hPP h hne hL hws hlong hO
  go_wp2_with fail
  refine cP.mono ?_
  rintro e w2 ⟨wv, tv, fv, rv, rfl, hD, hR, q2⟩
  clear cP
  obtain ⟨ao, ac, bo, bc, co, cc, rfl, rfl, rfl⟩ := hD.forms
  have B2 := q1.trans q2
  have q3 := (B.refl w2).alloc #[.slice ao D.ws.length ac, .slice bo D.ts.length bc, .slice co D.fs.length cc] 26
  have oD := obj_new w2 (.cells #[.slice ao D.ws.length ac, .slice bo D.ts.length bc, .slice co D.fs.length cc] 26)
  obtain ⟨N, hN⟩ : ∃ N, w2.heap.size = N := ⟨_, rfl⟩
  obtain ⟨W3, hW3⟩ : ∃ W3, w2.alloc (.cells #[.slice ao D.ws.length ac, .slice bo D.ts.length bc, .slice co D.fs.length cc] 26) = W3 := ⟨_, rfl⟩
  rw [hN] at oD
  rw [hW3] at q3 oD
  have c3 := cD W3 (B2.trans q3)
  clear cD
  go_wp2_with fail
  try rw [hN]
  try rw [hW3]
  refine c3.mono ?_
  rintro e w4 ⟨wv2, tv2, fv2, rv2, rfl, hD2, hR2, q4⟩
  clear c3
  obtain ⟨ao2, ac2, bo2, bc2, co2, cc2, rfl, rfl, rfl⟩ := hD2.forms
  have q5 := (B.refl w4).alloc #[.slice ao2 D.ws.length ac2, .slice bo2 D.ts.length bc2, .slice co2 D.fs.length cc2] 26
  have oE := obj_new w4 (.cells #[.slice ao2 D.ws.length ac2, .slice bo2 D.ts.length bc2, .slice co2 D.fs.length cc2] 26)
  obtain ⟨M, hM⟩ : ∃ M, w4.heap.size = M := ⟨_, rfl⟩
  obtain ⟨W5, hW5⟩ : ∃ W5, w4.alloc (.cells #[.slice ao2 D.ws.length ac2, .slice bo2 D.ts.length bc2, .slice co2 D.fs.length cc2] 26) = W5 := ⟨_, rfl⟩
  rw [hM] at oE
  rw [hW5] at q5 oE
  have oD5 := (q4.trans q5).obj oD
  have d0 := obj_cell oD5 0
  have d1 := obj_cell oD5 1
  have d2 := obj_cell oD5 2
  have e0 := obj_cell oE 0
  have e1 := obj_cell oE 1
  have e2 := obj_cell oE 2
  have cH := helpdeck_any _ _ _ _ _ _ D W5 (hD.keepB ((q3.trans q4).trans q5)) (hD2.keepB q5)
  have hR5 := hR.keep ((q3.trans q4).trans q5)
  have hR25 := hR2.keep q5
  have B5 := ((B2.trans q3).trans q4).trans q5
  obtain ⟨ro, rc, rfl⟩ := hR.form
  obtain ⟨ro2, rc2, rfl⟩ := hR2.form
  clear hD hD2 hR hR2 q1 q2 q3 q4 q5 oD oE oD5 B2 hW3
  go_wp2_with fail
  try rw [hM]
  try rw [hW5]
  refine cH.mono ?_
  rintro e w6 ⟨rfl, q6⟩
  clear cH
  have cS := same9_any _ _ R w6 (hR5.keep q6.b) (hR25.keep q6.b) hr1 hr2
  have B6 := B5.trans q6.b
  clear hR5 hR25 d0 d1 d2 e0 e1 e2 B5 q6
  go_wp2_with fail
  refine cS.mono ?_
  rintro e w7 ⟨rfl, q7⟩
  clear cS
  have HB := Lib.hid (And.intro B6 q7)
  clear B6 q7
  go_wp2
  go_ret
  obtain ⟨b6, n, rfl⟩ := HB.out
  exact ⟨rfl, b6.drewN n⟩
end Go.Proofs.YtflklpflpjdbmaaGreatDoor

namespace Go.Proofs.YtflklpflpjdbmaaGreatDoor
open Go.RowKit
set_option linter.unusedVariables false
theorem grid_any (n : ByteArray) (x y z : Int) (so : Option Addr) (sn sc : Nat) (w : World) (hx : I64 x) (hy : I64 y) : Calls Tryz.prog 35 #[.agg #[.string n, .int .i64 x, .int .i64 y, .int .i64 z, .slice so sn sc]] w fun e w' => e = .returned (.bool (inB x 1 8 && inB y 1 12 && inB z 0 1000000)) ∧ B w w' := by
  have cx := fun w => within_any x 1 8 w
  have cy := fun w => within_any y 1 12 w
  have cz := fun w => within_any z 0 1000000 w
  have ex : inB x 1 8 = (decide (1 ≤ x) && decide (x ≤ 8)) := rfl
  have ey : inB y 1 12 = (decide (1 ≤ y) && decide (y ≤ 12)) := rfl
  have ez : inB z 0 1000000 = (decide (0 ≤ z) && decide (z ≤ 1000000)) := rfl
  rw [← ex] at cx
  rw [← ey] at cy
  rw [← ez] at cz
  clear ex ey ez

  have hQ := (B.refl w).alloc #[.string n, .int .i64 x, .int .i64 y, .int .i64 z, .slice so sn sc] 33

  generalize inB x 1 8 = bx at *
  generalize inB y 1 12 = by_ at *
  generalize inB z 0 1000000 = bz at *
  cases bx
  · go_enter Tryz.func35, Tryz.ntmps35
    go_wp2_with fail
    refine (cx _).mono ?_
    rintro _ _ ⟨rfl, rfl⟩
    go_wp2
    go_ret
    exact ⟨rfl, hQ⟩
  · cases by_
    · go_enter Tryz.func35, Tryz.ntmps35
      go_wp2_with fail
      refine (cx _).mono ?_
      rintro _ _ ⟨rfl, rfl⟩
      go_wp2_with fail
      refine (cy _).mono ?_
      rintro _ _ ⟨rfl, rfl⟩
      go_wp2
      go_ret
      exact ⟨rfl, hQ⟩
    · go_enter Tryz.func35, Tryz.ntmps35
      go_wp2_with fail
      refine (cx _).mono ?_
      rintro _ _ ⟨rfl, rfl⟩
      go_wp2_with fail
      refine (cy _).mono ?_
      rintro _ _ ⟨rfl, rfl⟩
      go_wp2_with fail
      refine (cz _).mono ?_
      rintro _ _ ⟨rfl, rfl⟩
      go_wp2
      go_ret
      exact ⟨by simp, hQ⟩
end Go.Proofs.YtflklpflpjdbmaaGreatDoor

namespace Go.Proofs.YtflklpflpjdbmaaGreatDoor
open Go.RowKit
theorem named_any (s : ByteArray) (w : World) : Calls Tryz.prog 75 #[.string s] w fun e w' => e = .returned (.bool (nameS s)) ∧ B w w' := by
  by_cases h1 : s.size < 1
  · have h1B : decide ((s.size : Int) < 1) = true := decide_eq_true (by omega)
    rw [nameS_size (.inl h1)]
    clear h1
    go_enter Tryz.func75, Tryz.ntmps75
    go_wp2
    go_ret
    exact ⟨rfl, B.refl _⟩
  have h1B : decide ((s.size : Int) < 1) = false := decide_eq_false (by omega)
  by_cases h2 : 16 < s.size
  · have h2B : decide ((16 : Int) < (s.size : Int)) = true := decide_eq_true (by omega)
    rw [nameS_size (.inr h2)]
    clear h1 h2
    go_enter Tryz.func75, Tryz.ntmps75
    go_wp2
    go_ret
    exact ⟨rfl, B.refl _⟩
  have h2B : decide ((16 : Int) < (s.size : Int)) = false := decide_eq_false (by omega)
  have hconv := fun w => Lib.run_convert_string_bytes (P := Tryz.prog) w 9 47 5 s Tryz.underlying9 Tryz.underlying47 Tryz.underlying5
  have hcell : ∀ j, j < s.size → (Lib.bytesWorld w 5 s).cell? ⟨w.heap.size, j, none⟩ = some (.int .u8 ((byteAt s j : Nat) : Int)) := fun j hj => Lib.bytesWorld_cell w _ s j hj
  have hB : B w (Lib.bytesWorld w 5 s) := (B.refl w).bytes _ _
  have hgood := Lib.hid (fun h3 h => nameS_good (s := s) (by omega) (by omega) h3 h)
  have hbad := @nameS_bad s
  have hfst := @nameS_first s
  have HB := Lib.hid hB
  generalize nameS s = R at *
  clear hB
  go_enter Tryz.func75, Tryz.ntmps75
  go_wp2
  generalize Lib.bytesWorld w 5 s = W1 at *
  generalize w.heap.size = H at *
  go_loopw [18] (fun i wr => ∃ k : Nat, k ≤ s.size ∧ i = .int .i64 k ∧ (∀ j, j < k → (lowN (byteAt s j) || digN (byteAt s j)) = true) ∧ (0 < k → lowN (byteAt s 0) = true) ∧ W1 = wr) (fun i _ => s.size + 1 - (intOf i).toNat)
  case atStart => exact ⟨0, Nat.zero_le _, rfl, fun j hj => by omega, fun h => by omega, rfl⟩
  case round =>
    obtain ⟨k, hk, rfl, hall, h0, rfl⟩ := hrel
    by_cases hl : k < s.size
    · obtain ⟨b, eb⟩ : ∃ b, byteAt s k = b := ⟨_, rfl⟩
      have hlB : decide ((k : Int) < (s.size : Int)) = true := decide_eq_true (by omega)
      have hlI : (k : Int) < (s.size : Int) := by omega
      have wk1 : IntKind.i64.wrap ((k : Int) + 1) = (k : Int) + 1 := by rw [IntKind.wrap_i64]; omega
      have hc := hcell k hl
      have hb := hbad hl
      have hnext : (lowN (byteAt s k) || digN (byteAt s k)) = true → ∀ j, j < k + 1 → (lowN (byteAt s j) || digN (byteAt s j)) = true := fun h j hj => by
        by_cases c : j = k
        · subst c; exact h
        · exact hall j (by omega)
      have hz : (k = 0 → lowN b = true) → lowN (byteAt s 0) = true := fun h => by
        by_cases c : k = 0
        · subst c; rw [eb]; exact h rfl
        · exact h0 (by omega)
      have hf : k = 0 → lowN b = false → R = false := fun h1 h2 => by
        subst h1; exact hfst (by rw [eb]; exact h2)
      rw [eb] at hc hb hnext
      clear eb hall h0 hcell
      have five : b < 48 ∨ (48 ≤ b ∧ b ≤ 57) ∨ (58 ≤ b ∧ b ≤ 96) ∨ (97 ≤ b ∧ b ≤ 122) ∨ 122 < b := by omega
      rcases five with c | c | c | c | c
      · have d1 : decide (97 ≤ (b : Int)) = false := decide_eq_false (by omega)
        have d2 : decide ((b : Int) ≤ 122) = true := decide_eq_true (by omega)
        have d3 : decide (48 ≤ (b : Int)) = false := decide_eq_false (by omega)
        have d4 : decide ((b : Int) ≤ 57) = true := decide_eq_true (by omega)
        have l1 : lowN b = false := by unfold lowN; simp; omega
        have l2 : digN b = false := by unfold digN; simp; omega
        obtain rfl := hb (by rw [l1, l2]; rfl)
        clear hnext hz hf hb l1 l2
        go_wp2
        go_ret
        exact ⟨rfl, HB.out⟩
      · have d1 : decide (97 ≤ (b : Int)) = false := decide_eq_false (by omega)
        have d2 : decide ((b : Int) ≤ 122) = true := decide_eq_true (by omega)
        have d3 : decide (48 ≤ (b : Int)) = true := decide_eq_true (by omega)
        have d4 : decide ((b : Int) ≤ 57) = true := decide_eq_true (by omega)
        have l1 : lowN b = false := by unfold lowN; simp; omega
        have l2 : digN b = true := by unfold digN; simp; omega
        by_cases k0 : k = 0
        · obtain rfl := hf k0 l1
          subst k0
          clear hnext hz hf hb l1 l2
          go_wp2
          go_ret
          exact ⟨rfl, HB.out⟩
        · have k0B : ((k : Int) == 0) = false := by simp; omega
          have HA := Lib.hid (hnext (by rw [l1, l2]; rfl))
          have HZ := Lib.hid (hz (fun h => by first | exact l1 | omega))
          clear hnext hz hf hb l1 l2
          go_wp2
          go_roundw
          case rel => exact ⟨k + 1, by omega, by go_num, HA.out, fun _ => HZ.out, trivial⟩
          case measure => simp [intOf]; omega
      · have d1 : decide (97 ≤ (b : Int)) = false := decide_eq_false (by omega)
        have d2 : decide ((b : Int) ≤ 122) = true := decide_eq_true (by omega)
        have d3 : decide (48 ≤ (b : Int)) = true := decide_eq_true (by omega)
        have d4 : decide ((b : Int) ≤ 57) = false := decide_eq_false (by omega)
        have l1 : lowN b = false := by unfold lowN; simp; omega
        have l2 : digN b = false := by unfold digN; simp; omega
        obtain rfl := hb (by rw [l1, l2]; rfl)
        clear hnext hz hf hb l1 l2
        go_wp2
        go_ret
        exact ⟨rfl, HB.out⟩
      · have d1 : decide (97 ≤ (b : Int)) = true := decide_eq_true (by omega)
        have d2 : decide ((b : Int) ≤ 122) = true := decide_eq_true (by omega)
        have d3 : decide (48 ≤ (b : Int)) = true := decide_eq_true (by omega)
        have d4 : decide ((b : Int) ≤ 57) = false := decide_eq_false (by omega)
        have l1 : lowN b = true := by unfold lowN; simp; omega
        have l2 : digN b = false := by unfold digN; simp; omega
        have HA := Lib.hid (hnext (by rw [l1, l2]; rfl))
        have HZ := Lib.hid (hz (fun h => by first | exact l1 | omega))
        clear hnext hz hf hb l1 l2
        go_wp2
        go_roundw
        case rel => exact ⟨k + 1, by omega, by go_num, HA.out, fun _ => HZ.out, trivial⟩
        case measure => simp [intOf]; omega
      · have d1 : decide (97 ≤ (b : Int)) = true := decide_eq_true (by omega)
        have d2 : decide ((b : Int) ≤ 122) = false := decide_eq_false (by omega)
        have d3 : decide (48 ≤ (b : Int)) = true := decide_eq_true (by omega)
        have d4 : decide ((b : Int) ≤ 57) = false := decide_eq_false (by omega)
        have l1 : lowN b = false := by unfold lowN; simp; omega
        have l2 : digN b = false := by unfold digN; simp; omega
        obtain rfl := hb (by rw [l1, l2]; rfl)
        clear hnext hz hf hb l1 l2
        go_wp2
        go_ret
        exact ⟨rfl, HB.out⟩
    · have hlB : decide ((k : Int) < (s.size : Int)) = false := decide_eq_false (by omega)
      have HR := Lib.hid (hgood.out (h0 (by omega)) (fun i hi => hall i (by omega)))
      clear hall hgood hbad
      go_wp2
      go_ret
      exact ⟨by rw [HR.out]; rfl, HB.out⟩
end Go.Proofs.YtflklpflpjdbmaaGreatDoor

namespace Go.Proofs.YtflklpflpjdbmaaGreatDoor
open Go.RowKit
theorem in_any (v a b : Int) (w : World) :
    Calls Tryz.prog 78 #[.int .i64 v, .int .i64 a, .int .i64 b] w fun e w' => e = .returned (.bool (inB v a b)) ∧ w = w' := by
  unfold inB
  have hb : decide (a ≤ v) = true ∨ decide (a ≤ v) = false := by cases decide (a ≤ v) <;> simp
  rcases hb with hb | hb
  all_goals
    rw [hb]
    go_enter Tryz.func78, Tryz.ntmps78
    go_wp2
    go_ret
    exact ⟨rfl, rfl⟩
set_option maxRecDepth 100000 in
set_option maxHeartbeats 2000000 in
theorem r3right_row (a : Addr) (cap : Nat) (l : List Sec) (h2 : l.length ≤ cap) (h3 : cap ≤ maxLen) (w : World) (h4 : ∀ i s, l[i]? = some s → s.I ∧ SecAt w (a.add (i * 6)) s) :
    Calls Tryz.prog 43 #[.slice (some a) l.length cap] w fun e w' => e = .returned (.bool (rightS l)) ∧ Q w w' := by
  unfold maxLen at h3
  have h5 : l.length ≤ 2 ^ 63 - 1 := Nat.le_trans h2 h3
  clear h2 h3
  by_cases n1 : l.length < 1
  · rw [rightS_short l n1]
    have n1B : decide ((l.length : Int) < 1) = true := decide_eq_true (by omega)
    clear h4
    go_enter Tryz.func43, Tryz.ntmps43
    go_wp2
    go_ret
    exact ⟨rfl, Q.refl w⟩
  have n1B : decide ((l.length : Int) < 1) = false := decide_eq_false (by omega)
  by_cases n2 : 4 < l.length
  · rw [rightS_long l n2]
    have n2B : decide ((4 : Int) < (l.length : Int)) = true := decide_eq_true (by omega)
    clear h4
    go_enter Tryz.func43, Tryz.ntmps43
    go_wp2
    go_ret
    exact ⟨rfl, Q.refl w⟩
  have n2B : decide ((4 : Int) < (l.length : Int)) = false := decide_eq_false (by omega)
  go_enter Tryz.func43, Tryz.ntmps43
  go_wp2
  go_loopw [3, 4] (fun hh i wr => ∃ (k : Nat), k ≤ l.length ∧ i = .int .i64 k ∧ hh = .int .i64 (hsumI l k) ∧ okTo l k = true ∧ Q w wr) (fun _ i _ => l.length - (intOf i).toNat)
  case atStart => exact ⟨0, Nat.zero_le _, rfl, rfl, rfl, Q.refl w⟩
  case round =>
    obtain ⟨k, hk, rfl, rfl, hok, hq⟩ := hrel
    obtain ⟨t1, t2⟩ := hsum_small l k hok
    have t3 : hsumI l k ≤ 240000 := by omega
    clear t2
    by_cases hl : k < l.length
    · have hlB : decide (k < l.length) = true := decide_eq_true hl
      have hg := List.getElem?_eq_getElem hl
      have hs := (h4 k _ hg).2.keep hq
      have hsu := hsumI_succ l k _ hg
      have hoku := okTo_succ l k _ hg hok
      have hbad := rightS_bad l k _ hg
      clear h4
      generalize l[k] = s at *
      generalize hsumI l k = t at *
      obtain ⟨f0, f1, f2, f3, f4, f5⟩ := hs
      obtain ⟨m, hm1⟩ : ∃ m, s.h.tmod 100 = m := ⟨_, rfl⟩
      have hsec := secOk_eq s m hm1
      have HS := Lib.hid hsu
      have HM := Lib.hid hg
      clear hsu hg
      have c1 := fun w => in_any s.a0 0 20000 w
      have c2 := fun w => in_any s.a1 1 20000 w
      have c3 := fun w => in_any s.b0 0 20000 w
      have c4 := fun w => in_any s.b1 1 20000 w
      have k1 : decide (s.h < 1) = true ∨ decide (s.h < 1) = false := by cases decide (s.h < 1) <;> simp
      rcases k1 with k1 | k1
      · have HB := Lib.hid (hbad (by rw [hsec]; simp [k1]))
        clear hbad hsec hoku
        go_wp2
        go_ret
        exact ⟨by rw [HB.out]; rfl, hq.alloc _ _⟩
      · have k2 : decide (60000 < s.h) = true ∨ decide (60000 < s.h) = false := by cases decide (60000 < s.h) <;> simp
        rcases k2 with k2 | k2
        · have HB := Lib.hid (hbad (by rw [hsec]; simp [k1, k2]))
          clear hbad hsec hoku
          go_wp2
          go_ret
          exact ⟨by rw [HB.out]; rfl, hq.alloc _ _⟩
        · have k3 : (m != 0) = true ∨ (m != 0) = false := by cases (m != 0) <;> simp
          rcases k3 with k3 | k3
          · have HB := Lib.hid (hbad (by rw [hsec]; simp [k1, k2, k3]))
            clear hbad hsec hoku
            go_wp2
            go_ret
            exact ⟨by rw [HB.out]; rfl, hq.alloc _ _⟩
          · have k4 : inB s.a0 0 20000 = true ∨ inB s.a0 0 20000 = false := by cases inB s.a0 0 20000 <;> simp
            rcases k4 with k4 | k4
            · rw [k4] at c1
              have k5 : inB s.a1 1 20000 = true ∨ inB s.a1 1 20000 = false := by cases inB s.a1 1 20000 <;> simp
              rcases k5 with k5 | k5
              · rw [k5] at c2
                have k6 : s.r = true ∨ s.r = false := by cases s.r <;> simp
                rcases k6 with k6 | k6
                · have k7 : (s.b0 != 0) = true ∨ (s.b0 != 0) = false := by cases (s.b0 != 0) <;> simp
                  rcases k7 with k7 | k7
                  · have HB := Lib.hid (hbad (by rw [hsec]; simp [k1, k2, k3, k4, k5, k6, k7]))
                    clear hbad hsec hoku
                    go_wp2_with fail
                    refine (c1 _).mono ?_
                    rintro e w1 ⟨rfl, rfl⟩
                    go_wp2_with fail
                    refine (c2 _).mono ?_
                    rintro e w1 ⟨rfl, rfl⟩
                    go_wp2
                    go_ret
                    exact ⟨by rw [HB.out]; rfl, hq.alloc _ _⟩
                  · have k8 : (s.b1 != 0) = true ∨ (s.b1 != 0) = false := by cases (s.b1 != 0) <;> simp
                    rcases k8 with k8 | k8
                    · have HB := Lib.hid (hbad (by rw [hsec]; simp [k1, k2, k3, k4, k5, k6, k7, k8]))
                      clear hbad hsec hoku
                      go_wp2_with fail
                      refine (c1 _).mono ?_
                      rintro e w1 ⟨rfl, rfl⟩
                      go_wp2_with fail
                      refine (c2 _).mono ?_
                      rintro e w1 ⟨rfl, rfl⟩
                      go_wp2
                      go_ret
                      exact ⟨by rw [HB.out]; rfl, hq.alloc _ _⟩
                    · replace hoku := hoku (by rw [hsec]; simp [k1, k2, k3, k4, k5, k6, k7, k8])
                      obtain ⟨z1, z2⟩ := secOk_h s (by rw [hsec]; simp [k1, k2, k3, k4, k5, k6, k7, k8])
                      clear hbad hsec
                      have HO := Lib.hid hoku
                      clear hoku
                      go_wp2_with fail
                      refine (c1 _).mono ?_
                      rintro e w1 ⟨rfl, rfl⟩
                      go_wp2_with fail
                      refine (c2 _).mono ?_
                      rintro e w1 ⟨rfl, rfl⟩
                      go_wp2
                      go_roundw
                      case rel => exact ⟨k + 1, by omega, by go_num, by rw [HS.out], HO.out, hq.alloc _ _⟩
                      case measure => simp [intOf]; omega
                · have k9 : inB s.b0 0 20000 = true ∨ inB s.b0 0 20000 = false := by cases inB s.b0 0 20000 <;> simp
                  rcases k9 with k9 | k9
                  · rw [k9] at c3
                    have ka : inB s.b1 1 20000 = true ∨ inB s.b1 1 20000 = false := by cases inB s.b1 1 20000 <;> simp
                    rcases ka with ka | ka
                    · rw [ka] at c4
                      replace hoku := hoku (by rw [hsec]; simp [k1, k2, k3, k4, k5, k6, k9, ka])
                      obtain ⟨z1, z2⟩ := secOk_h s (by rw [hsec]; simp [k1, k2, k3, k4, k5, k6, k9, ka])
                      clear hbad hsec
                      have HO := Lib.hid hoku
                      clear hoku
                      go_wp2_with fail
                      refine (c1 _).mono ?_
                      rintro e w1 ⟨rfl, rfl⟩
                      go_wp2_with fail
                      refine (c2 _).mono ?_
                      rintro e w1 ⟨rfl, rfl⟩
                      go_wp2_with fail
                      refine (c3 _).mono ?_
                      rintro e w1 ⟨rfl, rfl⟩
                      go_wp2_with fail
                      refine (c4 _).mono ?_
                      rintro e w1 ⟨rfl, rfl⟩
                      go_wp2
                      go_roundw
                      case rel => exact ⟨k + 1, by omega, by go_num, by rw [HS.out], HO.out, hq.alloc _ _⟩
                      case measure => simp [intOf]; omega
                    · rw [ka] at c4
                      have HB := Lib.hid (hbad (by rw [hsec]; simp [k1, k2, k3, k4, k5, k6, k9, ka]))
                      clear hbad hsec hoku
                      go_wp2_with fail
                      refine (c1 _).mono ?_
                      rintro e w1 ⟨rfl, rfl⟩
                      go_wp2_with fail
                      refine (c2 _).mono ?_
                      rintro e w1 ⟨rfl, rfl⟩
                      go_wp2_with fail
                      refine (c3 _).mono ?_
                      rintro e w1 ⟨rfl, rfl⟩
                      go_wp2_with fail
                      refine (c4 _).mono ?_
                      rintro e w1 ⟨rfl, rfl⟩
                      go_wp2
                      go_ret
                      exact ⟨by rw [HB.out]; rfl, hq.alloc _ _⟩
                  · rw [k9] at c3
                    have HB := Lib.hid (hbad (by rw [hsec]; simp [k1, k2, k3, k4, k5, k6, k9]))
                    clear hbad hsec hoku
                    go_wp2_with fail
                    refine (c1 _).mono ?_
                    rintro e w1 ⟨rfl, rfl⟩
                    go_wp2_with fail
                    refine (c2 _).mono ?_
                    rintro e w1 ⟨rfl, rfl⟩
                    go_wp2_with fail
                    refine (c3 _).mono ?_
                    rintro e w1 ⟨rfl, rfl⟩
                    go_wp2
                    go_ret
                    exact ⟨by rw [HB.out]; rfl, hq.alloc _ _⟩
              · rw [k5] at c2
                have HB := Lib.hid (hbad (by rw [hsec]; simp [k1, k2, k3, k4, k5]))
                clear hbad hsec hoku
                go_wp2_with fail
                refine (c1 _).mono ?_
                rintro e w1 ⟨rfl, rfl⟩
                go_wp2_with fail
                refine (c2 _).mono ?_
                rintro e w1 ⟨rfl, rfl⟩
                go_wp2
                go_ret
                exact ⟨by rw [HB.out]; rfl, hq.alloc _ _⟩
            · rw [k4] at c1
              have HB := Lib.hid (hbad (by rw [hsec]; simp [k1, k2, k3, k4]))
              clear hbad hsec hoku
              go_wp2_with fail
              refine (c1 _).mono ?_
              rintro e w1 ⟨rfl, rfl⟩
              go_wp2
              go_ret
              exact ⟨by rw [HB.out]; rfl, hq.alloc _ _⟩
    · have hlB : decide (k < l.length) = false := decide_eq_false hl
      obtain rfl : k = l.length := by omega
      have HE := Lib.hid (rightS_end l (by omega) (by omega) hok)
      clear h4 hok
      go_wp2
      go_ret
      exact ⟨by rw [HE.out]; rfl, hq⟩
theorem r3right_any (v : Value) (l : List Sec) (w : World) (hv : IsSecs w v l) :
    Calls Tryz.prog 43 #[v] w fun e w' => e = .returned (.bool (rightS l)) ∧ Q w w' := by
  rcases hv with ⟨rfl, rfl⟩ | ⟨a, cap, rfl, h2, h3, h4⟩
  · rw [rightS_short [] (by simp)]
    go_enter Tryz.func43, Tryz.ntmps43
    go_wp2
    go_ret
    exact ⟨rfl, Q.refl w⟩
  · exact r3right_row a cap l h2 h3 w h4
end Go.Proofs.YtflklpflpjdbmaaGreatDoor

namespace Go.Proofs.YtflklpflpjdbmaaGreatDoor
open Go.RowKit
def tipB (s : ByteArray) (cap filt err : Int) (l : List Sec) : Bool := rightS l && inB cap 1 20000000 && inB filt 1 60000 && inB err 0 10000 && nameS s
end Go.Proofs.YtflklpflpjdbmaaGreatDoor

namespace Go.Proofs.YtflklpflpjdbmaaGreatDoor
open Go.RowKit
theorem tin_any (v a b : Int) (w : World) :
    Calls Tryz.prog 74 #[.int .i64 v, .int .i64 a, .int .i64 b] w fun e w' => e = .returned (.bool (inB v a b)) ∧ w = w' := by
  unfold inB
  have hb : decide (a ≤ v) = true ∨ decide (a ≤ v) = false := by cases decide (a ≤ v) <;> simp
  rcases hb with hb | hb
  all_goals
    go_enter Tryz.func74, Tryz.ntmps74
    go_wp2
    go_ret
    exact ⟨by simp [hb], rfl⟩
theorem tipright_any (s : ByteArray) (cap filt err : Int) (v : Value) (l : List Sec) (w : World) (hv : IsSecs w v l) :
    Calls Tryz.prog 37 #[.agg #[.string s, .int .i64 cap, .int .i64 filt, .int .i64 err, v]] w fun e w' => e = .returned (.bool (tipB s cap filt err l)) ∧ B w w' := by
  obtain ⟨ao, nn, cc, rfl⟩ := hv.form
  have HV := Lib.hid hv
  clear hv
  have cl := fun w h => right_code (.slice ao nn cc) l w h
  have cc_ := fun w => tin_any cap 1 20000000 w
  have cf := fun w => tin_any filt 1 60000 w
  have ce := fun w => tin_any err 0 10000 w
  have cn := fun w => named_any s w
  unfold tipB
  have kc : ∀ w', B (w.alloc (.cells #[.string s, .int .i64 cap, .int .i64 filt, .int .i64 err, .slice ao nn cc] 35)) w' → B w w' := fun w' q => ((B.refl w).alloc _ _).trans q
  generalize rightS l = bl at *
  generalize inB cap 1 20000000 = bc at *
  generalize inB filt 1 60000 = bf at *
  generalize inB err 0 10000 = be at *
  generalize nameS s = bn at *
  cases bl
  · go_enter Tryz.func37, Tryz.ntmps37
    go_wp2_with fail
    have k0 : (w.alloc (.cells #[.string s, .int .i64 cap, .int .i64 filt, .int .i64 err, .slice ao nn cc] 35)).cell? ⟨w.heap.size, 0, none⟩ = some (.string s) := by simp [go_sem]
    have k1 : (w.alloc (.cells #[.string s, .int .i64 cap, .int .i64 filt, .int .i64 err, .slice ao nn cc] 35)).cell? ⟨w.heap.size, 1, none⟩ = some (.int .i64 cap) := by simp [go_sem]
    have k2 : (w.alloc (.cells #[.string s, .int .i64 cap, .int .i64 filt, .int .i64 err, .slice ao nn cc] 35)).cell? ⟨w.heap.size, 2, none⟩ = some (.int .i64 filt) := by simp [go_sem]
    have k3 : (w.alloc (.cells #[.string s, .int .i64 cap, .int .i64 filt, .int .i64 err, .slice ao nn cc] 35)).cell? ⟨w.heap.size, 3, none⟩ = some (.int .i64 err) := by simp [go_sem]
    have k4 : (w.alloc (.cells #[.string s, .int .i64 cap, .int .i64 filt, .int .i64 err, .slice ao nn cc] 35)).cell? ⟨w.heap.size, 4, none⟩ = some (.slice ao nn cc) := by simp [go_sem]
    have hv := HV.out.keepB ((B.refl w).alloc #[.string s, .int .i64 cap, .int .i64 filt, .int .i64 err, .slice ao nn cc] 35)
    have g := (B.refl w).alloc #[.string s, .int .i64 cap, .int .i64 filt, .int .i64 err, .slice ao nn cc] 35
    generalize w.alloc (.cells #[.string s, .int .i64 cap, .int .i64 filt, .int .i64 err, .slice ao nn cc] 35) = W at *
    refine (cl _ hv).mono ?_
    rintro e w2 ⟨rfl, q⟩
    replace k0 := q.keep k0
    replace k1 := q.keep k1
    replace k2 := q.keep k2
    replace k3 := q.keep k3
    replace k4 := q.keep k4
    replace hv := hv.keepB q
    replace g := g.trans q
    clear q
    go_wp2
    go_ret
    exact ⟨by simp, g⟩
  cases bc
  · go_enter Tryz.func37, Tryz.ntmps37
    go_wp2_with fail
    have k0 : (w.alloc (.cells #[.string s, .int .i64 cap, .int .i64 filt, .int .i64 err, .slice ao nn cc] 35)).cell? ⟨w.heap.size, 0, none⟩ = some (.string s) := by simp [go_sem]
    have k1 : (w.alloc (.cells #[.string s, .int .i64 cap, .int .i64 filt, .int .i64 err, .slice ao nn cc] 35)).cell? ⟨w.heap.size, 1, none⟩ = some (.int .i64 cap) := by simp [go_sem]
    have k2 : (w.alloc (.cells #[.string s, .int .i64 cap, .int .i64 filt, .int .i64 err, .slice ao nn cc] 35)).cell? ⟨w.heap.size, 2, none⟩ = some (.int .i64 filt) := by simp [go_sem]
    have k3 : (w.alloc (.cells #[.string s, .int .i64 cap, .int .i64 filt, .int .i64 err, .slice ao nn cc] 35)).cell? ⟨w.heap.size, 3, none⟩ = some (.int .i64 err) := by simp [go_sem]
    have k4 : (w.alloc (.cells #[.string s, .int .i64 cap, .int .i64 filt, .int .i64 err, .slice ao nn cc] 35)).cell? ⟨w.heap.size, 4, none⟩ = some (.slice ao nn cc) := by simp [go_sem]
    have hv := HV.out.keepB ((B.refl w).alloc #[.string s, .int .i64 cap, .int .i64 filt, .int .i64 err, .slice ao nn cc] 35)
    have g := (B.refl w).alloc #[.string s, .int .i64 cap, .int .i64 filt, .int .i64 err, .slice ao nn cc] 35
    generalize w.alloc (.cells #[.string s, .int .i64 cap, .int .i64 filt, .int .i64 err, .slice ao nn cc] 35) = W at *
    refine (cl _ hv).mono ?_
    rintro e w2 ⟨rfl, q⟩
    replace k0 := q.keep k0
    replace k1 := q.keep k1
    replace k2 := q.keep k2
    replace k3 := q.keep k3
    replace k4 := q.keep k4
    replace hv := hv.keepB q
    replace g := g.trans q
    clear q
    go_wp2_with fail
    refine (cc_ _).mono ?_
    rintro e w1 ⟨rfl, rfl⟩
    go_wp2
    go_ret
    exact ⟨by simp, g⟩
  cases bf
  · go_enter Tryz.func37, Tryz.ntmps37
    go_wp2_with fail
    have k0 : (w.alloc (.cells #[.string s, .int .i64 cap, .int .i64 filt, .int .i64 err, .slice ao nn cc] 35)).cell? ⟨w.heap.size, 0, none⟩ = some (.string s) := by simp [go_sem]
    have k1 : (w.alloc (.cells #[.string s, .int .i64 cap, .int .i64 filt, .int .i64 err, .slice ao nn cc] 35)).cell? ⟨w.heap.size, 1, none⟩ = some (.int .i64 cap) := by simp [go_sem]
    have k2 : (w.alloc (.cells #[.string s, .int .i64 cap, .int .i64 filt, .int .i64 err, .slice ao nn cc] 35)).cell? ⟨w.heap.size, 2, none⟩ = some (.int .i64 filt) := by simp [go_sem]
    have k3 : (w.alloc (.cells #[.string s, .int .i64 cap, .int .i64 filt, .int .i64 err, .slice ao nn cc] 35)).cell? ⟨w.heap.size, 3, none⟩ = some (.int .i64 err) := by simp [go_sem]
    have k4 : (w.alloc (.cells #[.string s, .int .i64 cap, .int .i64 filt, .int .i64 err, .slice ao nn cc] 35)).cell? ⟨w.heap.size, 4, none⟩ = some (.slice ao nn cc) := by simp [go_sem]
    have hv := HV.out.keepB ((B.refl w).alloc #[.string s, .int .i64 cap, .int .i64 filt, .int .i64 err, .slice ao nn cc] 35)
    have g := (B.refl w).alloc #[.string s, .int .i64 cap, .int .i64 filt, .int .i64 err, .slice ao nn cc] 35
    generalize w.alloc (.cells #[.string s, .int .i64 cap, .int .i64 filt, .int .i64 err, .slice ao nn cc] 35) = W at *
    refine (cl _ hv).mono ?_
    rintro e w2 ⟨rfl, q⟩
    replace k0 := q.keep k0
    replace k1 := q.keep k1
    replace k2 := q.keep k2
    replace k3 := q.keep k3
    replace k4 := q.keep k4
    replace hv := hv.keepB q
    replace g := g.trans q
    clear q
    go_wp2_with fail
    refine (cc_ _).mono ?_
    rintro e w1 ⟨rfl, rfl⟩
    go_wp2_with fail
    refine (cf _).mono ?_
    rintro e w1 ⟨rfl, rfl⟩
    go_wp2
    go_ret
    exact ⟨by simp, g⟩
  cases be
  · go_enter Tryz.func37, Tryz.ntmps37
    go_wp2_with fail
    have k0 : (w.alloc (.cells #[.string s, .int .i64 cap, .int .i64 filt, .int .i64 err, .slice ao nn cc] 35)).cell? ⟨w.heap.size, 0, none⟩ = some (.string s) := by simp [go_sem]
    have k1 : (w.alloc (.cells #[.string s, .int .i64 cap, .int .i64 filt, .int .i64 err, .slice ao nn cc] 35)).cell? ⟨w.heap.size, 1, none⟩ = some (.int .i64 cap) := by simp [go_sem]
    have k2 : (w.alloc (.cells #[.string s, .int .i64 cap, .int .i64 filt, .int .i64 err, .slice ao nn cc] 35)).cell? ⟨w.heap.size, 2, none⟩ = some (.int .i64 filt) := by simp [go_sem]
    have k3 : (w.alloc (.cells #[.string s, .int .i64 cap, .int .i64 filt, .int .i64 err, .slice ao nn cc] 35)).cell? ⟨w.heap.size, 3, none⟩ = some (.int .i64 err) := by simp [go_sem]
    have k4 : (w.alloc (.cells #[.string s, .int .i64 cap, .int .i64 filt, .int .i64 err, .slice ao nn cc] 35)).cell? ⟨w.heap.size, 4, none⟩ = some (.slice ao nn cc) := by simp [go_sem]
    have hv := HV.out.keepB ((B.refl w).alloc #[.string s, .int .i64 cap, .int .i64 filt, .int .i64 err, .slice ao nn cc] 35)
    have g := (B.refl w).alloc #[.string s, .int .i64 cap, .int .i64 filt, .int .i64 err, .slice ao nn cc] 35
    generalize w.alloc (.cells #[.string s, .int .i64 cap, .int .i64 filt, .int .i64 err, .slice ao nn cc] 35) = W at *
    refine (cl _ hv).mono ?_
    rintro e w2 ⟨rfl, q⟩
    replace k0 := q.keep k0
    replace k1 := q.keep k1
    replace k2 := q.keep k2
    replace k3 := q.keep k3
    replace k4 := q.keep k4
    replace hv := hv.keepB q
    replace g := g.trans q
    clear q
    go_wp2_with fail
    refine (cc_ _).mono ?_
    rintro e w1 ⟨rfl, rfl⟩
    go_wp2_with fail
    refine (cf _).mono ?_
    rintro e w1 ⟨rfl, rfl⟩
    go_wp2_with fail
    refine (ce _).mono ?_
    rintro e w1 ⟨rfl, rfl⟩
    go_wp2
    go_ret
    exact ⟨by simp, g⟩
  cases bn
  · go_enter Tryz.func37, Tryz.ntmps37
    go_wp2_with fail
    have k0 : (w.alloc (.cells #[.string s, .int .i64 cap, .int .i64 filt, .int .i64 err, .slice ao nn cc] 35)).cell? ⟨w.heap.size, 0, none⟩ = some (.string s) := by simp [go_sem]
    have k1 : (w.alloc (.cells #[.string s, .int .i64 cap, .int .i64 filt, .int .i64 err, .slice ao nn cc] 35)).cell? ⟨w.heap.size, 1, none⟩ = some (.int .i64 cap) := by simp [go_sem]
    have k2 : (w.alloc (.cells #[.string s, .int .i64 cap, .int .i64 filt, .int .i64 err, .slice ao nn cc] 35)).cell? ⟨w.heap.size, 2, none⟩ = some (.int .i64 filt) := by simp [go_sem]
    have k3 : (w.alloc (.cells #[.string s, .int .i64 cap, .int .i64 filt, .int .i64 err, .slice ao nn cc] 35)).cell? ⟨w.heap.size, 3, none⟩ = some (.int .i64 err) := by simp [go_sem]
    have k4 : (w.alloc (.cells #[.string s, .int .i64 cap, .int .i64 filt, .int .i64 err, .slice ao nn cc] 35)).cell? ⟨w.heap.size, 4, none⟩ = some (.slice ao nn cc) := by simp [go_sem]
    have hv := HV.out.keepB ((B.refl w).alloc #[.string s, .int .i64 cap, .int .i64 filt, .int .i64 err, .slice ao nn cc] 35)
    have g := (B.refl w).alloc #[.string s, .int .i64 cap, .int .i64 filt, .int .i64 err, .slice ao nn cc] 35
    generalize w.alloc (.cells #[.string s, .int .i64 cap, .int .i64 filt, .int .i64 err, .slice ao nn cc] 35) = W at *
    refine (cl _ hv).mono ?_
    rintro e w2 ⟨rfl, q⟩
    replace k0 := q.keep k0
    replace k1 := q.keep k1
    replace k2 := q.keep k2
    replace k3 := q.keep k3
    replace k4 := q.keep k4
    replace hv := hv.keepB q
    replace g := g.trans q
    clear q
    go_wp2_with fail
    refine (cc_ _).mono ?_
    rintro e w1 ⟨rfl, rfl⟩
    go_wp2_with fail
    refine (cf _).mono ?_
    rintro e w1 ⟨rfl, rfl⟩
    go_wp2_with fail
    refine (ce _).mono ?_
    rintro e w1 ⟨rfl, rfl⟩
    go_wp2_with fail
    refine (cn _).mono ?_
    rintro e w6 ⟨rfl, q⟩
    replace k0 := q.keep k0
    replace k1 := q.keep k1
    replace k2 := q.keep k2
    replace k3 := q.keep k3
    replace k4 := q.keep k4
    replace hv := hv.keepB q
    replace g := g.trans q
    clear q
    go_wp2
    go_ret
    exact ⟨by simp, g⟩
  · go_enter Tryz.func37, Tryz.ntmps37
    go_wp2_with fail
    have k0 : (w.alloc (.cells #[.string s, .int .i64 cap, .int .i64 filt, .int .i64 err, .slice ao nn cc] 35)).cell? ⟨w.heap.size, 0, none⟩ = some (.string s) := by simp [go_sem]
    have k1 : (w.alloc (.cells #[.string s, .int .i64 cap, .int .i64 filt, .int .i64 err, .slice ao nn cc] 35)).cell? ⟨w.heap.size, 1, none⟩ = some (.int .i64 cap) := by simp [go_sem]
    have k2 : (w.alloc (.cells #[.string s, .int .i64 cap, .int .i64 filt, .int .i64 err, .slice ao nn cc] 35)).cell? ⟨w.heap.size, 2, none⟩ = some (.int .i64 filt) := by simp [go_sem]
    have k3 : (w.alloc (.cells #[.string s, .int .i64 cap, .int .i64 filt, .int .i64 err, .slice ao nn cc] 35)).cell? ⟨w.heap.size, 3, none⟩ = some (.int .i64 err) := by simp [go_sem]
    have k4 : (w.alloc (.cells #[.string s, .int .i64 cap, .int .i64 filt, .int .i64 err, .slice ao nn cc] 35)).cell? ⟨w.heap.size, 4, none⟩ = some (.slice ao nn cc) := by simp [go_sem]
    have hv := HV.out.keepB ((B.refl w).alloc #[.string s, .int .i64 cap, .int .i64 filt, .int .i64 err, .slice ao nn cc] 35)
    have g := (B.refl w).alloc #[.string s, .int .i64 cap, .int .i64 filt, .int .i64 err, .slice ao nn cc] 35
    generalize w.alloc (.cells #[.string s, .int .i64 cap, .int .i64 filt, .int .i64 err, .slice ao nn cc] 35) = W at *
    refine (cl _ hv).mono ?_
    rintro e w2 ⟨rfl, q⟩
    replace k0 := q.keep k0
    replace k1 := q.keep k1
    replace k2 := q.keep k2
    replace k3 := q.keep k3
    replace k4 := q.keep k4
    replace hv := hv.keepB q
    replace g := g.trans q
    clear q
    go_wp2_with fail
    refine (cc_ _).mono ?_
    rintro e w1 ⟨rfl, rfl⟩
    go_wp2_with fail
    refine (cf _).mono ?_
    rintro e w1 ⟨rfl, rfl⟩
    go_wp2_with fail
    refine (ce _).mono ?_
    rintro e w1 ⟨rfl, rfl⟩
    go_wp2_with fail
    refine (cn _).mono ?_
    rintro e w6 ⟨rfl, q⟩
    replace k0 := q.keep k0
    replace k1 := q.keep k1
    replace k2 := q.keep k2
    replace k3 := q.keep k3
    replace k4 := q.keep k4
    replace hv := hv.keepB q
    replace g := g.trans q
    clear q
    go_wp2
    go_ret
    exact ⟨by simp, g⟩
end Go.Proofs.YtflklpflpjdbmaaGreatDoor

namespace Go.Proofs.YtflklpflpjdbmaaGreatDoor
open Go.RowKit
theorem wpSeq_pass {P : Program} {ops : Array Oper} {Q : Exit → Act → World → Prop} {S : World → Prop} {l : List (Nat × Nat)} {t : List Value} {df : List _} {w : World} {i d : Nat} {o : Oper}
    (ho : ops.toList[i]? = some o) (hd : o.dst = some d) (hw : Region.wanted o (yielded ops t.toArray) = false)
    (h : wpSeq P ops Q S l { tmps := (t.set d undef).toArray, defers := df } w) : wpSeq P ops Q S ((i, 1) :: l) { tmps := t.toArray, defers := df } w := by
  refine ⟨o, by rw [← Array.getElem?_toList]; exact ho, ?_⟩
  rw [if_neg (by decide), if_pos rfl]
  refine ⟨hw, ?_⟩
  have e : Act.put { tmps := t.toArray, defers := df } o.dst undef = { tmps := (t.set d undef).toArray, defers := df } := by
    rw [hd]; simp [Act.put]
  rw [e]
  exact h
end Go.Proofs.YtflklpflpjdbmaaGreatDoor
