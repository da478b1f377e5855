/-
  Contracts of wells, numbers, steps held against one another, where they are the same; The statements' alike: the code's Parse and the document's StepsParse, held against one another; The statements' alike, over lines that may be empty, too; The code's wells: Text.
-/
import Derived.Test.YthlileddhgglnaaDoorChecked
import Derived.Lib.Hide
import Derived.KernelRfl
import Derived.Laws.StructEq
import Derived.Deep.QuietTactic
import Derived.BigQuiet
import Derived.Test.YthlileddhgglnaaDoorV1
import Derived.Test.YthlileddhgglnaaDoorV2
import Derived.Test.YthlileddhgglnaaDoorV3
import Derived.Test.YthlileddhgglnaaDoorV4
import Derived.Test.YthlileddhgglnaaDoorV5
import Derived.Test.YthlileddhgglnaaDoorV7
import Derived.Test.YthlileddhgglnaaDoorV10
import Derived.Test.YthlileddhgglnaaDoorV11
import Derived.Test.YthlileddhgglnaaDoorV12
import Derived.Test.YthlileddhgglnaaDoorV13
import Derived.Test.YthlileddhgglnaaDoorV14
import Derived.Test.YthlileddhgglnaaDoorV15
import Derived.Test.YthlileddhgglnaaDoorV16
import Derived.Test.YthlileddhgglnaaDoorV17
import Derived.Test.YthlileddhgglnaaDoorV18
namespace Go.Proofs.YthlileddhgglnaaDoor
open Go.RowKit
set_option linter.unusedVariables false
set_option maxHeartbeats 2000000 in
theorem helpwells_any (v1 v2 : Value) (l : List Wp) (w : World) (h1 : IsWps w v1 l) (h2 : IsWps w v2 l) : Calls Tryd.prog 40 #[v1, v2] w fun e w' => e = .returned (.bool true) ∧ Dr w w' := by
  obtain ⟨ao, ac, rfl⟩ := h1.form
  obtain ⟨bo, bc, rfl⟩ := h2.form
  have hlen := h1.len
  go_enter Tryd.func40, Tryd.ntmps40
  go_wp2
  go_loopw [5] (fun iv wr => ∃ i : Nat, i ≤ l.length ∧ iv = .int .i64 i ∧ Dr w wr) (fun iv _ => l.length + 1 - (intOf iv).toNat)
  case atStart => exact ⟨0, by omega, rfl, Dr.refl _⟩
  case round =>
    obtain ⟨i, hi, rfl, hD⟩ := hrel
    obtain ⟨wo, rfl⟩ : ∃ wo : World, wo = wr := ⟨_, rfl⟩
    by_cases hl : i < l.length
    · have hlB : decide ((i : Int) < (l.length : Int)) = true := decide_eq_true (by omega)
      have hlI : (i : Int) < (l.length : Int) := by omega
      have hi0 : (0 : Int) ≤ (i : Int) := by omega
      have wk1 : IntKind.i64.wrap ((i : Int) + 1) = (i : Int) + 1 := by rw [IntKind.wrap_i64]; omega
      obtain ⟨a, cap, e1, _, _, g1⟩ := (h1.keepB hD.q.b).at_ hl
      obtain ⟨b, cap2, e2, _, _, g2⟩ := (h2.keepB hD.q.b).at_ hl
      obtain ⟨rfl, _⟩ : ao = some a ∧ True := by simp at e1; exact ⟨e1.1, trivial⟩
      obtain ⟨rfl, _⟩ : bo = some b ∧ True := by simp at e2; exact ⟨e2.1, trivial⟩
      generalize l[i] = F at *
      obtain ⟨x0, x1, x2⟩ := F
      obtain ⟨a0, a1, a2⟩ := g1
      obtain ⟨b0, b1, b2⟩ := g2
      simp only at a0 a1 a2 b0 b1 b2
      have HL := Lib.hid hl
      replace hD := Lib.hid hD
      clear h1 h2 e1 e2
      go_wp2_with fail
      go_quiet (fail)
      go_wp2
      go_roundw
      case rel => exact ⟨i + 1, by have := HL.out; omega, by go_num, hD.out.trans ⟨_, rfl⟩⟩
      case measure => have := HL.out; simp [intOf]; omega
    · have hlB : decide ((i : Int) < (l.length : Int)) = false := decide_eq_false (by omega)
      replace hD := Lib.hid hD
      clear h1 h2
      go_wp2
      go_ret
      exact ⟨rfl, hD.out⟩
theorem isIs_at {w : World} {v : Value} {l : List Nat} (h : IsIs w v l) {i : Nat} {x : Nat} (hx : l[i]? = some x) : ∃ g, (∃ cap, v = .slice (some ⟨g, 0, none⟩) l.length cap) ∧ w.cell? ⟨g, i, none⟩ = some (.int .i64 ((x : Nat) : Int)) := by
  rcases h with ⟨_, rfl⟩ | ⟨g, cap, rfl, _, _, _, h5⟩
  · simp at hx
  · exact ⟨g, ⟨cap, rfl⟩, h5 i x hx⟩
set_option maxHeartbeats 2000000 in
theorem helpints_any (v1 v2 : Value) (l : List Nat) (w : World) (h1 : IsIs w v1 l) (h2 : IsIs w v2 l) : Calls Tryd.prog 30 #[v1, v2] w fun e w' => e = .returned (.bool true) ∧ Dr w w' := by
  obtain ⟨ao, ac, rfl⟩ := h1.form
  obtain ⟨bo, bc, rfl⟩ := h2.form
  have hlen : l.length ≤ 9223372036854775807 := by
    rcases h1 with ⟨_, rfl⟩ | ⟨g, cap, _, h3, h4, _⟩
    · simp
    · exact len_max h3 h4
  go_enter Tryd.func30, Tryd.ntmps30
  go_wp2
  go_loopw [5] (fun iv wr => ∃ i : Nat, i ≤ l.length ∧ iv = .int .i64 i ∧ Dr w wr) (fun iv _ => l.length + 1 - (intOf iv).toNat)
  case atStart => exact ⟨0, by omega, rfl, Dr.refl _⟩
  case round =>
    obtain ⟨i, hi, rfl, hD⟩ := hrel
    obtain ⟨wo, rfl⟩ : ∃ wo : World, wo = wr := ⟨_, rfl⟩
    by_cases hl : i < l.length
    · have hlB : decide ((i : Int) < (l.length : Int)) = true := decide_eq_true (by omega)
      have hlI : (i : Int) < (l.length : Int) := by omega
      have hi0 : (0 : Int) ≤ (i : Int) := by omega
      have wk1 : IntKind.i64.wrap ((i : Int) + 1) = (i : Int) + 1 := by rw [IntKind.wrap_i64]; omega
      obtain ⟨x0, hx⟩ : ∃ x0, l[i]? = some x0 := ⟨_, List.getElem?_eq_getElem hl⟩
      obtain ⟨a, e1, a0⟩ := isIs_at (h1.keep hD.q.b) hx
      obtain ⟨b, e2, b0⟩ := isIs_at (h2.keep hD.q.b) hx
      obtain ⟨rfl, _⟩ : ao = some ⟨a, 0, none⟩ ∧ True := by simp at e1; exact ⟨e1, trivial⟩
      obtain ⟨rfl, _⟩ : bo = some ⟨b, 0, none⟩ ∧ True := by simp at e2; exact ⟨e2, trivial⟩
      have HL := Lib.hid hl
      replace hD := Lib.hid hD
      clear h1 h2 e1 e2 hx
      go_wp2_with fail
      go_quiet (fail)
      go_wp2
      go_roundw
      case rel => exact ⟨i + 1, by have := HL.out; omega, by go_num, hD.out.trans ⟨_, rfl⟩⟩
      case measure => have := HL.out; simp [intOf]; omega
    · have hlB : decide ((i : Int) < (l.length : Int)) = false := decide_eq_false (by omega)
      replace hD := Lib.hid hD
      clear h1 h2
      go_wp2
      go_ret
      exact ⟨rfl, hD.out⟩
set_option maxHeartbeats 2000000 in
theorem helpsteps_any (v1 v2 : Value) (L : List Sp) (w : World) (h1 : IsSps w v1 L) (h2 : IsSps w v2 L) : Calls Tryd.prog 18 #[v1, v2] w fun e w' => e = .returned (.bool true) ∧ Q w w' := by
  obtain ⟨ao, ac, rfl⟩ := h1.form
  obtain ⟨bo, bc, rfl⟩ := h2.form
  have hlen := h1.len
  go_enter Tryd.func18, Tryd.ntmps18
  go_wp2
  go_loopw [5] (fun iv wr => ∃ i : Nat, i ≤ L.length ∧ iv = .int .i64 i ∧ Q w wr) (fun iv _ => L.length + 1 - (intOf iv).toNat)
  case atStart => exact ⟨0, by omega, rfl, Q.refl _⟩
  case round =>
    obtain ⟨i, hi, rfl, hD⟩ := hrel
    obtain ⟨wo, rfl⟩ : ∃ wo : World, wo = wr := ⟨_, rfl⟩
    by_cases hl : i < L.length
    · have hlB : decide ((i : Int) < (L.length : Int)) = true := decide_eq_true (by omega)
      have hlI : (i : Int) < (L.length : Int) := by omega
      have hi0 : (0 : Int) ≤ (i : Int) := by omega
      have wk1 : IntKind.i64.wrap ((i : Int) + 1) = (i : Int) + 1 := by rw [IntKind.wrap_i64]; omega
      obtain ⟨a, cap, e1, _, _, hr⟩ := (h1.keepB hD.b).at_ hl
      obtain ⟨b, cap2, e2, _, _, hs⟩ := (h2.keepB hD.b).at_ hl
      obtain ⟨rfl, _⟩ : ao = some a ∧ True := by simp at e1; exact ⟨e1.1, trivial⟩
      obtain ⟨rfl, _⟩ : bo = some b ∧ True := by simp at e2; exact ⟨e2.1, trivial⟩
      generalize L[i] = F at *
      obtain ⟨K, N, SL, V, M⟩ := F
      obtain ⟨a1, a2, ⟨sv, a5, a6⟩, a3, a4⟩ := hr
      obtain ⟨b1, b2, ⟨su, b5, b6⟩, b3, b4⟩ := hs
      simp only at a1 a2 a3 a4 a5 a6 b1 b2 b3 b4 b5 b6
      obtain ⟨so, sc, rfl⟩ := a6.form
      obtain ⟨uo, uc, rfl⟩ := b6.form
      obtain ⟨sn, hsn⟩ : ∃ sn, SL.length = sn := ⟨_, rfl⟩
      rw [hsn] at a5 b5
      have HL := Lib.hid hl
      replace hD := Lib.hid hD
      have s0 := World.block_lt_of_cell? _ _ a1
      have s1 := World.block_lt_of_cell? _ _ b1
      clear e1 e2 hi h1 h2
      go_wp2_with fail
      go_region
      · obtain ⟨W2, hW2⟩ : ∃ W2, ((wo.alloc (.cells #[.int .i64 K, .string N, .slice so sn sc, .int .i64 V, .int .i64 M] 47)).alloc (.cells #[.int .i64 K, .string N, .slice uo sn uc, .int .i64 V, .int .i64 M] 47)).drew = W2 := ⟨_, rfl⟩
        have z1 : (wo.alloc (.cells #[.int .i64 K, .string N, .slice so sn sc, .int .i64 V, .int .i64 M] 47)).heap.size = wo.heap.size + 1 := by simp
        have q2 : Q wo W2 := by rw [← hW2]; exact (((Q.refl wo).alloc #[.int .i64 K, .string N, .slice so sn sc, .int .i64 V, .int .i64 M] 47).alloc #[.int .i64 K, .string N, .slice uo sn uc, .int .i64 V, .int .i64 M] 47).drew
        have p0 : W2.cell? ⟨wo.heap.size, 0, none⟩ = some (.int .i64 K) := by rw [← hW2, World.cell?_drew]; exact ((Q.refl _).alloc _ _).keep (by rw [World.cell?_alloc_new]; rfl)
        have r0 : W2.cell? ⟨wo.heap.size + 1, 0, none⟩ = some (.int .i64 K) := by rw [← hW2, World.cell?_drew, ← z1, World.cell?_alloc_new]; rfl
        have p1 : W2.cell? ⟨wo.heap.size, 1, none⟩ = some (.string N) := by rw [← hW2, World.cell?_drew]; exact ((Q.refl _).alloc _ _).keep (by rw [World.cell?_alloc_new]; rfl)
        have r1 : W2.cell? ⟨wo.heap.size + 1, 1, none⟩ = some (.string N) := by rw [← hW2, World.cell?_drew, ← z1, World.cell?_alloc_new]; rfl
        have p2 : W2.cell? ⟨wo.heap.size, 2, none⟩ = some (.slice so sn sc) := by rw [← hW2, World.cell?_drew]; exact ((Q.refl _).alloc _ _).keep (by rw [World.cell?_alloc_new]; rfl)
        have r2 : W2.cell? ⟨wo.heap.size + 1, 2, none⟩ = some (.slice uo sn uc) := by rw [← hW2, World.cell?_drew, ← z1, World.cell?_alloc_new]; rfl
        have p3 : W2.cell? ⟨wo.heap.size, 3, none⟩ = some (.int .i64 V) := by rw [← hW2, World.cell?_drew]; exact ((Q.refl _).alloc _ _).keep (by rw [World.cell?_alloc_new]; rfl)
        have r3 : W2.cell? ⟨wo.heap.size + 1, 3, none⟩ = some (.int .i64 V) := by rw [← hW2, World.cell?_drew, ← z1, World.cell?_alloc_new]; rfl
        have p4 : W2.cell? ⟨wo.heap.size, 4, none⟩ = some (.int .i64 M) := by rw [← hW2, World.cell?_drew]; exact ((Q.refl _).alloc _ _).keep (by rw [World.cell?_alloc_new]; rfl)
        have r4 : W2.cell? ⟨wo.heap.size + 1, 4, none⟩ = some (.int .i64 M) := by rw [← hW2, World.cell?_drew, ← z1, World.cell?_alloc_new]; rfl
        have hs := helpwells_any _ _ SL W2 (a6.keepB q2.b) (b6.keepB q2.b)
        rw [hsn] at hs
        have HQ := Lib.hid (hD.out.trans q2)
        clear a1 a2 a3 a4 a5 a6 b1 b2 b3 b4 b5 b6 s0 s1 q2 z1 hl
        rw [hW2]
        clear hW2
        go_wp2_with fail
        refine (Calls.mono hs ?_)
        rintro _ W3 ⟨rfl, hd⟩
        replace HQ := Lib.hid (HQ.out.dr hd)
        go_wp2
        go_roundw
        case rel => exact ⟨i + 1, by have := HL.out; omega, by go_num, HQ.out⟩
        case measure => have := HL.out; simp [intOf]; omega
      · obtain ⟨W2, hW2⟩ : ∃ W2, ((wo.alloc (.cells #[.int .i64 K, .string N, .slice uo sn uc, .int .i64 V, .int .i64 M] 47)).alloc (.cells #[.int .i64 K, .string N, .slice so sn sc, .int .i64 V, .int .i64 M] 47)).drew = W2 := ⟨_, rfl⟩
        have z1 : (wo.alloc (.cells #[.int .i64 K, .string N, .slice uo sn uc, .int .i64 V, .int .i64 M] 47)).heap.size = wo.heap.size + 1 := by simp
        have q2 : Q wo W2 := by rw [← hW2]; exact (((Q.refl wo).alloc #[.int .i64 K, .string N, .slice uo sn uc, .int .i64 V, .int .i64 M] 47).alloc #[.int .i64 K, .string N, .slice so sn sc, .int .i64 V, .int .i64 M] 47).drew
        have p0 : W2.cell? ⟨wo.heap.size, 0, none⟩ = some (.int .i64 K) := by rw [← hW2, World.cell?_drew]; exact ((Q.refl _).alloc _ _).keep (by rw [World.cell?_alloc_new]; rfl)
        have r0 : W2.cell? ⟨wo.heap.size + 1, 0, none⟩ = some (.int .i64 K) := by rw [← hW2, World.cell?_drew, ← z1, World.cell?_alloc_new]; rfl
        have p1 : W2.cell? ⟨wo.heap.size, 1, none⟩ = some (.string N) := by rw [← hW2, World.cell?_drew]; exact ((Q.refl _).alloc _ _).keep (by rw [World.cell?_alloc_new]; rfl)
        have r1 : W2.cell? ⟨wo.heap.size + 1, 1, none⟩ = some (.string N) := by rw [← hW2, World.cell?_drew, ← z1, World.cell?_alloc_new]; rfl
        have p2 : W2.cell? ⟨wo.heap.size, 2, none⟩ = some (.slice uo sn uc) := by rw [← hW2, World.cell?_drew]; exact ((Q.refl _).alloc _ _).keep (by rw [World.cell?_alloc_new]; rfl)
        have r2 : W2.cell? ⟨wo.heap.size + 1, 2, none⟩ = some (.slice so sn sc) := by rw [← hW2, World.cell?_drew, ← z1, World.cell?_alloc_new]; rfl
        have p3 : W2.cell? ⟨wo.heap.size, 3, none⟩ = some (.int .i64 V) := by rw [← hW2, World.cell?_drew]; exact ((Q.refl _).alloc _ _).keep (by rw [World.cell?_alloc_new]; rfl)
        have r3 : W2.cell? ⟨wo.heap.size + 1, 3, none⟩ = some (.int .i64 V) := by rw [← hW2, World.cell?_drew, ← z1, World.cell?_alloc_new]; rfl
        have p4 : W2.cell? ⟨wo.heap.size, 4, none⟩ = some (.int .i64 M) := by rw [← hW2, World.cell?_drew]; exact ((Q.refl _).alloc _ _).keep (by rw [World.cell?_alloc_new]; rfl)
        have r4 : W2.cell? ⟨wo.heap.size + 1, 4, none⟩ = some (.int .i64 M) := by rw [← hW2, World.cell?_drew, ← z1, World.cell?_alloc_new]; rfl
        have hs := helpwells_any _ _ SL W2 (a6.keepB q2.b) (b6.keepB q2.b)
        rw [hsn] at hs
        have HQ := Lib.hid (hD.out.trans q2)
        clear a1 a2 a3 a4 a5 a6 b1 b2 b3 b4 b5 b6 s0 s1 q2 z1 hl
        rw [hW2]
        clear hW2
        go_wp2_with fail
        refine (Calls.mono hs ?_)
        rintro _ W3 ⟨rfl, hd⟩
        replace HQ := Lib.hid (HQ.out.dr hd)
        go_wp2
        go_roundw
        case rel => exact ⟨i + 1, by have := HL.out; omega, by go_num, HQ.out⟩
        case measure => have := HL.out; simp [intOf]; omega
    · have hlB : decide ((i : Int) < (L.length : Int)) = false := decide_eq_false (by omega)
      replace hD := Lib.hid hD
      clear h1 h2
      go_wp2
      go_ret
      exact ⟨rfl, hD.out⟩
end Go.Proofs.YthlileddhgglnaaDoor

namespace Go.Proofs.YthlileddhgglnaaDoor
open Go.RowKit
set_option linter.unusedVariables false
def protoOut (LL : List (List Wd)) : List Sp × List (List Nat) × Nat × Nat := match parseP LL [] with
  | .ok S => (S, placesP LL, 0, 0)
  | .error (p, n) => ([], [], p, n)
theorem protoRes_uni {LL : List (List Wd)} {w w' : World} {e : Ending} (h : ProtoRes LL w e w') : ∃ sv ov, e = .returned (.tuple #[sv, ov, .int .i64 ((protoOut LL).2.2.1 : Int), .int .i64 ((protoOut LL).2.2.2 : Int)]) ∧ IsSps w' sv (protoOut LL).1 ∧ IsPls w' ov (protoOut LL).2.1 ∧ B w w' := by
  rcases h with ⟨S, sv, ov, hp, rfl, h1, h2, q⟩ | ⟨p, n, hp, rfl, q⟩
  · have e : protoOut LL = (S, placesP LL, 0, 0) := by unfold protoOut; rw [hp]
    rw [e]
    exact ⟨sv, ov, rfl, h1, h2, q⟩
  · have e : protoOut LL = ([], [], p, n) := by unfold protoOut; rw [hp]
    rw [e]
    exact ⟨_, _, rfl, .inl ⟨rfl, rfl⟩, .inl ⟨rfl, rfl⟩, q⟩
theorem IsPls.at_ {w : World} {v : Value} {P : List (List Nat)} (h : IsPls w v P) {i : Nat} {l : List Nat} (hl : P[i]? = some l) : ∃ g cap u, v = .slice (some ⟨g, 0, none⟩) P.length cap ∧ w.cell? ⟨g, i, none⟩ = some u ∧ IsIs w u l := by
  rcases h with ⟨_, rfl⟩ | ⟨g, cap, h1, _, _, h4⟩
  · simp at hl
  · obtain ⟨u, k1, k2⟩ := h4 i l hl
    exact ⟨g, cap, u, h1, k1, k2⟩
theorem IsPls.len {w : World} {v : Value} {P : List (List Nat)} (h : IsPls w v P) : P.length ≤ 9223372036854775807 := by
  rcases h with ⟨_, rfl⟩ | ⟨g, cap, _, h3, h4, _⟩
  · simp
  · exact len_max h3 h4
end Go.Proofs.YthlileddhgglnaaDoor

namespace Go.Proofs.YthlileddhgglnaaDoor
open Go.RowKit
set_option linter.unusedVariables false
set_option maxRecDepth 100000 in
set_option maxHeartbeats 4000000 in
theorem alike12e_any (v : Value) (L : List (List Wd)) (w : World) (h : IsLnO w v L) (hL : L.length ≤ 65536) (hws : ∀ ws ∈ L, ws.length ≤ 65536) (hlong : ∀ ws ∈ L, ∀ x ∈ ws, x.2.length ≤ 65536) :
    Calls Tryd.prog 12 #[v] w fun e w' => e = .returned (.bool true) ∧ B w w' := by
  have cW := words12e_any v L w h hL hws
  have cD := fun w' (q : B w w') => (r8stepsparse_any v L w' (h.keep q) hL hws hlong).mono (fun e w2 hh => protoRes_uni hh)
  have cP := fun u w' (hu : IsLnO w' u L) => (pparse_any u L w' hu hL hws hlong).mono (fun e w2 hh => protoRes_uni hh)
  generalize protoOut L = PO at *
  obtain ⟨S, P, p, n⟩ := PO
  simp only at cD cP
  go_enter Tryd.func12, Tryd.ntmps12
  go_wp2_with fail
  refine cW.mono ?_
  rintro e w1 ⟨u, vs, rfl, hO, q1⟩
  clear cW
  have cP1 := cP u w1 hO.is
  clear h hL hws hlong hO cP
  go_wp2_with fail
  refine cP1.mono ?_
  rintro e w2 ⟨sv, ov, rfl, hS, hP, q2⟩
  have q12 := q1.trans q2
  have cD1 := cD w2 q12
  clear cP1 q1 q2 cD
  obtain ⟨so, sc, rfl⟩ := hS.form
  obtain ⟨po, pc, rfl⟩ := hP.form
  go_wp2_with fail
  refine cD1.mono ?_
  rintro e w3 ⟨sv2, ov2, rfl, hS2, hP2, q3⟩
  have q13 := q12.trans q3
  have cH := helpsteps_any _ _ S w3 (hS.keepB q3) hS2
  replace hP := hP.keep q3
  obtain ⟨so2, sc2, rfl⟩ := hS2.form
  obtain ⟨po2, pc2, rfl⟩ := hP2.form
  have hPl := hP.len
  have hPP := Lib.hid (And.intro hP hP2)
  obtain ⟨np, hnp⟩ : ∃ np, P.length = np := ⟨_, rfl⟩
  rw [hnp] at hPP hPl ⊢
  have hNP := Lib.hid hnp
  generalize S.length = ns at *
  have n0 : ((np : Int) != (np : Int)) = false := by simp
  have n1 : ((p : Int) != (p : Int)) = false := by simp
  have n2 : ((n : Int) != (n : Int)) = false := by simp
  have HQ := Lib.hid q13
  clear cD1 q12 q3 q13 hS hS2 hP hP2 hnp
  go_wp2_with fail
  refine cH.mono ?_
  rintro e w4 ⟨rfl, q4⟩
  clear cH
  replace HQ := Lib.hid (And.intro (HQ.out.trans q4.b) q4.b)
  clear q4
  go_wp2_with fail
  go_loopw [11] (fun iv wr => ∃ i : Nat, i ≤ np ∧ iv = .int .i64 i ∧ B w4 wr) (fun iv _ => np + 1 - (intOf iv).toNat)
  case atStart => exact ⟨0, Nat.zero_le _, rfl, B.refl _⟩
  case round =>
    obtain ⟨i, hi, rfl, q⟩ := hrel
    obtain ⟨wi, rfl⟩ : ∃ wi : World, wi = wr := ⟨_, rfl⟩
    by_cases hl : i < np
    · have hlB : decide ((i : Int) < (np : Int)) = true := decide_eq_true (by omega)
      have hlN : decide (i < np) = true := decide_eq_true hl
      have hlI : (i : Int) < (np : Int) := by omega
      have hi0 : (0 : Int) ≤ (i : Int) := by omega
      have wk1 : IntKind.i64.wrap ((i : Int) + 1) = (i : Int) + 1 := by rw [IntKind.wrap_i64]; omega
      obtain ⟨l, hl9⟩ : ∃ l, P[i]? = some l := ⟨_, List.getElem?_eq_getElem (by rw [hNP.out]; exact hl)⟩
      have hk := HQ.out.2.trans q
      have hA : IsPls wi (.slice po P.length pc) P := by rw [hNP.out]; exact hPP.out.1.keep hk
      have hA2 : IsPls wi (.slice po2 P.length pc2) P := by rw [hNP.out]; exact hPP.out.2.keep hk
      obtain ⟨g, c, u, e1, k1, i1⟩ := hA.at_ hl9
      obtain ⟨g2, c2, u2, e2, k2, i2⟩ := hA2.at_ hl9
      obtain ⟨rfl, rfl⟩ : po = some ⟨g, 0, none⟩ ∧ pc = c := by simpa using e1
      obtain ⟨rfl, rfl⟩ : po2 = some ⟨g2, 0, none⟩ ∧ pc2 = c2 := by simpa using e2
      have cI := fun w' (qq : B wi w') => helpints_any u u2 l w' (i1.keep qq) (i2.keep qq)
      obtain ⟨uo, uc, rfl⟩ := i1.form
      obtain ⟨uo2, uc2, rfl⟩ := i2.form
      generalize l.length = ll at *
      have HK := Lib.hid (And.intro q hl)
      clear e1 e2 hl9 hA hA2 i1 i2 hk q hl hi
      go_wp2_with fail
      go_region_with (go_at_call 30; with_reducible refine (cI _ (B.refl wi).drew).mono ?_; rintro _ w5 ⟨rfl, q5⟩)
      all_goals
        have HK2 := Lib.hid ((B.refl wi).drew.trans q5.q.b)
        clear q5
        first
          | exact ⟨⟨i + 1, by have := HK.out.2; omega, by go_num, HK.out.1.trans HK2.out⟩, by have := HK.out.2; simp [intOf]; omega⟩
          | (go_wp2; exact ⟨⟨i + 1, by have := HK.out.2; omega, by go_num, HK.out.1.trans HK2.out⟩, by have := HK.out.2; simp [intOf]; omega⟩)
    · have hlB : decide ((i : Int) < (np : Int)) = false := decide_eq_false (by omega)
      have hlN : decide (i < np) = false := decide_eq_false hl
      have HZ := Lib.hid (HQ.out.1.trans q)
      clear q hl hi
      go_wp2
      go_ret
      exact ⟨rfl, HZ.out⟩
end Go.Proofs.YthlileddhgglnaaDoor

namespace Go.Proofs.YthlileddhgglnaaDoor
open Go.RowKit
set_option linter.unusedVariables false
theorem rune_letter {r : Int} (h0 : 0 ≤ r) (h8 : r < 8) : Utf8.encode (65 + r) = strB [UInt8.ofNat (65 + r.toNat)] := by
  have : r = 0 ∨ r = 1 ∨ r = 2 ∨ r = 3 ∨ r = 4 ∨ r = 5 ∨ r = 6 ∨ r = 7 := by omega
  rcases this with rfl | rfl | rfl | rfl | rfl | rfl | rfl | rfl <;> rfl
set_option maxHeartbeats 2000000 in
theorem wtext_any (n : ByteArray) (r c : Int) (hr : I64 r) (hc : I64 c) (w : World) : Calls Tryd.prog 69 #[.agg #[.string n, .int .i64 r, .int .i64 c]] w fun e w' => e = .returned (.string (strB (wellT n r c))) ∧ B w w' := by
  have cw := fun w => written_any n r c w
  have u3 : IntKind.i64.wrap r = r := by rw [IntKind.wrap_i64]; unfold I64 at hr; omega
  have u4 : IntKind.i64.wrap c = c := by rw [IntKind.wrap_i64]; unfold I64 at hc; omega
  have q1 := (B.refl w).alloc #[.string n, .int .i64 r, .int .i64 c] 49
  cases hw : wrB n r c
  · have HE : wellT n r c = [] := by
      unfold wellT
      rw [if_neg]
      intro h
      rw [wrB_iff.2 h] at hw
      cases hw
    rw [HE]
    rw [hw] at cw
    clear hw HE
    go_enter Tryd.func69, Tryd.ntmps69
    go_wp2_with fail
    refine (cw _).mono ?_
    rintro _ w2 ⟨rfl, q2⟩
    go_wp2
    go_ret
    exact ⟨rfl, q1.trans q2⟩
  · rw [hw] at cw
    obtain ⟨hn, h0, h8, k0, k12⟩ := wrB_iff.1 hw
    have HE : wellT n r c = n.data.toList ++ [46, UInt8.ofNat (65 + r.toNat)] ++ decI (c + 1) := by unfold wellT; rw [if_pos ⟨hn, by omega, by omega, by omega, by omega⟩]
    have hz : n.size ≤ 1000 := name_size hn
    obtain ⟨k, rfl⟩ := Int.eq_ofNat_of_zero_le (by omega : 0 ≤ c)
    have cd : ∀ w, Calls Tryd.prog 52 #[.int .i64 ((k : Int) + 1)] w fun e w' => e = .returned (.string (decS (k + 1))) ∧ w' = w := fun w => by
      have := Tryd.strconv_Itoa_small (k + 1) (by omega) w
      rw [show (((k + 1 : Nat) : Int)) = (k : Int) + 1 by omega] at this
      exact this
    have v1 := decS_size (n := k + 1) (by omega)
    have hdS : decS (k + 1) = strB (decI ((k : Int) + 1)) := by rw [decS_strB]; rfl
    have wr : IntKind.i64.wrap (65 + r) = 65 + r := by rw [IntKind.wrap_i64]; omega
    have wr32 : IntKind.i32.wrap (65 + r) = 65 + r := by unfold IntKind.wrap; simp [IntKind.bits, IntKind.signed]; omega
    have wc : IntKind.i64.wrap ((k : Int) + 1) = (k : Int) + 1 := by rw [IntKind.wrap_i64]; omega
    have sl := rune_letter h0 h8
    obtain ⟨L, hL⟩ : ∃ L, strB [UInt8.ofNat (65 + r.toNat)] = L := ⟨_, rfl⟩
    have hL1 : L.size = 1 := by rw [← hL]; rfl
    obtain ⟨D, hD⟩ : ∃ D, decS (k + 1) = D := ⟨_, rfl⟩
    rw [hD] at v1 cd hdS
    rw [hL] at sl
    obtain ⟨s1, j1⟩ : ∃ x, n ++ ({ data := #[46] } : ByteArray) = x := ⟨_, rfl⟩
    have n1 : ¬ 9223372036854775807 < n.size + 1 := by omega
    have m1 : ¬ 9223372036854775807 < n.size + ({ data := #[46] } : ByteArray).size := n1
    have z1 : s1.size = n.size + 1 := by rw [← j1, ByteArray.size_append]; rfl
    obtain ⟨s2, j2⟩ : ∃ x, s1 ++ L = x := ⟨_, rfl⟩
    have n2 : ¬ 9223372036854775807 < s1.size + L.size := by omega
    have z2 : s2.size = s1.size + L.size := by rw [← j2, ByteArray.size_append]
    obtain ⟨s3, j3⟩ : ∃ x, s2 ++ D = x := ⟨_, rfl⟩
    have n3 : ¬ 9223372036854775807 < s2.size + D.size := by omega
    have HS : Hid (strB (wellT n r (k : Int)) = s3) := Lib.hid (by
      rw [HE, ← j3, ← j2, ← j1, ← hL, hdS, show n = strB n.data.toList from rfl, show ({ data := #[46] } : ByteArray) = strB [46] from rfl]
      simp only [strB_app]
      congr 1
      simp [strB, List.append_assoc])
    clear HE hz z1 z2 hL1 v1 hL hD hdS hw
    go_enter Tryd.func69, Tryd.ntmps69
    go_wp2_with fail
    refine (cw _).mono ?_
    rintro _ w2 ⟨rfl, q2⟩
    have oR := q2.obj (obj_new w (.cells #[.string n, .int .i64 r, .int .i64 (k : Int)] 49))
    have hB := q1.trans q2
    have p0 : w2.cell? ⟨w.heap.size, 0, none⟩ = some (.string n) := obj_cell oR 0
    have p1 : w2.cell? ⟨w.heap.size, 1, none⟩ = some (.int .i64 r) := obj_cell oR 1
    have p2 : w2.cell? ⟨w.heap.size, 2, none⟩ = some (.int .i64 (k : Int)) := obj_cell oR 2
    go_wp2_with fail
    have HB := Lib.hid hB.drew
    have p0' : w2.drew.cell? ⟨w.heap.size, 0, none⟩ = some (.string n) := p0
    have p1' : w2.drew.cell? ⟨w.heap.size, 1, none⟩ = some (.int .i64 r) := p1
    have p2' : w2.drew.cell? ⟨w.heap.size, 2, none⟩ = some (.int .i64 (k : Int)) := p2
    clear cw q1 q2 oR hB h0 h8 k0 k12
    generalize w.heap.size = H at *
    go_region_with (go_at_call 52; with_reducible refine (cd _).mono ?_; rintro _ _ ⟨rfl, rfl⟩)
    all_goals
      go_wp2
      go_ret
      exact ⟨by rw [HS.out]; rfl, HB.out⟩
end Go.Proofs.YthlileddhgglnaaDoor
