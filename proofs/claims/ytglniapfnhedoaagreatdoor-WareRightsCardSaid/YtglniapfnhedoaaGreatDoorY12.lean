/-
 Contracts and what they rest on.
-/
import Derived.Test.YtglniapfnhedoaaGreatDoorChecked
import Derived.KernelRfl
import Derived.Lib.MinMax
import Derived.Deep.QuietTactic
import Derived.BigQuiet
import Derived.Laws.StructEq
import Derived.Lib.Hide
import Derived.Test.YtglniapfnhedoaaGreatDoorY11
namespace Go.Proofs.YtglniapfnhedoaaGreatDoor
open Go.RowKit
def tipB (s : ByteArray) (cap filt err : Int) (l : List Sec) : Bool := rightS l && inB cap 1 20000000 && inB filt 1 60000 && inB err 0 10000 && nameS s
theorem r8tipright_any (s : ByteArray) (cap filt err : Int) (v : Value) (l : List Sec) (w : World) (hv : IsSecs w v l) :
  Calls Tryz.prog 35 #[.agg #[.string s, .int .i64 cap, .int .i64 filt, .int .i64 err, v]] w fun e w' => e = .returned (.bool (tipB s cap filt err l)) ∧ B w w' := by
 obtain ⟨ao, nn, cc, rfl⟩ := hv.form
 have HV := Lib.hid hv
 clear hv
 have cl := fun w h => r3right_any (.slice ao nn cc) l w h
 have cc_ := fun w => r8in_any cap 1 20000000 w
 have cf := fun w => r8in_any filt 1 60000 w
 have ce := fun w => r8in_any err 0 10000 w
 have cn := fun w => r8name_any s w
 unfold tipB
 have kc : ∀ w', B (w.alloc (.cells #[.string s, .int .i64 cap, .int .i64 filt, .int .i64 err, .slice ao nn cc] 35)) w' → B w w' := fun w' q => ((B.refl w).alloc _ _).trans q
 generalize rightS l = bl at *
 generalize inB cap 1 20000000 = bc at *
 generalize inB filt 1 60000 = bf at *
 generalize inB err 0 10000 = be at *
 generalize nameS s = bn at *
 cases bn
 ·go_enter Tryz.func35, Tryz.ntmps35
  go_wp2_with fail
  have k0 : (w.alloc (.cells #[.string s, .int .i64 cap, .int .i64 filt, .int .i64 err, .slice ao nn cc] 35)).cell? ⟨w.heap.size, 0, none⟩ = some (.string s) := by simp [go_sem]
  have k1 : (w.alloc (.cells #[.string s, .int .i64 cap, .int .i64 filt, .int .i64 err, .slice ao nn cc] 35)).cell? ⟨w.heap.size, 1, none⟩ = some (.int .i64 cap) := by simp [go_sem]
  have k2 : (w.alloc (.cells #[.string s, .int .i64 cap, .int .i64 filt, .int .i64 err, .slice ao nn cc] 35)).cell? ⟨w.heap.size, 2, none⟩ = some (.int .i64 filt) := by simp [go_sem]
  have k3 : (w.alloc (.cells #[.string s, .int .i64 cap, .int .i64 filt, .int .i64 err, .slice ao nn cc] 35)).cell? ⟨w.heap.size, 3, none⟩ = some (.int .i64 err) := by simp [go_sem]
  have k4 : (w.alloc (.cells #[.string s, .int .i64 cap, .int .i64 filt, .int .i64 err, .slice ao nn cc] 35)).cell? ⟨w.heap.size, 4, none⟩ = some (.slice ao nn cc) := by simp [go_sem]
  have hv := HV.out.keepB ((B.refl w).alloc #[.string s, .int .i64 cap, .int .i64 filt, .int .i64 err, .slice ao nn cc] 35)
  have g := (B.refl w).alloc #[.string s, .int .i64 cap, .int .i64 filt, .int .i64 err, .slice ao nn cc] 35
  generalize w.alloc (.cells #[.string s, .int .i64 cap, .int .i64 filt, .int .i64 err, .slice ao nn cc] 35) = W at *
  refine (cn _).mono ?_
  rintro e w1 ⟨rfl, rfl⟩
  go_wp2
  go_ret
  exact ⟨by simp, g⟩
 cases bl
 ·go_enter Tryz.func35, Tryz.ntmps35
  go_wp2_with fail
  have k0 : (w.alloc (.cells #[.string s, .int .i64 cap, .int .i64 filt, .int .i64 err, .slice ao nn cc] 35)).cell? ⟨w.heap.size, 0, none⟩ = some (.string s) := by simp [go_sem]
  have k1 : (w.alloc (.cells #[.string s, .int .i64 cap, .int .i64 filt, .int .i64 err, .slice ao nn cc] 35)).cell? ⟨w.heap.size, 1, none⟩ = some (.int .i64 cap) := by simp [go_sem]
  have k2 : (w.alloc (.cells #[.string s, .int .i64 cap, .int .i64 filt, .int .i64 err, .slice ao nn cc] 35)).cell? ⟨w.heap.size, 2, none⟩ = some (.int .i64 filt) := by simp [go_sem]
  have k3 : (w.alloc (.cells #[.string s, .int .i64 cap, .int .i64 filt, .int .i64 err, .slice ao nn cc] 35)).cell? ⟨w.heap.size, 3, none⟩ = some (.int .i64 err) := by simp [go_sem]
  have k4 : (w.alloc (.cells #[.string s, .int .i64 cap, .int .i64 filt, .int .i64 err, .slice ao nn cc] 35)).cell? ⟨w.heap.size, 4, none⟩ = some (.slice ao nn cc) := by simp [go_sem]
  have hv := HV.out.keepB ((B.refl w).alloc #[.string s, .int .i64 cap, .int .i64 filt, .int .i64 err, .slice ao nn cc] 35)
  have g := (B.refl w).alloc #[.string s, .int .i64 cap, .int .i64 filt, .int .i64 err, .slice ao nn cc] 35
  generalize w.alloc (.cells #[.string s, .int .i64 cap, .int .i64 filt, .int .i64 err, .slice ao nn cc] 35) = W at *
  refine (cn _).mono ?_
  rintro e w1 ⟨rfl, rfl⟩
  go_wp2_with fail
  refine (cl _ hv).mono ?_
  rintro e w3 ⟨rfl, q⟩
  replace q := q.b
  replace k0 := q.keep k0
  replace k1 := q.keep k1
  replace k2 := q.keep k2
  replace k3 := q.keep k3
  replace k4 := q.keep k4
  replace hv := hv.keepB q
  replace g := g.trans q
  clear q
  go_wp2
  go_ret
  exact ⟨by simp, g⟩
 cases bc
 ·go_enter Tryz.func35, Tryz.ntmps35
  go_wp2_with fail
  have k0 : (w.alloc (.cells #[.string s, .int .i64 cap, .int .i64 filt, .int .i64 err, .slice ao nn cc] 35)).cell? ⟨w.heap.size, 0, none⟩ = some (.string s) := by simp [go_sem]
  have k1 : (w.alloc (.cells #[.string s, .int .i64 cap, .int .i64 filt, .int .i64 err, .slice ao nn cc] 35)).cell? ⟨w.heap.size, 1, none⟩ = some (.int .i64 cap) := by simp [go_sem]
  have k2 : (w.alloc (.cells #[.string s, .int .i64 cap, .int .i64 filt, .int .i64 err, .slice ao nn cc] 35)).cell? ⟨w.heap.size, 2, none⟩ = some (.int .i64 filt) := by simp [go_sem]
  have k3 : (w.alloc (.cells #[.string s, .int .i64 cap, .int .i64 filt, .int .i64 err, .slice ao nn cc] 35)).cell? ⟨w.heap.size, 3, none⟩ = some (.int .i64 err) := by simp [go_sem]
  have k4 : (w.alloc (.cells #[.string s, .int .i64 cap, .int .i64 filt, .int .i64 err, .slice ao nn cc] 35)).cell? ⟨w.heap.size, 4, none⟩ = some (.slice ao nn cc) := by simp [go_sem]
  have hv := HV.out.keepB ((B.refl w).alloc #[.string s, .int .i64 cap, .int .i64 filt, .int .i64 err, .slice ao nn cc] 35)
  have g := (B.refl w).alloc #[.string s, .int .i64 cap, .int .i64 filt, .int .i64 err, .slice ao nn cc] 35
  generalize w.alloc (.cells #[.string s, .int .i64 cap, .int .i64 filt, .int .i64 err, .slice ao nn cc] 35) = W at *
  refine (cn _).mono ?_
  rintro e w1 ⟨rfl, rfl⟩
  go_wp2_with fail
  refine (cl _ hv).mono ?_
  rintro e w3 ⟨rfl, q⟩
  replace q := q.b
  replace k0 := q.keep k0
  replace k1 := q.keep k1
  replace k2 := q.keep k2
  replace k3 := q.keep k3
  replace k4 := q.keep k4
  replace hv := hv.keepB q
  replace g := g.trans q
  clear q
  go_wp2_with fail
  refine (cc_ _).mono ?_
  rintro e w1 ⟨rfl, rfl⟩
  go_wp2
  go_ret
  exact ⟨by simp, g⟩
 cases bf
 ·go_enter Tryz.func35, Tryz.ntmps35
  go_wp2_with fail
  have k0 : (w.alloc (.cells #[.string s, .int .i64 cap, .int .i64 filt, .int .i64 err, .slice ao nn cc] 35)).cell? ⟨w.heap.size, 0, none⟩ = some (.string s) := by simp [go_sem]
  have k1 : (w.alloc (.cells #[.string s, .int .i64 cap, .int .i64 filt, .int .i64 err, .slice ao nn cc] 35)).cell? ⟨w.heap.size, 1, none⟩ = some (.int .i64 cap) := by simp [go_sem]
  have k2 : (w.alloc (.cells #[.string s, .int .i64 cap, .int .i64 filt, .int .i64 err, .slice ao nn cc] 35)).cell? ⟨w.heap.size, 2, none⟩ = some (.int .i64 filt) := by simp [go_sem]
  have k3 : (w.alloc (.cells #[.string s, .int .i64 cap, .int .i64 filt, .int .i64 err, .slice ao nn cc] 35)).cell? ⟨w.heap.size, 3, none⟩ = some (.int .i64 err) := by simp [go_sem]
  have k4 : (w.alloc (.cells #[.string s, .int .i64 cap, .int .i64 filt, .int .i64 err, .slice ao nn cc] 35)).cell? ⟨w.heap.size, 4, none⟩ = some (.slice ao nn cc) := by simp [go_sem]
  have hv := HV.out.keepB ((B.refl w).alloc #[.string s, .int .i64 cap, .int .i64 filt, .int .i64 err, .slice ao nn cc] 35)
  have g := (B.refl w).alloc #[.string s, .int .i64 cap, .int .i64 filt, .int .i64 err, .slice ao nn cc] 35
  generalize w.alloc (.cells #[.string s, .int .i64 cap, .int .i64 filt, .int .i64 err, .slice ao nn cc] 35) = W at *
  refine (cn _).mono ?_
  rintro e w1 ⟨rfl, rfl⟩
  go_wp2_with fail
  refine (cl _ hv).mono ?_
  rintro e w3 ⟨rfl, q⟩
  replace q := q.b
  replace k0 := q.keep k0
  replace k1 := q.keep k1
  replace k2 := q.keep k2
  replace k3 := q.keep k3
  replace k4 := q.keep k4
  replace hv := hv.keepB q
  replace g := g.trans q
  clear q
  go_wp2_with fail
  refine (cc_ _).mono ?_
  rintro e w1 ⟨rfl, rfl⟩
  go_wp2_with fail
  refine (cf _).mono ?_
  rintro e w1 ⟨rfl, rfl⟩
  go_wp2
  go_ret
  exact ⟨by simp, g⟩
 cases be
 ·go_enter Tryz.func35, Tryz.ntmps35
  go_wp2_with fail
  have k0 : (w.alloc (.cells #[.string s, .int .i64 cap, .int .i64 filt, .int .i64 err, .slice ao nn cc] 35)).cell? ⟨w.heap.size, 0, none⟩ = some (.string s) := by simp [go_sem]
  have k1 : (w.alloc (.cells #[.string s, .int .i64 cap, .int .i64 filt, .int .i64 err, .slice ao nn cc] 35)).cell? ⟨w.heap.size, 1, none⟩ = some (.int .i64 cap) := by simp [go_sem]
  have k2 : (w.alloc (.cells #[.string s, .int .i64 cap, .int .i64 filt, .int .i64 err, .slice ao nn cc] 35)).cell? ⟨w.heap.size, 2, none⟩ = some (.int .i64 filt) := by simp [go_sem]
  have k3 : (w.alloc (.cells #[.string s, .int .i64 cap, .int .i64 filt, .int .i64 err, .slice ao nn cc] 35)).cell? ⟨w.heap.size, 3, none⟩ = some (.int .i64 err) := by simp [go_sem]
  have k4 : (w.alloc (.cells #[.string s, .int .i64 cap, .int .i64 filt, .int .i64 err, .slice ao nn cc] 35)).cell? ⟨w.heap.size, 4, none⟩ = some (.slice ao nn cc) := by simp [go_sem]
  have hv := HV.out.keepB ((B.refl w).alloc #[.string s, .int .i64 cap, .int .i64 filt, .int .i64 err, .slice ao nn cc] 35)
  have g := (B.refl w).alloc #[.string s, .int .i64 cap, .int .i64 filt, .int .i64 err, .slice ao nn cc] 35
  generalize w.alloc (.cells #[.string s, .int .i64 cap, .int .i64 filt, .int .i64 err, .slice ao nn cc] 35) = W at *
  refine (cn _).mono ?_
  rintro e w1 ⟨rfl, rfl⟩
  go_wp2_with fail
  refine (cl _ hv).mono ?_
  rintro e w3 ⟨rfl, q⟩
  replace q := q.b
  replace k0 := q.keep k0
  replace k1 := q.keep k1
  replace k2 := q.keep k2
  replace k3 := q.keep k3
  replace k4 := q.keep k4
  replace hv := hv.keepB q
  replace g := g.trans q
  clear q
  go_wp2_with fail
  refine (cc_ _).mono ?_
  rintro e w1 ⟨rfl, rfl⟩
  go_wp2_with fail
  refine (cf _).mono ?_
  rintro e w1 ⟨rfl, rfl⟩
  go_wp2_with fail
  refine (ce _).mono ?_
  rintro e w1 ⟨rfl, rfl⟩
  go_wp2
  go_ret
  exact ⟨by simp, g⟩
 ·go_enter Tryz.func35, Tryz.ntmps35
  go_wp2_with fail
  have k0 : (w.alloc (.cells #[.string s, .int .i64 cap, .int .i64 filt, .int .i64 err, .slice ao nn cc] 35)).cell? ⟨w.heap.size, 0, none⟩ = some (.string s) := by simp [go_sem]
  have k1 : (w.alloc (.cells #[.string s, .int .i64 cap, .int .i64 filt, .int .i64 err, .slice ao nn cc] 35)).cell? ⟨w.heap.size, 1, none⟩ = some (.int .i64 cap) := by simp [go_sem]
  have k2 : (w.alloc (.cells #[.string s, .int .i64 cap, .int .i64 filt, .int .i64 err, .slice ao nn cc] 35)).cell? ⟨w.heap.size, 2, none⟩ = some (.int .i64 filt) := by simp [go_sem]
  have k3 : (w.alloc (.cells #[.string s, .int .i64 cap, .int .i64 filt, .int .i64 err, .slice ao nn cc] 35)).cell? ⟨w.heap.size, 3, none⟩ = some (.int .i64 err) := by simp [go_sem]
  have k4 : (w.alloc (.cells #[.string s, .int .i64 cap, .int .i64 filt, .int .i64 err, .slice ao nn cc] 35)).cell? ⟨w.heap.size, 4, none⟩ = some (.slice ao nn cc) := by simp [go_sem]
  have hv := HV.out.keepB ((B.refl w).alloc #[.string s, .int .i64 cap, .int .i64 filt, .int .i64 err, .slice ao nn cc] 35)
  have g := (B.refl w).alloc #[.string s, .int .i64 cap, .int .i64 filt, .int .i64 err, .slice ao nn cc] 35
  generalize w.alloc (.cells #[.string s, .int .i64 cap, .int .i64 filt, .int .i64 err, .slice ao nn cc] 35) = W at *
  refine (cn _).mono ?_
  rintro e w1 ⟨rfl, rfl⟩
  go_wp2_with fail
  refine (cl _ hv).mono ?_
  rintro e w3 ⟨rfl, q⟩
  replace q := q.b
  replace k0 := q.keep k0
  replace k1 := q.keep k1
  replace k2 := q.keep k2
  replace k3 := q.keep k3
  replace k4 := q.keep k4
  replace hv := hv.keepB q
  replace g := g.trans q
  clear q
  go_wp2_with fail
  refine (cc_ _).mono ?_
  rintro e w1 ⟨rfl, rfl⟩
  go_wp2_with fail
  refine (cf _).mono ?_
  rintro e w1 ⟨rfl, rfl⟩
  go_wp2_with fail
  refine (ce _).mono ?_
  rintro e w1 ⟨rfl, rfl⟩
  go_wp2
  go_ret
  exact ⟨by simp, g⟩
end Go.Proofs.YtglniapfnhedoaaGreatDoor
namespace Go.Proofs.YtglniapfnhedoaaGreatDoor
open Go.RowKit
def boundS (s : Sec) : Bool := inB s.a0 0 20000 && inB s.b0 0 20000 && inB s.a1 0 20000 && inB s.b1 0 20000
def sideNo (s : Sec) (k : Nat) : Int := [s.a0, s.b0, s.a1, s.b1].getD k 0
theorem inB_ways (x : Int) : (inB x 0 20000 = true ∧ decide (x < 0) = false ∧ decide (20000 < x) = false) ∨ (inB x 0 20000 = false ∧ decide (x < 0) = true) ∨ (inB x 0 20000 = false ∧ decide (x < 0) = false ∧ decide (20000 < x) = true) := by
 unfold inB
 by_cases h1 : x < 0
 ·exact .inr (.inl ⟨by simp; omega, decide_eq_true h1⟩)
 ·by_cases h2 : 20000 < x
  ·exact .inr (.inr ⟨by simp; omega, decide_eq_false h1, decide_eq_true h2⟩)
  ·exact .inl ⟨by simp; omega, decide_eq_false h1, decide_eq_false h2⟩
theorem boundS_no (s : Sec) (k : Nat) (hk : k < 4) (h : inB (sideNo s k) 0 20000 = false) : boundS s = false := by
 unfold boundS
 match k, hk with
 | 0, _ => have h' : inB s.a0 0 20000 = false := h; rw [h']; simp
 | 1, _ => have h' : inB s.b0 0 20000 = false := h; rw [h']; simp
 | 2, _ => have h' : inB s.a1 0 20000 = false := h; rw [h']; simp
 | 3, _ => have h' : inB s.b1 0 20000 = false := h; rw [h']; simp
theorem boundS_yes (s : Sec) (h : ∀ j, j < 4 → inB (sideNo s j) 0 20000 = true) : boundS s = true := by
 unfold boundS
 have h0 : inB s.a0 0 20000 = true := h 0 (by omega)
 have h1 : inB s.b0 0 20000 = true := h 1 (by omega)
 have h2 : inB s.a1 0 20000 = true := h 2 (by omega)
 have h3 : inB s.b1 0 20000 = true := h 3 (by omega)
 rw [h0, h1, h2, h3]; rfl
theorem arr4_get (x : Nat → Int) (k : Nat) (hk : k < 4) (w : World) : (Instr.index 141 (Value.agg #[.int .i64 (x 0), .int .i64 (x 1), .int .i64 (x 2), .int .i64 (x 3)]) (Value.int .i64 (k : Int))).run Tryz.prog w = .ok (.int .i64 (x k)) w := by
 have hu : Tryz.prog.underlying 141 = some (.array 4 2) := by kernel_rfl
 match k, hk with
 | 0, _ => simp [Instr.index, run_underlying hu, asIntOf, part, go_sem]
 | 1, _ => simp [Instr.index, run_underlying hu, asIntOf, part, go_sem]
 | 2, _ => simp [Instr.index, run_underlying hu, asIntOf, part, go_sem]
 | 3, _ => simp [Instr.index, run_underlying hu, asIntOf, part, go_sem]
set_option maxHeartbeats 1000000 in
theorem bounded_any (r : Bool) (h a0 b0 a1 b1 : Int) (w : World) :
  Calls Tryz.prog 74 #[.agg #[.bool r, .int .i64 h, .int .i64 a0, .int .i64 b0, .int .i64 a1, .int .i64 b1]] w fun e w' => e = .returned (.bool (boundS ⟨r, h, a0, b0, a1, b1⟩)) ∧ Q w w' := by
 have hno := boundS_no ⟨r, h, a0, b0, a1, b1⟩
 have hyes := boundS_yes ⟨r, h, a0, b0, a1, b1⟩
 have hg := fun k hk w => arr4_get (sideNo ⟨r, h, a0, b0, a1, b1⟩) k hk w
 change ∀ k : Nat, k < 4 → ∀ w : World, (Instr.index 141 (Value.agg #[.int .i64 a0, .int .i64 b0, .int .i64 a1, .int .i64 b1]) (Value.int .i64 (k : Int))).run Tryz.prog w = .ok (.int .i64 (sideNo ⟨r, h, a0, b0, a1, b1⟩ k)) w at hg
 generalize hB : boundS ⟨r, h, a0, b0, a1, b1⟩ = B0 at *
 clear hB
 go_enter Tryz.func74, Tryz.ntmps74
 go_wp2
 have hq := (Q.refl w).alloc #[.bool r, .int .i64 h, .int .i64 a0, .int .i64 b0, .int .i64 a1, .int .i64 b1] 37
 generalize w.alloc _ = W1 at *
 go_loop [14] (fun i => ∃ k : Nat, k ≤ 4 ∧ i = .int .i64 k ∧ ∀ j, j < k → inB (sideNo ⟨r, h, a0, b0, a1, b1⟩ j) 0 20000 = true) (fun i => 4 - (intOf i).toNat)
 case atStart => exact ⟨0, Nat.zero_le _, rfl, fun j hj => absurd hj (by omega)⟩
 case round =>
  obtain ⟨k, hk, rfl, hall⟩ := hrel
  by_cases hl : k < 4
  ·have hlB : decide ((k : Int) < 4) = true := decide_eq_true (by omega)
   have ho := hno k hl
   have hx := hg k hl
   have hw := inB_ways (sideNo ⟨r, h, a0, b0, a1, b1⟩ k)
   have hn : inB (sideNo ⟨r, h, a0, b0, a1, b1⟩ k) 0 20000 = true → ∀ j, j < k + 1 → inB (sideNo ⟨r, h, a0, b0, a1, b1⟩ j) 0 20000 = true := fun hk j hj => by
    by_cases e : j = k
    ·rw [e]; exact hk
    ·exact hall j (by omega)
   clear hall hno hyes hg
   rcases hw with ⟨e0, e1, e2⟩ | ⟨e0, e1⟩ | ⟨e0, e1, e2⟩
   ·have HN := Lib.hid (hn e0)
    clear hn ho
    go_wp2
    go_round
    case rel => exact ⟨k + 1, by omega, by go_num, HN.out⟩
    case measure => simp [intOf]; omega
   ·have HO := Lib.hid (ho e0)
    clear hn ho
    go_wp2
    go_ret
    exact ⟨by rw [HO.out]; rfl, hq⟩
   ·have HO := Lib.hid (ho e0)
    clear hn ho
    go_wp2
    go_ret
    exact ⟨by rw [HO.out]; rfl, hq⟩
  ·have hlB : decide ((k : Int) < 4) = false := decide_eq_false (by omega)
   obtain rfl : k = 4 := by omega
   have HY := Lib.hid (hyes hall)
   clear hno hyes hg hall
   go_wp2
   go_ret
   exact ⟨by rw [HY.out]; rfl, hq⟩
end Go.Proofs.YtglniapfnhedoaaGreatDoor
namespace Go.Proofs.YtglniapfnhedoaaGreatDoor
open Go.RowKit
def RightC : Prop := ∀ (v : Value) (l : List Sec) (w : World), IsSecs w v l → Calls Tryz.prog 27 #[v] w fun e w' => e = .returned (.bool (rightS l)) ∧ B w w'
def soundS (s : Sec) : Bool := boundS s && (s.a1 != 0) && (if s.r then (s.b0 == 0) && (s.b1 == 0) else decide (0 < s.b1))
set_option maxHeartbeats 1000000 in
theorem sound_any (r : Bool) (h a0 b0 a1 b1 : Int) (w : World) :
  Calls Tryz.prog 57 #[.agg #[.bool r, .int .i64 h, .int .i64 a0, .int .i64 b0, .int .i64 a1, .int .i64 b1]] w fun e w' => e = .returned (.bool (soundS ⟨r, h, a0, b0, a1, b1⟩)) ∧ Q w w' := by
 have cB := fun w => bounded_any r h a0 b0 a1 b1 w
 have hS : soundS ⟨r, h, a0, b0, a1, b1⟩ = (boundS ⟨r, h, a0, b0, a1, b1⟩ && (a1 != 0) && (if r then (b0 == 0) && (b1 == 0) else decide (0 < b1))) := rfl
 generalize boundS ⟨r, h, a0, b0, a1, b1⟩ = B0 at *
 rw [hS]
 clear hS
 have hA : ((a1 == 0) = true ∧ (a1 != 0) = false) ∨ ((a1 == 0) = false ∧ (a1 != 0) = true) := by by_cases a1 = 0 <;> simp [*]
 have hZ : (b0 == 0) = true ∨ (b0 == 0) = false := by cases (b0 == 0) <;> simp
 cases B0
 ·simp only [Bool.false_and]
  go_enter Tryz.func57, Tryz.ntmps57
  go_wp2_with fail
  refine (cB _).mono ?_
  rintro e w1 ⟨rfl, g⟩
  replace g := ((Q.refl w).alloc _ _).trans g
  go_wp2
  go_ret
  exact ⟨rfl, g⟩
 rcases hA with ⟨a2, a3⟩ | ⟨a2, a3⟩
 ·rw [a3]
  simp only [Bool.false_and, Bool.and_false]
  go_enter Tryz.func57, Tryz.ntmps57
  go_wp2_with fail
  refine (cB _).mono ?_
  rintro e w1 ⟨rfl, g⟩
  have z4 := g.keep (p := ⟨w.heap.size, 4, none⟩) (v := .int .i64 a1) (by simp [go_sem])
  replace g := ((Q.refl w).alloc _ _).trans g
  go_wp2
  go_ret
  exact ⟨rfl, g⟩
 rw [a3]
 cases r
 ·go_enter Tryz.func57, Tryz.ntmps57
  go_wp2_with fail
  refine (cB _).mono ?_
  rintro e w1 ⟨rfl, g⟩
  have z0 := g.keep (p := ⟨w.heap.size, 0, none⟩) (v := .bool false) (by simp [go_sem])
  have z1 := g.keep (p := ⟨w.heap.size, 1, none⟩) (v := .int .i64 h) (by simp [go_sem])
  have z2 := g.keep (p := ⟨w.heap.size, 2, none⟩) (v := .int .i64 a0) (by simp [go_sem])
  have z3 := g.keep (p := ⟨w.heap.size, 3, none⟩) (v := .int .i64 b0) (by simp [go_sem])
  have z4 := g.keep (p := ⟨w.heap.size, 4, none⟩) (v := .int .i64 a1) (by simp [go_sem])
  have z5 := g.keep (p := ⟨w.heap.size, 5, none⟩) (v := .int .i64 b1) (by simp [go_sem])
  replace g := ((Q.refl w).alloc _ _).trans g
  go_wp2
  go_ret
  exact ⟨by simp, g⟩
 rcases hZ with hZ | hZ
 all_goals
  rw [hZ]
  go_enter Tryz.func57, Tryz.ntmps57
  go_wp2_with fail
  refine (cB _).mono ?_
  rintro e w1 ⟨rfl, g⟩
  have z0 := g.keep (p := ⟨w.heap.size, 0, none⟩) (v := .bool true) (by simp [go_sem])
  have z1 := g.keep (p := ⟨w.heap.size, 1, none⟩) (v := .int .i64 h) (by simp [go_sem])
  have z2 := g.keep (p := ⟨w.heap.size, 2, none⟩) (v := .int .i64 a0) (by simp [go_sem])
  have z3 := g.keep (p := ⟨w.heap.size, 3, none⟩) (v := .int .i64 b0) (by simp [go_sem])
  have z4 := g.keep (p := ⟨w.heap.size, 4, none⟩) (v := .int .i64 a1) (by simp [go_sem])
  have z5 := g.keep (p := ⟨w.heap.size, 5, none⟩) (v := .int .i64 b1) (by simp [go_sem])
  replace g := ((Q.refl w).alloc _ _).trans g
  go_wp2
  go_ret
  exact ⟨by simp, g⟩
theorem secOk_sound (s : Sec) (m : Int) (hm : s.h.tmod 100 = m) : secOk s = (!(decide (s.h < 1)) && !(decide (60000 < s.h)) && !(m != 0) && soundS s) := by
 rw [secOk_eq s m hm]
 have e : soundS s = (inB s.a0 0 20000 && inB s.a1 1 20000 && (if s.r then !(s.b0 != 0) && !(s.b1 != 0) else inB s.b0 0 20000 && inB s.b1 1 20000)) := by
  unfold soundS boundS inB
  cases hr : s.r
  ·rw [Bool.eq_iff_iff]
   simp
   omega
  ·rw [Bool.eq_iff_iff]
   simp
   omega
 rw [e]
 simp only [Bool.and_assoc]
theorem hsum_mono (l : List Sec) (hl : ∀ s ∈ l, 0 ≤ s.h) (j n : Nat) (hjn : j ≤ n) : hsumI l j ≤ hsumI l n := by
 induction n with
 | zero => obtain rfl : j = 0 := by omega
           omega
 | succ n ih =>
  by_cases e : j = n + 1
  ·subst e; omega
  ·have h1 := ih (by omega)
   cases hg : l[n]? with
   | none =>
    have e1 : l.take (n + 1) = l.take n := by rw [List.take_add_one, hg]; simp
    unfold hsumI at *
    rw [e1]; exact h1
   | some s =>
    have := hl s (List.mem_of_getElem? hg)
    rw [hsumI_succ l n s hg]
    omega
theorem rightS_over (l : List Sec) (k : Nat) (s : Sec) (h : l[k]? = some s) (ho : 60000 < hsumI l k + s.h) : rightS l = false := by
 cases e : rightS l
 ·rfl
 ·unfold rightS at e
  simp only [Bool.and_eq_true, decide_eq_true_eq, List.all_eq_true] at e
  obtain ⟨⟨_, ha⟩, hs⟩ := e
  have hk : k < l.length := by
   rw [List.getElem?_eq_some_iff] at h
   exact h.1
  have := hsum_mono l (fun s hs => by have := secOk_h s (ha s hs); omega) (k + 1) l.length (by omega)
  rw [hsumI_succ l k s h] at this
  omega
set_option maxRecDepth 100000 in
set_option maxHeartbeats 2000000 in
theorem right_row (a : Addr) (cap : Nat) (l : List Sec) (h2 : l.length ≤ cap) (h3 : cap ≤ maxLen) (w : World) (h4 : ∀ i s, l[i]? = some s → s.I ∧ SecAt w (a.add (i * 6)) s) :
  Calls Tryz.prog 27 #[.slice (some a) l.length cap] w fun e w' => e = .returned (.bool (rightS l)) ∧ Q w w' := by
 unfold maxLen at h3
 have h5 : l.length ≤ 2 ^ 63 - 1 := Nat.le_trans h2 h3
 clear h2 h3
 by_cases n1 : l.length < 1
 ·rw [rightS_short l n1]
  have n1B : decide ((l.length : Int) < 1) = true := decide_eq_true (by omega)
  clear h4
  go_enter Tryz.func27, Tryz.ntmps27
  go_wp2
  go_ret
  exact ⟨rfl, Q.refl w⟩
 have n1B : decide ((l.length : Int) < 1) = false := decide_eq_false (by omega)
 by_cases n2 : 4 < l.length
 ·rw [rightS_long l n2]
  have n2B : decide ((4 : Int) < (l.length : Int)) = true := decide_eq_true (by omega)
  clear h4
  go_enter Tryz.func27, Tryz.ntmps27
  go_wp2
  go_ret
  exact ⟨rfl, Q.refl w⟩
 have n2B : decide ((4 : Int) < (l.length : Int)) = false := decide_eq_false (by omega)
 go_enter Tryz.func27, Tryz.ntmps27
 go_wp2
 go_loopw [3, 16] (fun lf i wr => ∃ (k : Nat), k ≤ l.length ∧ i = .int .i64 k ∧ lf = .int .i64 (60000 - hsumI l k) ∧ 0 ≤ hsumI l k ∧ hsumI l k ≤ 60000 ∧ okTo l k = true ∧ Q w wr) (fun _ i _ => l.length - (intOf i).toNat)
 case atStart => exact ⟨0, Nat.zero_le _, rfl, rfl, by simp [hsumI], by simp [hsumI], rfl, Q.refl w⟩
 case round =>
  obtain ⟨k, hk, rfl, rfl, t1, t2, hok, hq⟩ := hrel
  by_cases hl : k < l.length
  ·have hlB : decide (k < l.length) = true := decide_eq_true hl
   have hg := List.getElem?_eq_getElem hl
   have hs := (h4 k _ hg).2.keep hq
   have hsu := hsumI_succ l k _ hg
   have hoku := okTo_succ l k _ hg hok
   have hbad := rightS_bad l k _ hg
   have hover := rightS_over l k _ hg
   clear h4 hok
   generalize l[k] = s at *
   generalize hsumI l k = t at *
   obtain ⟨r, h, a0, b0, a1, b1⟩ := s
   obtain ⟨f0, f1, f2, f3, f4, f5⟩ := hs
   obtain ⟨m, hm1⟩ : ∃ m, h.tmod 100 = m := ⟨_, rfl⟩
   have hsec := secOk_sound ⟨r, h, a0, b0, a1, b1⟩ m hm1
   have cS := fun w => sound_any r h a0 b0 a1 b1 w
   obtain ⟨lf, hlf⟩ : ∃ lf, 60000 - t = lf := ⟨_, rfl⟩
   rw [hlf]
   simp only at f0 f1 f2 f3 f4 f5 hsu hsec hover
   have HS := Lib.hid hsu
   have HM := Lib.hid hg
   clear hsu hg
   by_cases k1' : h < 1
   ·have k1 : decide (h < 1) = true := decide_eq_true k1'
    have HB := Lib.hid (hbad (by rw [hsec]; simp [k1]))
    clear hbad hsec hoku hover cS
    go_wp2
    go_ret
    exact ⟨by rw [HB.out]; rfl, hq.alloc _ _⟩
   have k1 : decide (h < 1) = false := decide_eq_false k1'
   by_cases k2' : lf < h
   ·have k2 : decide (lf < h) = true := decide_eq_true k2'
    have HB := Lib.hid (hover (by omega))
    clear hbad hsec hoku hover cS
    go_wp2
    go_ret
    exact ⟨by rw [HB.out]; rfl, hq.alloc _ _⟩
   have k2 : decide (lf < h) = false := decide_eq_false k2'
   have k2b : decide (60000 < h) = false := decide_eq_false (by omega)
   have k3 : (m != 0) = true ∨ (m != 0) = false := by cases (m != 0) <;> simp
   rcases k3 with k3 | k3
   ·have HB := Lib.hid (hbad (by rw [hsec]; simp [k1, k2b, k3]))
    clear hbad hsec hoku hover cS k2b
    go_wp2
    go_ret
    exact ⟨by rw [HB.out]; rfl, hq.alloc _ _⟩
   generalize soundS ⟨r, h, a0, b0, a1, b1⟩ = s0 at *
   cases s0
   ·have HB := Lib.hid (hbad (by rw [hsec]; simp))
    clear hbad hsec hoku hover k2b
    go_wp2_with fail
    refine (cS _).mono ?_
    rintro e w1 ⟨rfl, g⟩
    replace g := (hq.alloc _ _).trans g
    go_wp2
    go_ret
    exact ⟨by rw [HB.out]; rfl, g⟩
   ·have HO := Lib.hid (hoku (by rw [hsec]; simp [k1, k2b, k3]))
    have e1 : IntKind.i64.wrap (lf - h) = lf - h := wrapI (by omega) (by omega)
    clear hbad hsec hoku hover k2b
    go_wp2_with fail
    refine (cS _).mono ?_
    rintro e w1 ⟨rfl, g⟩
    have z1 := g.keep (p := ⟨wr.heap.size, 1, none⟩) (v := .int .i64 h) (by simp [go_sem])
    replace g := (hq.alloc _ _).trans g
    go_wp2
    go_roundw
    case rel => exact ⟨k + 1, by omega, by go_num, by rw [HS.out]; congr 1; omega, by rw [HS.out]; omega, by rw [HS.out]; omega, HO.out, g⟩
    case measure => simp [intOf]; omega
  ·have hlB : decide (k < l.length) = false := decide_eq_false hl
   obtain rfl : k = l.length := by omega
   have HE := Lib.hid ((rightS_end l (by omega) (by omega) hok).trans (decide_eq_true t2))
   clear h4 hok
   go_wp2
   go_ret
   exact ⟨by rw [HE.out]; rfl, hq⟩
theorem right_code : RightC := by
 intro v l w hv
 rcases hv with ⟨rfl, rfl⟩ | ⟨a, cap, rfl, h2, h3, h4⟩
 ·rw [rightS_short [] (by simp)]
  go_enter Tryz.func27, Tryz.ntmps27
  go_wp2
  go_ret
  exact ⟨rfl, B.refl w⟩
 ·exact (right_row a cap l h2 h3 w h4).mono fun _ _ h => ⟨h.1, h.2.b⟩
end Go.Proofs.YtglniapfnhedoaaGreatDoor
namespace Go.Proofs.YtglniapfnhedoaaGreatDoor
open Go.RowKit
theorem tin_any (v a b : Int) (w : World) :
  Calls Tryz.prog 58 #[.int .i64 v, .int .i64 a, .int .i64 b] w fun e w' => e = .returned (.bool (inB v a b)) ∧ w = w' := by
 unfold inB
 have hb : decide (a ≤ v) = true ∨ decide (a ≤ v) = false := by cases decide (a ≤ v) <;> simp
 rcases hb with hb | hb
 all_goals
  go_enter Tryz.func58, Tryz.ntmps58
  go_wp2
  go_ret
  exact ⟨by simp [hb], rfl⟩
theorem tipright_any (s : ByteArray) (cap filt err : Int) (v : Value) (l : List Sec) (w : World) (hv : IsSecs w v l) :
  Calls Tryz.prog 28 #[.agg #[.string s, .int .i64 cap, .int .i64 filt, .int .i64 err, v]] w fun e w' => e = .returned (.bool (tipB s cap filt err l)) ∧ B w w' := by
 obtain ⟨ao, nn, cc, rfl⟩ := hv.form
 have HV := Lib.hid hv
 clear hv
 have cl := fun w h => right_code (.slice ao nn cc) l w h
 have cc_ := fun w => tin_any cap 1 20000000 w
 have cf := fun w => tin_any filt 1 60000 w
 have ce := fun w => tin_any err 0 10000 w
 have cn := fun w => named_any s w
 unfold tipB
 have kc : ∀ w', B (w.alloc (.cells #[.string s, .int .i64 cap, .int .i64 filt, .int .i64 err, .slice ao nn cc] 35)) w' → B w w' := fun w' q => ((B.refl w).alloc _ _).trans q
 generalize rightS l = bl at *
 generalize inB cap 1 20000000 = bc at *
 generalize inB filt 1 60000 = bf at *
 generalize inB err 0 10000 = be at *
 generalize nameS s = bn at *
 cases bl
 ·go_enter Tryz.func28, Tryz.ntmps28
  go_wp2_with fail
  have k0 : (w.alloc (.cells #[.string s, .int .i64 cap, .int .i64 filt, .int .i64 err, .slice ao nn cc] 35)).cell? ⟨w.heap.size, 0, none⟩ = some (.string s) := by simp [go_sem]
  have k1 : (w.alloc (.cells #[.string s, .int .i64 cap, .int .i64 filt, .int .i64 err, .slice ao nn cc] 35)).cell? ⟨w.heap.size, 1, none⟩ = some (.int .i64 cap) := by simp [go_sem]
  have k2 : (w.alloc (.cells #[.string s, .int .i64 cap, .int .i64 filt, .int .i64 err, .slice ao nn cc] 35)).cell? ⟨w.heap.size, 2, none⟩ = some (.int .i64 filt) := by simp [go_sem]
  have k3 : (w.alloc (.cells #[.string s, .int .i64 cap, .int .i64 filt, .int .i64 err, .slice ao nn cc] 35)).cell? ⟨w.heap.size, 3, none⟩ = some (.int .i64 err) := by simp [go_sem]
  have k4 : (w.alloc (.cells #[.string s, .int .i64 cap, .int .i64 filt, .int .i64 err, .slice ao nn cc] 35)).cell? ⟨w.heap.size, 4, none⟩ = some (.slice ao nn cc) := by simp [go_sem]
  have hv := HV.out.keepB ((B.refl w).alloc #[.string s, .int .i64 cap, .int .i64 filt, .int .i64 err, .slice ao nn cc] 35)
  have g := (B.refl w).alloc #[.string s, .int .i64 cap, .int .i64 filt, .int .i64 err, .slice ao nn cc] 35
  generalize w.alloc (.cells #[.string s, .int .i64 cap, .int .i64 filt, .int .i64 err, .slice ao nn cc] 35) = W at *
  refine (cl _ hv).mono ?_
  rintro e w2 ⟨rfl, q⟩
  replace k0 := q.keep k0
  replace k1 := q.keep k1
  replace k2 := q.keep k2
  replace k3 := q.keep k3
  replace k4 := q.keep k4
  replace hv := hv.keepB q
  replace g := g.trans q
  clear q
  go_wp2
  go_ret
  exact ⟨by simp, g⟩
 cases bc
 ·go_enter Tryz.func28, Tryz.ntmps28
  go_wp2_with fail
  have k0 : (w.alloc (.cells #[.string s, .int .i64 cap, .int .i64 filt, .int .i64 err, .slice ao nn cc] 35)).cell? ⟨w.heap.size, 0, none⟩ = some (.string s) := by simp [go_sem]
  have k1 : (w.alloc (.cells #[.string s, .int .i64 cap, .int .i64 filt, .int .i64 err, .slice ao nn cc] 35)).cell? ⟨w.heap.size, 1, none⟩ = some (.int .i64 cap) := by simp [go_sem]
  have k2 : (w.alloc (.cells #[.string s, .int .i64 cap, .int .i64 filt, .int .i64 err, .slice ao nn cc] 35)).cell? ⟨w.heap.size, 2, none⟩ = some (.int .i64 filt) := by simp [go_sem]
  have k3 : (w.alloc (.cells #[.string s, .int .i64 cap, .int .i64 filt, .int .i64 err, .slice ao nn cc] 35)).cell? ⟨w.heap.size, 3, none⟩ = some (.int .i64 err) := by simp [go_sem]
  have k4 : (w.alloc (.cells #[.string s, .int .i64 cap, .int .i64 filt, .int .i64 err, .slice ao nn cc] 35)).cell? ⟨w.heap.size, 4, none⟩ = some (.slice ao nn cc) := by simp [go_sem]
  have hv := HV.out.keepB ((B.refl w).alloc #[.string s, .int .i64 cap, .int .i64 filt, .int .i64 err, .slice ao nn cc] 35)
  have g := (B.refl w).alloc #[.string s, .int .i64 cap, .int .i64 filt, .int .i64 err, .slice ao nn cc] 35
  generalize w.alloc (.cells #[.string s, .int .i64 cap, .int .i64 filt, .int .i64 err, .slice ao nn cc] 35) = W at *
  refine (cl _ hv).mono ?_
  rintro e w2 ⟨rfl, q⟩
  replace k0 := q.keep k0
  replace k1 := q.keep k1
  replace k2 := q.keep k2
  replace k3 := q.keep k3
  replace k4 := q.keep k4
  replace hv := hv.keepB q
  replace g := g.trans q
  clear q
  go_wp2_with fail
  refine (cc_ _).mono ?_
  rintro e w1 ⟨rfl, rfl⟩
  go_wp2
  go_ret
  exact ⟨by simp, g⟩
 cases bf
 ·go_enter Tryz.func28, Tryz.ntmps28
  go_wp2_with fail
  have k0 : (w.alloc (.cells #[.string s, .int .i64 cap, .int .i64 filt, .int .i64 err, .slice ao nn cc] 35)).cell? ⟨w.heap.size, 0, none⟩ = some (.string s) := by simp [go_sem]
  have k1 : (w.alloc (.cells #[.string s, .int .i64 cap, .int .i64 filt, .int .i64 err, .slice ao nn cc] 35)).cell? ⟨w.heap.size, 1, none⟩ = some (.int .i64 cap) := by simp [go_sem]
  have k2 : (w.alloc (.cells #[.string s, .int .i64 cap, .int .i64 filt, .int .i64 err, .slice ao nn cc] 35)).cell? ⟨w.heap.size, 2, none⟩ = some (.int .i64 filt) := by simp [go_sem]
  have k3 : (w.alloc (.cells #[.string s, .int .i64 cap, .int .i64 filt, .int .i64 err, .slice ao nn cc] 35)).cell? ⟨w.heap.size, 3, none⟩ = some (.int .i64 err) := by simp [go_sem]
  have k4 : (w.alloc (.cells #[.string s, .int .i64 cap, .int .i64 filt, .int .i64 err, .slice ao nn cc] 35)).cell? ⟨w.heap.size, 4, none⟩ = some (.slice ao nn cc) := by simp [go_sem]
  have hv := HV.out.keepB ((B.refl w).alloc #[.string s, .int .i64 cap, .int .i64 filt, .int .i64 err, .slice ao nn cc] 35)
  have g := (B.refl w).alloc #[.string s, .int .i64 cap, .int .i64 filt, .int .i64 err, .slice ao nn cc] 35
  generalize w.alloc (.cells #[.string s, .int .i64 cap, .int .i64 filt, .int .i64 err, .slice ao nn cc] 35) = W at *
  refine (cl _ hv).mono ?_
  rintro e w2 ⟨rfl, q⟩
  replace k0 := q.keep k0
  replace k1 := q.keep k1
  replace k2 := q.keep k2
  replace k3 := q.keep k3
  replace k4 := q.keep k4
  replace hv := hv.keepB q
  replace g := g.trans q
  clear q
  go_wp2_with fail
  refine (cc_ _).mono ?_
  rintro e w1 ⟨rfl, rfl⟩
  go_wp2_with fail
  refine (cf _).mono ?_
  rintro e w1 ⟨rfl, rfl⟩
  go_wp2
  go_ret
  exact ⟨by simp, g⟩
 cases be
 ·go_enter Tryz.func28, Tryz.ntmps28
  go_wp2_with fail
  have k0 : (w.alloc (.cells #[.string s, .int .i64 cap, .int .i64 filt, .int .i64 err, .slice ao nn cc] 35)).cell? ⟨w.heap.size, 0, none⟩ = some (.string s) := by simp [go_sem]
  have k1 : (w.alloc (.cells #[.string s, .int .i64 cap, .int .i64 filt, .int .i64 err, .slice ao nn cc] 35)).cell? ⟨w.heap.size, 1, none⟩ = some (.int .i64 cap) := by simp [go_sem]
  have k2 : (w.alloc (.cells #[.string s, .int .i64 cap, .int .i64 filt, .int .i64 err, .slice ao nn cc] 35)).cell? ⟨w.heap.size, 2, none⟩ = some (.int .i64 filt) := by simp [go_sem]
  have k3 : (w.alloc (.cells #[.string s, .int .i64 cap, .int .i64 filt, .int .i64 err, .slice ao nn cc] 35)).cell? ⟨w.heap.size, 3, none⟩ = some (.int .i64 err) := by simp [go_sem]
  have k4 : (w.alloc (.cells #[.string s, .int .i64 cap, .int .i64 filt, .int .i64 err, .slice ao nn cc] 35)).cell? ⟨w.heap.size, 4, none⟩ = some (.slice ao nn cc) := by simp [go_sem]
  have hv := HV.out.keepB ((B.refl w).alloc #[.string s, .int .i64 cap, .int .i64 filt, .int .i64 err, .slice ao nn cc] 35)
  have g := (B.refl w).alloc #[.string s, .int .i64 cap, .int .i64 filt, .int .i64 err, .slice ao nn cc] 35
  generalize w.alloc (.cells #[.string s, .int .i64 cap, .int .i64 filt, .int .i64 err, .slice ao nn cc] 35) = W at *
  refine (cl _ hv).mono ?_
  rintro e w2 ⟨rfl, q⟩
  replace k0 := q.keep k0
  replace k1 := q.keep k1
  replace k2 := q.keep k2
  replace k3 := q.keep k3
  replace k4 := q.keep k4
  replace hv := hv.keepB q
  replace g := g.trans q
  clear q
  go_wp2_with fail
  refine (cc_ _).mono ?_
  rintro e w1 ⟨rfl, rfl⟩
  go_wp2_with fail
  refine (cf _).mono ?_
  rintro e w1 ⟨rfl, rfl⟩
  go_wp2_with fail
  refine (ce _).mono ?_
  rintro e w1 ⟨rfl, rfl⟩
  go_wp2
  go_ret
  exact ⟨by simp, g⟩
 cases bn
 ·go_enter Tryz.func28, Tryz.ntmps28
  go_wp2_with fail
  have k0 : (w.alloc (.cells #[.string s, .int .i64 cap, .int .i64 filt, .int .i64 err, .slice ao nn cc] 35)).cell? ⟨w.heap.size, 0, none⟩ = some (.string s) := by simp [go_sem]
  have k1 : (w.alloc (.cells #[.string s, .int .i64 cap, .int .i64 filt, .int .i64 err, .slice ao nn cc] 35)).cell? ⟨w.heap.size, 1, none⟩ = some (.int .i64 cap) := by simp [go_sem]
  have k2 : (w.alloc (.cells #[.string s, .int .i64 cap, .int .i64 filt, .int .i64 err, .slice ao nn cc] 35)).cell? ⟨w.heap.size, 2, none⟩ = some (.int .i64 filt) := by simp [go_sem]
  have k3 : (w.alloc (.cells #[.string s, .int .i64 cap, .int .i64 filt, .int .i64 err, .slice ao nn cc] 35)).cell? ⟨w.heap.size, 3, none⟩ = some (.int .i64 err) := by simp [go_sem]
  have k4 : (w.alloc (.cells #[.string s, .int .i64 cap, .int .i64 filt, .int .i64 err, .slice ao nn cc] 35)).cell? ⟨w.heap.size, 4, none⟩ = some (.slice ao nn cc) := by simp [go_sem]
  have hv := HV.out.keepB ((B.refl w).alloc #[.string s, .int .i64 cap, .int .i64 filt, .int .i64 err, .slice ao nn cc] 35)
  have g := (B.refl w).alloc #[.string s, .int .i64 cap, .int .i64 filt, .int .i64 err, .slice ao nn cc] 35
  generalize w.alloc (.cells #[.string s, .int .i64 cap, .int .i64 filt, .int .i64 err, .slice ao nn cc] 35) = W at *
  refine (cl _ hv).mono ?_
  rintro e w2 ⟨rfl, q⟩
  replace k0 := q.keep k0
  replace k1 := q.keep k1
  replace k2 := q.keep k2
  replace k3 := q.keep k3
  replace k4 := q.keep k4
  replace hv := hv.keepB q
  replace g := g.trans q
  clear q
  go_wp2_with fail
  refine (cc_ _).mono ?_
  rintro e w1 ⟨rfl, rfl⟩
  go_wp2_with fail
  refine (cf _).mono ?_
  rintro e w1 ⟨rfl, rfl⟩
  go_wp2_with fail
  refine (ce _).mono ?_
  rintro e w1 ⟨rfl, rfl⟩
  go_wp2_with fail
  refine (cn _).mono ?_
  rintro e w6 ⟨rfl, q⟩
  replace k0 := q.keep k0
  replace k1 := q.keep k1
  replace k2 := q.keep k2
  replace k3 := q.keep k3
  replace k4 := q.keep k4
  replace hv := hv.keepB q
  replace g := g.trans q
  clear q
  go_wp2
  go_ret
  exact ⟨by simp, g⟩
 ·go_enter Tryz.func28, Tryz.ntmps28
  go_wp2_with fail
  have k0 : (w.alloc (.cells #[.string s, .int .i64 cap, .int .i64 filt, .int .i64 err, .slice ao nn cc] 35)).cell? ⟨w.heap.size, 0, none⟩ = some (.string s) := by simp [go_sem]
  have k1 : (w.alloc (.cells #[.string s, .int .i64 cap, .int .i64 filt, .int .i64 err, .slice ao nn cc] 35)).cell? ⟨w.heap.size, 1, none⟩ = some (.int .i64 cap) := by simp [go_sem]
  have k2 : (w.alloc (.cells #[.string s, .int .i64 cap, .int .i64 filt, .int .i64 err, .slice ao nn cc] 35)).cell? ⟨w.heap.size, 2, none⟩ = some (.int .i64 filt) := by simp [go_sem]
  have k3 : (w.alloc (.cells #[.string s, .int .i64 cap, .int .i64 filt, .int .i64 err, .slice ao nn cc] 35)).cell? ⟨w.heap.size, 3, none⟩ = some (.int .i64 err) := by simp [go_sem]
  have k4 : (w.alloc (.cells #[.string s, .int .i64 cap, .int .i64 filt, .int .i64 err, .slice ao nn cc] 35)).cell? ⟨w.heap.size, 4, none⟩ = some (.slice ao nn cc) := by simp [go_sem]
  have hv := HV.out.keepB ((B.refl w).alloc #[.string s, .int .i64 cap, .int .i64 filt, .int .i64 err, .slice ao nn cc] 35)
  have g := (B.refl w).alloc #[.string s, .int .i64 cap, .int .i64 filt, .int .i64 err, .slice ao nn cc] 35
  generalize w.alloc (.cells #[.string s, .int .i64 cap, .int .i64 filt, .int .i64 err, .slice ao nn cc] 35) = W at *
  refine (cl _ hv).mono ?_
  rintro e w2 ⟨rfl, q⟩
  replace k0 := q.keep k0
  replace k1 := q.keep k1
  replace k2 := q.keep k2
  replace k3 := q.keep k3
  replace k4 := q.keep k4
  replace hv := hv.keepB q
  replace g := g.trans q
  clear q
  go_wp2_with fail
  refine (cc_ _).mono ?_
  rintro e w1 ⟨rfl, rfl⟩
  go_wp2_with fail
  refine (cf _).mono ?_
  rintro e w1 ⟨rfl, rfl⟩
  go_wp2_with fail
  refine (ce _).mono ?_
  rintro e w1 ⟨rfl, rfl⟩
  go_wp2_with fail
  refine (cn _).mono ?_
  rintro e w6 ⟨rfl, q⟩
  replace k0 := q.keep k0
  replace k1 := q.keep k1
  replace k2 := q.keep k2
  replace k3 := q.keep k3
  replace k4 := q.keep k4
  replace hv := hv.keepB q
  replace g := g.trans q
  clear q
  go_wp2
  go_ret
  exact ⟨by simp, g⟩
end Go.Proofs.YtglniapfnhedoaaGreatDoor
namespace Go.Proofs.YtglniapfnhedoaaGreatDoor
open Go.RowKit
theorem wpSeq_pass {P : Program} {ops : Array Oper} {Q : Exit → Act → World → Prop} {S : World → Prop} {l : List (Nat × Nat)} {t : List Value} {df : List _} {w : World} {i d : Nat} {o : Oper}
  (ho : ops.toList[i]? = some o) (hd : o.dst = some d) (hw : Region.wanted o (yielded ops t.toArray) = false)
  (h : wpSeq P ops Q S l { tmps := (t.set d undef).toArray, defers := df } w) : wpSeq P ops Q S ((i, 1) :: l) { tmps := t.toArray, defers := df } w := by
 refine ⟨o, by rw [← Array.getElem?_toList]; exact ho, ?_⟩
 rw [if_neg (by decide), if_pos rfl]
 refine ⟨hw, ?_⟩
 have e : Act.put { tmps := t.toArray, defers := df } o.dst undef = { tmps := (t.set d undef).toArray, defers := df } := by
  rw [hd]; simp [Act.put]
 rw [e]
 exact h
end Go.Proofs.YtglniapfnhedoaaGreatDoor
namespace Go.Proofs.YtglniapfnhedoaaGreatDoor
open Go.RowKit
set_option maxHeartbeats 2000000 in
theorem r8index_any (wv tv fv : Value) (d : Dk) (n : ByteArray) (r c : Int) (w : World) (h : IsDk w wv tv fv d) (hb : ∀ x ∈ d.ws, wareB x) (h100 : d.ws.length ≤ 100) : Calls Tryz.prog 37 #[.agg #[wv, tv, fv], .agg #[.string n, .int .i64 r, .int .i64 c]] w fun e w' => e = .returned (.tuple #[.int .i64 ((indexW d.ws 0 n r c).getD 0), .bool (hasW d.ws n r c)]) ∧ Q w w' := by
 obtain ⟨ao, ac, bo, bc, co, cc, rfl, rfl, rfl⟩ := h.forms
 have hQ := ((Q.refl w).alloc #[.slice ao d.ws.length ac, .slice bo d.ts.length bc, .slice co d.fs.length cc] 26).alloc #[.string n, .int .i64 r, .int .i64 c] 39
 have hR := h.ws.keepB hQ.b
 obtain ⟨W, hW⟩ : ∃ W, (w.alloc (.cells #[.slice ao d.ws.length ac, .slice bo d.ts.length bc, .slice co d.fs.length cc] 26)).alloc (.cells #[.string n, .int .i64 r, .int .i64 c] 39) = W := ⟨_, rfl⟩
 have k0 : W.cell? ⟨w.heap.size, 0, none⟩ = some (.slice ao d.ws.length ac) := by rw [← hW]; exact ((Q.refl _).alloc _ _).keep (by rw [World.cell?_alloc_new]; rfl)
 have e1 : (w.alloc (.cells #[.slice ao d.ws.length ac, .slice bo d.ts.length bc, .slice co d.fs.length cc] 26)).heap.size = w.heap.size + 1 := by simp
 have k1 : W.cell? ⟨w.heap.size + 1, 0, none⟩ = some (.string n) := by rw [← hW, ← e1, World.cell?_alloc_new]; rfl
 have k2 : W.cell? ⟨w.heap.size + 1, 1, none⟩ = some (.int .i64 r) := by rw [← hW, ← e1, World.cell?_alloc_new]; rfl
 have k3 : W.cell? ⟨w.heap.size + 1, 2, none⟩ = some (.int .i64 c) := by rw [← hW, ← e1, World.cell?_alloc_new]; rfl
 rw [hW] at hR hQ
 replace hQ := Lib.hid hQ
 clear h e1
 unfold hasW
 obtain ⟨R, hRR⟩ : ∃ R, indexW d.ws 0 n r c = R := ⟨_, rfl⟩
 rw [hRR]
 go_enter Tryz.func37, Tryz.ntmps37
 go_wp2
 try rw [hW]
 clear hW
 generalize w.heap.size = H at *
 go_loopw [6, 7] (fun nv iv wr => ∃ (i : Nat) (K : Int), i ≤ d.ws.length ∧ iv = .int .i64 i ∧ nv = .int .i64 K ∧ 0 ≤ K ∧ K ≤ 96 * (i : Int) ∧ R = indexW (d.ws.drop i) K n r c ∧ Q W wr) (fun _ iv _ => d.ws.length + 1 - (intOf iv).toNat)
 case atStart => exact ⟨0, 0, Nat.zero_le _, rfl, rfl, by omega, by omega, hRR.symm, Q.refl _⟩
 case round =>
  obtain ⟨i, K, hi, rfl, rfl, hK0, hK1, hRi, hQi⟩ := hrel
  obtain ⟨wo, rfl⟩ : ∃ wo : World, wo = wr := ⟨_, rfl⟩
  clear hRR
  replace k0 := hQi.keep k0
  replace k1 := hQi.keep k1
  replace k2 := hQi.keep k2
  replace k3 := hQi.keep k3
  by_cases hl : i < d.ws.length
  ·have hlB : decide ((i : Int) < (d.ws.length : Int)) = true := decide_eq_true (by omega)
   have hlI : (i : Int) < (d.ws.length : Int) := by omega
   have hi0 : (0 : Int) ≤ (i : Int) := by omega
   have wk1 : IntKind.i64.wrap ((i : Int) + 1) = (i : Int) + 1 := by rw [IntKind.wrap_i64]; omega
   obtain ⟨a, cap, e1, _, _, hr⟩ := (hR.keepB hQi.b).at_ hl
   obtain ⟨rfl, _, rfl⟩ : ao = some a ∧ True ∧ ac = cap := by simpa using e1
   have hbi := hb _ (List.getElem_mem hl)
   rw [index_cons hl] at hRi
   obtain ⟨F, hF⟩ : ∃ F, d.ws[i] = F := ⟨_, rfl⟩
   rw [hF] at hr hRi hbi
   obtain ⟨b1, b2, b3, b4⟩ := hbi
   obtain ⟨g1, g2, g3, g4, sv, g5, g6⟩ := hr
   obtain ⟨so, sc, rfl⟩ := secs_form g6
   obtain ⟨sn, hsn⟩ : ∃ sn, F.l.length = sn := ⟨_, rfl⟩
   rw [hsn] at g5 g6
   clear hsn
   obtain ⟨N, X, Y, Z, SL⟩ := F
   simp only at g1 g2 g3 g4 g5 hRi b1 b2 b3 b4
   have q1 := (Q.refl wo).alloc #[.string N, .int .i64 X, .int .i64 Y, .int .i64 Z, .slice so sn sc] 33
   have m0 := q1.keep k0
   have m1 := q1.keep k1
   have m2 := q1.keep k2
   have m3 := q1.keep k3
   have hs := World.block_lt_of_cell? _ _ k1
   have HQ := Lib.hid (hQi.trans q1)
   have HL := Lib.hid hl
   obtain ⟨W1, hW1⟩ : ∃ W1, wo.alloc (.cells #[.string N, .int .i64 X, .int .i64 Y, .int .i64 Z, .slice so sn sc] 33) = W1 := ⟨_, rfl⟩
   have p0 : W1.cell? ⟨wo.heap.size, 0, none⟩ = some (.string N) := by rw [← hW1, World.cell?_alloc_new]; rfl
   have p1 : W1.cell? ⟨wo.heap.size, 1, none⟩ = some (.int .i64 X) := by rw [← hW1, World.cell?_alloc_new]; rfl
   have p2 : W1.cell? ⟨wo.heap.size, 2, none⟩ = some (.int .i64 Y) := by rw [← hW1, World.cell?_alloc_new]; rfl
   rw [hW1] at m0 m1 m2 m3 HQ
   clear hR hF e1 g6 q1 hs hQi hb hi
   cases hc : (N.toList == n.toList)
   ·rw [hc, if_neg (by decide)] at hRi
    have hxy := mul_small (a := X) (b := Y) (by omega) b2 (by omega) b4
    obtain ⟨P, hP⟩ : ∃ P, X * Y = P := ⟨_, rfl⟩
    rw [hP] at hxy hRi
    obtain ⟨K', hK'⟩ : ∃ K', K + P = K' := ⟨_, rfl⟩
    rw [hK'] at hRi
    have w1 : IntKind.i64.wrap (X * Y) = P := by rw [hP, IntKind.wrap_i64]; omega
    have w2 : IntKind.i64.wrap (K + P) = K' := by rw [hK', IntKind.wrap_i64]; omega
    have HS := Lib.hid (And.intro hRi (show 0 ≤ K' ∧ K' ≤ 96 * ((i : Int) + 1) by omega))
    clear hRi hxy hP hK' hK0 hK1 hl b1 b2 b3 b4
    go_wp2
    try rw [hW1]
    go_roundw
    case rel => exact ⟨i + 1, K', by have := HL.out; omega, by go_num, rfl, HS.out.2.1, by have := HS.out.2.2; omega, HS.out.1, HQ.out⟩
    case measure => have := HL.out; simp [intOf]; omega
   ·rw [hc, if_pos rfl] at hRi
    by_cases r0 : 0 ≤ r
    ·have r0B : decide (r < 0) = false := decide_eq_false (by omega)
     by_cases r1 : r < X
     ·have r1B : decide (X ≤ r) = false := decide_eq_false (by omega)
      by_cases c0 : 0 ≤ c
      ·have c0B : decide (c < 0) = false := decide_eq_false (by omega)
       by_cases c1 : c < Y
       ·have c1B : decide (Y ≤ c) = false := decide_eq_false (by omega)
        rw [if_pos ⟨r0, r1, c0, c1⟩] at hRi
        have hxy := mul_small (a := r) (b := Y) r0 (by omega) (by omega) b4
        obtain ⟨P, hP⟩ : ∃ P, r * Y = P := ⟨_, rfl⟩
        rw [hP] at hxy hRi
        have w1 : IntKind.i64.wrap (r * Y) = P := by rw [hP, IntKind.wrap_i64]; omega
        obtain ⟨K1, hK1'⟩ : ∃ K1, K + P = K1 := ⟨_, rfl⟩
        obtain ⟨K2, hK2⟩ : ∃ K2, K1 + c = K2 := ⟨_, rfl⟩
        have w2 : IntKind.i64.wrap (K + P) = K1 := by rw [hK1', IntKind.wrap_i64]; omega
        have w3 : IntKind.i64.wrap (K1 + c) = K2 := by rw [hK2, IntKind.wrap_i64]; omega
        have e2 : K + (P + c) = K2 := by omega
        rw [e2] at hRi
        subst hRi
        clear hP hxy hK1' hK2 e2 hK0 hK1 b1 b2 b3 b4 r0 r1 c0 c1 hl
        go_wp2
        try rw [hW1]
        go_ret2
        exact ⟨rfl, hQ.out.trans HQ.out⟩
       ·have c1B : decide (Y ≤ c) = true := decide_eq_true (by omega)
        rw [if_neg (by omega)] at hRi
        subst hRi
        clear hK0 hK1 b1 b2 b3 b4 r0 r1 c0 c1 hl
        go_wp2
        try rw [hW1]
        go_ret2
        exact ⟨rfl, hQ.out.trans HQ.out⟩
      ·have c0B : decide (c < 0) = true := decide_eq_true (by omega)
       rw [if_neg (by omega)] at hRi
       subst hRi
       clear hK0 hK1 b1 b2 b3 b4 r0 r1 c0 hl
       go_wp2
       try rw [hW1]
       go_ret2
       exact ⟨rfl, hQ.out.trans HQ.out⟩
     ·have r1B : decide (X ≤ r) = true := decide_eq_true (by omega)
      rw [if_neg (by omega)] at hRi
      subst hRi
      clear hK0 hK1 b1 b2 b3 b4 r0 r1 hl
      go_wp2
      try rw [hW1]
      go_ret2
      exact ⟨rfl, hQ.out.trans HQ.out⟩
    ·have r0B : decide (r < 0) = true := decide_eq_true (by omega)
     rw [if_neg (by omega)] at hRi
     subst hRi
     clear hK0 hK1 b1 b2 b3 b4 r0 hl
     go_wp2
     try rw [hW1]
     go_ret2
     exact ⟨rfl, hQ.out.trans HQ.out⟩
  ·have hlB : decide ((i : Int) < (d.ws.length : Int)) = false := decide_eq_false (by omega)
   rw [List.drop_eq_nil_of_le (by omega)] at hRi
   have hRn : R = none := hRi
   subst hRn
   have HQ := Lib.hid (hQ.out.trans hQi)
   clear hRi hR hQi hi hK0 hK1
   go_wp2
   go_ret2
   exact ⟨rfl, HQ.out⟩
end Go.Proofs.YtglniapfnhedoaaGreatDoor
namespace Go.Proofs.YtglniapfnhedoaaGreatDoor
open Go.RowKit
def isFill (f : Fl) (n : ByteArray) (r c : Int) : Bool := (f.n.toList == n.toList) && decide (f.r = r) && decide (f.c = c)
theorem filled_yes {fs : List Fl} {n : ByteArray} {r c : Int} {i : Nat} (hi : i < fs.length) (h : isFill fs[i] n r c = true) : filledW fs n r c = true := List.any_eq_true.2 ⟨_, List.getElem_mem hi, h⟩
theorem filled_no {fs : List Fl} {n : ByteArray} {r c : Int} (h : ∀ i (hi : i < fs.length), isFill fs[i] n r c = false) : filledW fs n r c = false := by
 refine List.any_eq_false.2 fun x hx => ?_
 obtain ⟨i, hi, rfl⟩ := List.getElem_of_mem hx
 have := h i hi
 unfold isFill at this
 rw [this]
 decide
set_option maxHeartbeats 1000000 in
theorem r8filled_any (wv tv fv : Value) (d : Dk) (n : ByteArray) (r c : Int) (w : World) (h : IsDk w wv tv fv d) : Calls Tryz.prog 38 #[.agg #[wv, tv, fv], .agg #[.string n, .int .i64 r, .int .i64 c]] w fun e w' => e = .returned (.bool (filledW d.fs n r c)) ∧ Q w w' := by
 obtain ⟨ao, ac, bo, bc, co, cc, rfl, rfl, rfl⟩ := h.forms
 have hQ := ((Q.refl w).alloc #[.slice ao d.ws.length ac, .slice bo d.ts.length bc, .slice co d.fs.length cc] 26).alloc #[.string n, .int .i64 r, .int .i64 c] 39
 have hR := h.fs.keepB hQ.b
 have hlen := h.fs.len
 obtain ⟨W, hW⟩ : ∃ W, (w.alloc (.cells #[.slice ao d.ws.length ac, .slice bo d.ts.length bc, .slice co d.fs.length cc] 26)).alloc (.cells #[.string n, .int .i64 r, .int .i64 c] 39) = W := ⟨_, rfl⟩
 have k0 : W.cell? ⟨w.heap.size, 2, none⟩ = some (.slice co d.fs.length cc) := by rw [← hW]; exact ((Q.refl _).alloc _ _).keep (by rw [World.cell?_alloc_new]; rfl)
 have e1 : (w.alloc (.cells #[.slice ao d.ws.length ac, .slice bo d.ts.length bc, .slice co d.fs.length cc] 26)).heap.size = w.heap.size + 1 := by simp
 have k1 : W.cell? ⟨w.heap.size + 1, 0, none⟩ = some (.string n) := by rw [← hW, ← e1, World.cell?_alloc_new]; rfl
 have k2 : W.cell? ⟨w.heap.size + 1, 1, none⟩ = some (.int .i64 r) := by rw [← hW, ← e1, World.cell?_alloc_new]; rfl
 have k3 : W.cell? ⟨w.heap.size + 1, 2, none⟩ = some (.int .i64 c) := by rw [← hW, ← e1, World.cell?_alloc_new]; rfl
 rw [hW] at hR hQ
 replace hQ := Lib.hid hQ
 clear h e1
 go_enter Tryz.func38, Tryz.ntmps38
 go_wp2
 try rw [hW]
 clear hW
 generalize w.heap.size = H at *
 go_loopw [5] (fun iv wr => ∃ i : Nat, i ≤ d.fs.length ∧ iv = .int .i64 i ∧ (∀ j (hj : j < d.fs.length), j < i → isFill d.fs[j] n r c = false) ∧ Q W wr) (fun iv _ => d.fs.length + 1 - (intOf iv).toNat)
 case atStart => exact ⟨0, Nat.zero_le _, rfl, fun j _ hj => by omega, Q.refl _⟩
 case round =>
  obtain ⟨i, hi, rfl, hall, hQi⟩ := hrel
  by_cases hl : i < d.fs.length
  ·have hlB : decide ((i : Int) < (d.fs.length : Int)) = true := decide_eq_true (by omega)
   have hlI : (i : Int) < (d.fs.length : Int) := by omega
   have hi0 : (0 : Int) ≤ (i : Int) := by omega
   have wk1 : IntKind.i64.wrap ((i : Int) + 1) = (i : Int) + 1 := by rw [IntKind.wrap_i64]; omega
   obtain ⟨a, cap, e1, _, _, hr⟩ := (hR.keepB hQi.b).at_ hl
   obtain ⟨rfl, _, rfl⟩ : co = some a ∧ True ∧ cc = cap := by simpa using e1
   obtain ⟨F, hF⟩ : ∃ F, d.fs[i] = F := ⟨_, rfl⟩
   rw [hF] at hr
   obtain ⟨g1, g2, g3, _⟩ := hr
   replace k0 := hQi.keep k0
   replace k1 := hQi.keep k1
   replace k2 := hQi.keep k2
   replace k3 := hQi.keep k3
   have HQ := Lib.hid (hQ.out.trans hQi)
   have HQi := Lib.hid hQi
   clear hQi hR e1
   have q2' : decide (F.r = r) = (F.r == r) := by by_cases h : F.r = r <;> simp [h]
   have q3' : decide (F.c = c) = (F.c == c) := by by_cases h : F.c = c <;> simp [h]
   cases q1 : (F.n.toList == n.toList)
   ·have hf : isFill F n r c = false := by unfold isFill; rw [q1]; simp
    have HA := Lib.hid (show ∀ j (hj : j < d.fs.length), j < i + 1 → isFill d.fs[j] n r c = false from fun j hj hj2 => by
     by_cases x : j = i
     ·subst x; rw [hF]; exact hf
     ·exact hall j hj (by omega))
    have HL := Lib.hid hl
    clear q2' q3' hF
    clear hall hl hi hlen hf
    go_wp2_with fail
    go_quiet (fail)
    go_wp2
    go_roundw
    case rel => exact ⟨i + 1, by have := HL.out; omega, by go_num, HA.out, HQi.out.trans (show Dr _ _ from ⟨_, rfl⟩).q⟩
    case measure => have := HL.out; simp [intOf]; omega
   cases q2 : (F.r == r)
   ·have hf : isFill F n r c = false := by unfold isFill; rw [q2', q2]; simp
    have HA := Lib.hid (show ∀ j (hj : j < d.fs.length), j < i + 1 → isFill d.fs[j] n r c = false from fun j hj hj2 => by
     by_cases x : j = i
     ·subst x; rw [hF]; exact hf
     ·exact hall j hj (by omega))
    have HL := Lib.hid hl
    clear q2' q3' hF
    clear hall hl hi hlen hf
    go_wp2_with fail
    go_quiet (fail)
    go_wp2
    go_roundw
    case rel => exact ⟨i + 1, by have := HL.out; omega, by go_num, HA.out, HQi.out.trans (show Dr _ _ from ⟨_, rfl⟩).q⟩
    case measure => have := HL.out; simp [intOf]; omega
   cases q3 : (F.c == c)
   ·have hf : isFill F n r c = false := by unfold isFill; rw [q3', q3]; simp
    have HA := Lib.hid (show ∀ j (hj : j < d.fs.length), j < i + 1 → isFill d.fs[j] n r c = false from fun j hj hj2 => by
     by_cases x : j = i
     ·subst x; rw [hF]; exact hf
     ·exact hall j hj (by omega))
    have HL := Lib.hid hl
    clear q2' q3' hF
    clear hall hl hi hlen hf
    go_wp2_with fail
    go_quiet (fail)
    go_wp2
    go_roundw
    case rel => exact ⟨i + 1, by have := HL.out; omega, by go_num, HA.out, HQi.out.trans (show Dr _ _ from ⟨_, rfl⟩).q⟩
    case measure => have := HL.out; simp [intOf]; omega
   ·have hy := Lib.hid (filled_yes (n := n) (r := r) (c := c) hl (by rw [hF]; unfold isFill; rw [q1, q2', q2, q3', q3]; rfl))
    clear q2' q3' hF
    clear hall hi hlen
    go_wp2_with fail
    go_quiet (fail)
    go_wp2
    go_ret
    exact ⟨by rw [hy.out]; rfl, HQ.out.trans (show Dr _ _ from ⟨_, rfl⟩).q⟩
  ·have hlB : decide ((i : Int) < (d.fs.length : Int)) = false := decide_eq_false (by omega)
   replace k0 := hQi.keep k0
   have hno := Lib.hid (filled_no (fs := d.fs) (n := n) (r := r) (c := c) (fun j hj => hall j hj (by omega)))
   have HQ := Lib.hid (hQ.out.trans hQi)
   clear hall hR hi hlen hQi
   go_wp2
   go_ret
   exact ⟨by rw [hno.out]; rfl, HQ.out⟩
end Go.Proofs.YtglniapfnhedoaaGreatDoor
