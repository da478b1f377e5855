/-
 Contracts and what they rest on.
-/
import Derived.Deep.QuietTactic
import Derived.BigQuiet
import Derived.Laws.StructEq
import Derived.Lib.Hide
import Derived.Test.YthlileddhgglnaaGreatDoorChecked
import Derived.KernelRfl
import Derived.Laws.Strings2
import Derived.Laws.Slices
import Derived.Test.YthlileddhgglnaaGreatDoorY13
namespace Go.Proofs.YthlileddhgglnaaGreatDoor
open Go.RowKit
def tipB (s : ByteArray) (cap filt err : Int) (l : List Sec) : Bool := rightS l && inB cap 1 20000000 && inB filt 1 60000 && inB err 0 10000 && nameS s
theorem r8tipright_any (s : ByteArray) (cap filt err : Int) (v : Value) (l : List Sec) (w : World) (hv : IsSecs w v l) :
  Calls Tryz.prog 53 #[.agg #[.string s, .int .i64 cap, .int .i64 filt, .int .i64 err, v]] w fun e w' => e = .returned (.bool (tipB s cap filt err l)) ∧ B w w' := by
 obtain ⟨ao, nn, cc, rfl⟩ := hv.form
 have HV := Lib.hid hv
 clear hv
 have cl := fun w h => r3right_any (.slice ao nn cc) l w h
 have cc_ := fun w => r8in_any cap 1 20000000 w
 have cf := fun w => r8in_any filt 1 60000 w
 have ce := fun w => r8in_any err 0 10000 w
 have cn := fun w => r8name_any s w
 unfold tipB
 have kc : ∀ w', B (w.alloc (.cells #[.string s, .int .i64 cap, .int .i64 filt, .int .i64 err, .slice ao nn cc] 35)) w' → B w w' := fun w' q => ((B.refl w).alloc _ _).trans q
 generalize rightS l = bl at *
 generalize inB cap 1 20000000 = bc at *
 generalize inB filt 1 60000 = bf at *
 generalize inB err 0 10000 = be at *
 generalize nameS s = bn at *
 cases bn
 ·go_enter Tryz.func53, Tryz.ntmps53
  go_wp2_with fail
  have k0 : (w.alloc (.cells #[.string s, .int .i64 cap, .int .i64 filt, .int .i64 err, .slice ao nn cc] 35)).cell? ⟨w.heap.size, 0, none⟩ = some (.string s) := by simp [go_sem]
  have k1 : (w.alloc (.cells #[.string s, .int .i64 cap, .int .i64 filt, .int .i64 err, .slice ao nn cc] 35)).cell? ⟨w.heap.size, 1, none⟩ = some (.int .i64 cap) := by simp [go_sem]
  have k2 : (w.alloc (.cells #[.string s, .int .i64 cap, .int .i64 filt, .int .i64 err, .slice ao nn cc] 35)).cell? ⟨w.heap.size, 2, none⟩ = some (.int .i64 filt) := by simp [go_sem]
  have k3 : (w.alloc (.cells #[.string s, .int .i64 cap, .int .i64 filt, .int .i64 err, .slice ao nn cc] 35)).cell? ⟨w.heap.size, 3, none⟩ = some (.int .i64 err) := by simp [go_sem]
  have k4 : (w.alloc (.cells #[.string s, .int .i64 cap, .int .i64 filt, .int .i64 err, .slice ao nn cc] 35)).cell? ⟨w.heap.size, 4, none⟩ = some (.slice ao nn cc) := by simp [go_sem]
  have hv := HV.out.keepB ((B.refl w).alloc #[.string s, .int .i64 cap, .int .i64 filt, .int .i64 err, .slice ao nn cc] 35)
  have g := (B.refl w).alloc #[.string s, .int .i64 cap, .int .i64 filt, .int .i64 err, .slice ao nn cc] 35
  generalize w.alloc (.cells #[.string s, .int .i64 cap, .int .i64 filt, .int .i64 err, .slice ao nn cc] 35) = W at *
  refine (cn _).mono ?_
  rintro e w1 ⟨rfl, rfl⟩
  go_wp2
  go_ret
  exact ⟨by simp, g⟩
 cases bl
 ·go_enter Tryz.func53, Tryz.ntmps53
  go_wp2_with fail
  have k0 : (w.alloc (.cells #[.string s, .int .i64 cap, .int .i64 filt, .int .i64 err, .slice ao nn cc] 35)).cell? ⟨w.heap.size, 0, none⟩ = some (.string s) := by simp [go_sem]
  have k1 : (w.alloc (.cells #[.string s, .int .i64 cap, .int .i64 filt, .int .i64 err, .slice ao nn cc] 35)).cell? ⟨w.heap.size, 1, none⟩ = some (.int .i64 cap) := by simp [go_sem]
  have k2 : (w.alloc (.cells #[.string s, .int .i64 cap, .int .i64 filt, .int .i64 err, .slice ao nn cc] 35)).cell? ⟨w.heap.size, 2, none⟩ = some (.int .i64 filt) := by simp [go_sem]
  have k3 : (w.alloc (.cells #[.string s, .int .i64 cap, .int .i64 filt, .int .i64 err, .slice ao nn cc] 35)).cell? ⟨w.heap.size, 3, none⟩ = some (.int .i64 err) := by simp [go_sem]
  have k4 : (w.alloc (.cells #[.string s, .int .i64 cap, .int .i64 filt, .int .i64 err, .slice ao nn cc] 35)).cell? ⟨w.heap.size, 4, none⟩ = some (.slice ao nn cc) := by simp [go_sem]
  have hv := HV.out.keepB ((B.refl w).alloc #[.string s, .int .i64 cap, .int .i64 filt, .int .i64 err, .slice ao nn cc] 35)
  have g := (B.refl w).alloc #[.string s, .int .i64 cap, .int .i64 filt, .int .i64 err, .slice ao nn cc] 35
  generalize w.alloc (.cells #[.string s, .int .i64 cap, .int .i64 filt, .int .i64 err, .slice ao nn cc] 35) = W at *
  refine (cn _).mono ?_
  rintro e w1 ⟨rfl, rfl⟩
  go_wp2_with fail
  refine (cl _ hv).mono ?_
  rintro e w3 ⟨rfl, q⟩
  replace q := q.b
  replace k0 := q.keep k0
  replace k1 := q.keep k1
  replace k2 := q.keep k2
  replace k3 := q.keep k3
  replace k4 := q.keep k4
  replace hv := hv.keepB q
  replace g := g.trans q
  clear q
  go_wp2
  go_ret
  exact ⟨by simp, g⟩
 cases bc
 ·go_enter Tryz.func53, Tryz.ntmps53
  go_wp2_with fail
  have k0 : (w.alloc (.cells #[.string s, .int .i64 cap, .int .i64 filt, .int .i64 err, .slice ao nn cc] 35)).cell? ⟨w.heap.size, 0, none⟩ = some (.string s) := by simp [go_sem]
  have k1 : (w.alloc (.cells #[.string s, .int .i64 cap, .int .i64 filt, .int .i64 err, .slice ao nn cc] 35)).cell? ⟨w.heap.size, 1, none⟩ = some (.int .i64 cap) := by simp [go_sem]
  have k2 : (w.alloc (.cells #[.string s, .int .i64 cap, .int .i64 filt, .int .i64 err, .slice ao nn cc] 35)).cell? ⟨w.heap.size, 2, none⟩ = some (.int .i64 filt) := by simp [go_sem]
  have k3 : (w.alloc (.cells #[.string s, .int .i64 cap, .int .i64 filt, .int .i64 err, .slice ao nn cc] 35)).cell? ⟨w.heap.size, 3, none⟩ = some (.int .i64 err) := by simp [go_sem]
  have k4 : (w.alloc (.cells #[.string s, .int .i64 cap, .int .i64 filt, .int .i64 err, .slice ao nn cc] 35)).cell? ⟨w.heap.size, 4, none⟩ = some (.slice ao nn cc) := by simp [go_sem]
  have hv := HV.out.keepB ((B.refl w).alloc #[.string s, .int .i64 cap, .int .i64 filt, .int .i64 err, .slice ao nn cc] 35)
  have g := (B.refl w).alloc #[.string s, .int .i64 cap, .int .i64 filt, .int .i64 err, .slice ao nn cc] 35
  generalize w.alloc (.cells #[.string s, .int .i64 cap, .int .i64 filt, .int .i64 err, .slice ao nn cc] 35) = W at *
  refine (cn _).mono ?_
  rintro e w1 ⟨rfl, rfl⟩
  go_wp2_with fail
  refine (cl _ hv).mono ?_
  rintro e w3 ⟨rfl, q⟩
  replace q := q.b
  replace k0 := q.keep k0
  replace k1 := q.keep k1
  replace k2 := q.keep k2
  replace k3 := q.keep k3
  replace k4 := q.keep k4
  replace hv := hv.keepB q
  replace g := g.trans q
  clear q
  go_wp2_with fail
  refine (cc_ _).mono ?_
  rintro e w1 ⟨rfl, rfl⟩
  go_wp2
  go_ret
  exact ⟨by simp, g⟩
 cases bf
 ·go_enter Tryz.func53, Tryz.ntmps53
  go_wp2_with fail
  have k0 : (w.alloc (.cells #[.string s, .int .i64 cap, .int .i64 filt, .int .i64 err, .slice ao nn cc] 35)).cell? ⟨w.heap.size, 0, none⟩ = some (.string s) := by simp [go_sem]
  have k1 : (w.alloc (.cells #[.string s, .int .i64 cap, .int .i64 filt, .int .i64 err, .slice ao nn cc] 35)).cell? ⟨w.heap.size, 1, none⟩ = some (.int .i64 cap) := by simp [go_sem]
  have k2 : (w.alloc (.cells #[.string s, .int .i64 cap, .int .i64 filt, .int .i64 err, .slice ao nn cc] 35)).cell? ⟨w.heap.size, 2, none⟩ = some (.int .i64 filt) := by simp [go_sem]
  have k3 : (w.alloc (.cells #[.string s, .int .i64 cap, .int .i64 filt, .int .i64 err, .slice ao nn cc] 35)).cell? ⟨w.heap.size, 3, none⟩ = some (.int .i64 err) := by simp [go_sem]
  have k4 : (w.alloc (.cells #[.string s, .int .i64 cap, .int .i64 filt, .int .i64 err, .slice ao nn cc] 35)).cell? ⟨w.heap.size, 4, none⟩ = some (.slice ao nn cc) := by simp [go_sem]
  have hv := HV.out.keepB ((B.refl w).alloc #[.string s, .int .i64 cap, .int .i64 filt, .int .i64 err, .slice ao nn cc] 35)
  have g := (B.refl w).alloc #[.string s, .int .i64 cap, .int .i64 filt, .int .i64 err, .slice ao nn cc] 35
  generalize w.alloc (.cells #[.string s, .int .i64 cap, .int .i64 filt, .int .i64 err, .slice ao nn cc] 35) = W at *
  refine (cn _).mono ?_
  rintro e w1 ⟨rfl, rfl⟩
  go_wp2_with fail
  refine (cl _ hv).mono ?_
  rintro e w3 ⟨rfl, q⟩
  replace q := q.b
  replace k0 := q.keep k0
  replace k1 := q.keep k1
  replace k2 := q.keep k2
  replace k3 := q.keep k3
  replace k4 := q.keep k4
  replace hv := hv.keepB q
  replace g := g.trans q
  clear q
  go_wp2_with fail
  refine (cc_ _).mono ?_
  rintro e w1 ⟨rfl, rfl⟩
  go_wp2_with fail
  refine (cf _).mono ?_
  rintro e w1 ⟨rfl, rfl⟩
  go_wp2
  go_ret
  exact ⟨by simp, g⟩
 cases be
 ·go_enter Tryz.func53, Tryz.ntmps53
  go_wp2_with fail
  have k0 : (w.alloc (.cells #[.string s, .int .i64 cap, .int .i64 filt, .int .i64 err, .slice ao nn cc] 35)).cell? ⟨w.heap.size, 0, none⟩ = some (.string s) := by simp [go_sem]
  have k1 : (w.alloc (.cells #[.string s, .int .i64 cap, .int .i64 filt, .int .i64 err, .slice ao nn cc] 35)).cell? ⟨w.heap.size, 1, none⟩ = some (.int .i64 cap) := by simp [go_sem]
  have k2 : (w.alloc (.cells #[.string s, .int .i64 cap, .int .i64 filt, .int .i64 err, .slice ao nn cc] 35)).cell? ⟨w.heap.size, 2, none⟩ = some (.int .i64 filt) := by simp [go_sem]
  have k3 : (w.alloc (.cells #[.string s, .int .i64 cap, .int .i64 filt, .int .i64 err, .slice ao nn cc] 35)).cell? ⟨w.heap.size, 3, none⟩ = some (.int .i64 err) := by simp [go_sem]
  have k4 : (w.alloc (.cells #[.string s, .int .i64 cap, .int .i64 filt, .int .i64 err, .slice ao nn cc] 35)).cell? ⟨w.heap.size, 4, none⟩ = some (.slice ao nn cc) := by simp [go_sem]
  have hv := HV.out.keepB ((B.refl w).alloc #[.string s, .int .i64 cap, .int .i64 filt, .int .i64 err, .slice ao nn cc] 35)
  have g := (B.refl w).alloc #[.string s, .int .i64 cap, .int .i64 filt, .int .i64 err, .slice ao nn cc] 35
  generalize w.alloc (.cells #[.string s, .int .i64 cap, .int .i64 filt, .int .i64 err, .slice ao nn cc] 35) = W at *
  refine (cn _).mono ?_
  rintro e w1 ⟨rfl, rfl⟩
  go_wp2_with fail
  refine (cl _ hv).mono ?_
  rintro e w3 ⟨rfl, q⟩
  replace q := q.b
  replace k0 := q.keep k0
  replace k1 := q.keep k1
  replace k2 := q.keep k2
  replace k3 := q.keep k3
  replace k4 := q.keep k4
  replace hv := hv.keepB q
  replace g := g.trans q
  clear q
  go_wp2_with fail
  refine (cc_ _).mono ?_
  rintro e w1 ⟨rfl, rfl⟩
  go_wp2_with fail
  refine (cf _).mono ?_
  rintro e w1 ⟨rfl, rfl⟩
  go_wp2_with fail
  refine (ce _).mono ?_
  rintro e w1 ⟨rfl, rfl⟩
  go_wp2
  go_ret
  exact ⟨by simp, g⟩
 ·go_enter Tryz.func53, Tryz.ntmps53
  go_wp2_with fail
  have k0 : (w.alloc (.cells #[.string s, .int .i64 cap, .int .i64 filt, .int .i64 err, .slice ao nn cc] 35)).cell? ⟨w.heap.size, 0, none⟩ = some (.string s) := by simp [go_sem]
  have k1 : (w.alloc (.cells #[.string s, .int .i64 cap, .int .i64 filt, .int .i64 err, .slice ao nn cc] 35)).cell? ⟨w.heap.size, 1, none⟩ = some (.int .i64 cap) := by simp [go_sem]
  have k2 : (w.alloc (.cells #[.string s, .int .i64 cap, .int .i64 filt, .int .i64 err, .slice ao nn cc] 35)).cell? ⟨w.heap.size, 2, none⟩ = some (.int .i64 filt) := by simp [go_sem]
  have k3 : (w.alloc (.cells #[.string s, .int .i64 cap, .int .i64 filt, .int .i64 err, .slice ao nn cc] 35)).cell? ⟨w.heap.size, 3, none⟩ = some (.int .i64 err) := by simp [go_sem]
  have k4 : (w.alloc (.cells #[.string s, .int .i64 cap, .int .i64 filt, .int .i64 err, .slice ao nn cc] 35)).cell? ⟨w.heap.size, 4, none⟩ = some (.slice ao nn cc) := by simp [go_sem]
  have hv := HV.out.keepB ((B.refl w).alloc #[.string s, .int .i64 cap, .int .i64 filt, .int .i64 err, .slice ao nn cc] 35)
  have g := (B.refl w).alloc #[.string s, .int .i64 cap, .int .i64 filt, .int .i64 err, .slice ao nn cc] 35
  generalize w.alloc (.cells #[.string s, .int .i64 cap, .int .i64 filt, .int .i64 err, .slice ao nn cc] 35) = W at *
  refine (cn _).mono ?_
  rintro e w1 ⟨rfl, rfl⟩
  go_wp2_with fail
  refine (cl _ hv).mono ?_
  rintro e w3 ⟨rfl, q⟩
  replace q := q.b
  replace k0 := q.keep k0
  replace k1 := q.keep k1
  replace k2 := q.keep k2
  replace k3 := q.keep k3
  replace k4 := q.keep k4
  replace hv := hv.keepB q
  replace g := g.trans q
  clear q
  go_wp2_with fail
  refine (cc_ _).mono ?_
  rintro e w1 ⟨rfl, rfl⟩
  go_wp2_with fail
  refine (cf _).mono ?_
  rintro e w1 ⟨rfl, rfl⟩
  go_wp2_with fail
  refine (ce _).mono ?_
  rintro e w1 ⟨rfl, rfl⟩
  go_wp2
  go_ret
  exact ⟨by simp, g⟩
end Go.Proofs.YthlileddhgglnaaGreatDoor
namespace Go.Proofs.YthlileddhgglnaaGreatDoor
open Go.RowKit
theorem tin_any (v a b : Int) (w : World) :
  Calls Tryz.prog 87 #[.int .i64 v, .int .i64 a, .int .i64 b] w fun e w' => e = .returned (.bool (inB v a b)) ∧ w = w' := by
 unfold inB
 have hb : decide (a ≤ v) = true ∨ decide (a ≤ v) = false := by cases decide (a ≤ v) <;> simp
 rcases hb with hb | hb
 all_goals
  go_enter Tryz.func87, Tryz.ntmps87
  go_wp2
  go_ret
  exact ⟨by simp [hb], rfl⟩
theorem tipright_any (s : ByteArray) (cap filt err : Int) (v : Value) (l : List Sec) (w : World) (hv : IsSecs w v l) :
  Calls Tryz.prog 46 #[.agg #[.string s, .int .i64 cap, .int .i64 filt, .int .i64 err, v]] w fun e w' => e = .returned (.bool (tipB s cap filt err l)) ∧ B w w' := by
 obtain ⟨ao, nn, cc, rfl⟩ := hv.form
 have HV := Lib.hid hv
 clear hv
 have cl := fun w h => right_code (.slice ao nn cc) l w h
 have cc_ := fun w => tin_any cap 1 20000000 w
 have cf := fun w => tin_any filt 1 60000 w
 have ce := fun w => tin_any err 0 10000 w
 have cn := fun w => named_any s w
 unfold tipB
 have kc : ∀ w', B (w.alloc (.cells #[.string s, .int .i64 cap, .int .i64 filt, .int .i64 err, .slice ao nn cc] 35)) w' → B w w' := fun w' q => ((B.refl w).alloc _ _).trans q
 generalize rightS l = bl at *
 generalize inB cap 1 20000000 = bc at *
 generalize inB filt 1 60000 = bf at *
 generalize inB err 0 10000 = be at *
 generalize nameS s = bn at *
 cases bl
 ·go_enter Tryz.func46, Tryz.ntmps46
  go_wp2_with fail
  have k0 : (w.alloc (.cells #[.string s, .int .i64 cap, .int .i64 filt, .int .i64 err, .slice ao nn cc] 35)).cell? ⟨w.heap.size, 0, none⟩ = some (.string s) := by simp [go_sem]
  have k1 : (w.alloc (.cells #[.string s, .int .i64 cap, .int .i64 filt, .int .i64 err, .slice ao nn cc] 35)).cell? ⟨w.heap.size, 1, none⟩ = some (.int .i64 cap) := by simp [go_sem]
  have k2 : (w.alloc (.cells #[.string s, .int .i64 cap, .int .i64 filt, .int .i64 err, .slice ao nn cc] 35)).cell? ⟨w.heap.size, 2, none⟩ = some (.int .i64 filt) := by simp [go_sem]
  have k3 : (w.alloc (.cells #[.string s, .int .i64 cap, .int .i64 filt, .int .i64 err, .slice ao nn cc] 35)).cell? ⟨w.heap.size, 3, none⟩ = some (.int .i64 err) := by simp [go_sem]
  have k4 : (w.alloc (.cells #[.string s, .int .i64 cap, .int .i64 filt, .int .i64 err, .slice ao nn cc] 35)).cell? ⟨w.heap.size, 4, none⟩ = some (.slice ao nn cc) := by simp [go_sem]
  have hv := HV.out.keepB ((B.refl w).alloc #[.string s, .int .i64 cap, .int .i64 filt, .int .i64 err, .slice ao nn cc] 35)
  have g := (B.refl w).alloc #[.string s, .int .i64 cap, .int .i64 filt, .int .i64 err, .slice ao nn cc] 35
  generalize w.alloc (.cells #[.string s, .int .i64 cap, .int .i64 filt, .int .i64 err, .slice ao nn cc] 35) = W at *
  refine (cl _ hv).mono ?_
  rintro e w2 ⟨rfl, q⟩
  replace k0 := q.keep k0
  replace k1 := q.keep k1
  replace k2 := q.keep k2
  replace k3 := q.keep k3
  replace k4 := q.keep k4
  replace hv := hv.keepB q
  replace g := g.trans q
  clear q
  go_wp2
  go_ret
  exact ⟨by simp, g⟩
 cases bc
 ·go_enter Tryz.func46, Tryz.ntmps46
  go_wp2_with fail
  have k0 : (w.alloc (.cells #[.string s, .int .i64 cap, .int .i64 filt, .int .i64 err, .slice ao nn cc] 35)).cell? ⟨w.heap.size, 0, none⟩ = some (.string s) := by simp [go_sem]
  have k1 : (w.alloc (.cells #[.string s, .int .i64 cap, .int .i64 filt, .int .i64 err, .slice ao nn cc] 35)).cell? ⟨w.heap.size, 1, none⟩ = some (.int .i64 cap) := by simp [go_sem]
  have k2 : (w.alloc (.cells #[.string s, .int .i64 cap, .int .i64 filt, .int .i64 err, .slice ao nn cc] 35)).cell? ⟨w.heap.size, 2, none⟩ = some (.int .i64 filt) := by simp [go_sem]
  have k3 : (w.alloc (.cells #[.string s, .int .i64 cap, .int .i64 filt, .int .i64 err, .slice ao nn cc] 35)).cell? ⟨w.heap.size, 3, none⟩ = some (.int .i64 err) := by simp [go_sem]
  have k4 : (w.alloc (.cells #[.string s, .int .i64 cap, .int .i64 filt, .int .i64 err, .slice ao nn cc] 35)).cell? ⟨w.heap.size, 4, none⟩ = some (.slice ao nn cc) := by simp [go_sem]
  have hv := HV.out.keepB ((B.refl w).alloc #[.string s, .int .i64 cap, .int .i64 filt, .int .i64 err, .slice ao nn cc] 35)
  have g := (B.refl w).alloc #[.string s, .int .i64 cap, .int .i64 filt, .int .i64 err, .slice ao nn cc] 35
  generalize w.alloc (.cells #[.string s, .int .i64 cap, .int .i64 filt, .int .i64 err, .slice ao nn cc] 35) = W at *
  refine (cl _ hv).mono ?_
  rintro e w2 ⟨rfl, q⟩
  replace k0 := q.keep k0
  replace k1 := q.keep k1
  replace k2 := q.keep k2
  replace k3 := q.keep k3
  replace k4 := q.keep k4
  replace hv := hv.keepB q
  replace g := g.trans q
  clear q
  go_wp2_with fail
  refine (cc_ _).mono ?_
  rintro e w1 ⟨rfl, rfl⟩
  go_wp2
  go_ret
  exact ⟨by simp, g⟩
 cases bf
 ·go_enter Tryz.func46, Tryz.ntmps46
  go_wp2_with fail
  have k0 : (w.alloc (.cells #[.string s, .int .i64 cap, .int .i64 filt, .int .i64 err, .slice ao nn cc] 35)).cell? ⟨w.heap.size, 0, none⟩ = some (.string s) := by simp [go_sem]
  have k1 : (w.alloc (.cells #[.string s, .int .i64 cap, .int .i64 filt, .int .i64 err, .slice ao nn cc] 35)).cell? ⟨w.heap.size, 1, none⟩ = some (.int .i64 cap) := by simp [go_sem]
  have k2 : (w.alloc (.cells #[.string s, .int .i64 cap, .int .i64 filt, .int .i64 err, .slice ao nn cc] 35)).cell? ⟨w.heap.size, 2, none⟩ = some (.int .i64 filt) := by simp [go_sem]
  have k3 : (w.alloc (.cells #[.string s, .int .i64 cap, .int .i64 filt, .int .i64 err, .slice ao nn cc] 35)).cell? ⟨w.heap.size, 3, none⟩ = some (.int .i64 err) := by simp [go_sem]
  have k4 : (w.alloc (.cells #[.string s, .int .i64 cap, .int .i64 filt, .int .i64 err, .slice ao nn cc] 35)).cell? ⟨w.heap.size, 4, none⟩ = some (.slice ao nn cc) := by simp [go_sem]
  have hv := HV.out.keepB ((B.refl w).alloc #[.string s, .int .i64 cap, .int .i64 filt, .int .i64 err, .slice ao nn cc] 35)
  have g := (B.refl w).alloc #[.string s, .int .i64 cap, .int .i64 filt, .int .i64 err, .slice ao nn cc] 35
  generalize w.alloc (.cells #[.string s, .int .i64 cap, .int .i64 filt, .int .i64 err, .slice ao nn cc] 35) = W at *
  refine (cl _ hv).mono ?_
  rintro e w2 ⟨rfl, q⟩
  replace k0 := q.keep k0
  replace k1 := q.keep k1
  replace k2 := q.keep k2
  replace k3 := q.keep k3
  replace k4 := q.keep k4
  replace hv := hv.keepB q
  replace g := g.trans q
  clear q
  go_wp2_with fail
  refine (cc_ _).mono ?_
  rintro e w1 ⟨rfl, rfl⟩
  go_wp2_with fail
  refine (cf _).mono ?_
  rintro e w1 ⟨rfl, rfl⟩
  go_wp2
  go_ret
  exact ⟨by simp, g⟩
 cases be
 ·go_enter Tryz.func46, Tryz.ntmps46
  go_wp2_with fail
  have k0 : (w.alloc (.cells #[.string s, .int .i64 cap, .int .i64 filt, .int .i64 err, .slice ao nn cc] 35)).cell? ⟨w.heap.size, 0, none⟩ = some (.string s) := by simp [go_sem]
  have k1 : (w.alloc (.cells #[.string s, .int .i64 cap, .int .i64 filt, .int .i64 err, .slice ao nn cc] 35)).cell? ⟨w.heap.size, 1, none⟩ = some (.int .i64 cap) := by simp [go_sem]
  have k2 : (w.alloc (.cells #[.string s, .int .i64 cap, .int .i64 filt, .int .i64 err, .slice ao nn cc] 35)).cell? ⟨w.heap.size, 2, none⟩ = some (.int .i64 filt) := by simp [go_sem]
  have k3 : (w.alloc (.cells #[.string s, .int .i64 cap, .int .i64 filt, .int .i64 err, .slice ao nn cc] 35)).cell? ⟨w.heap.size, 3, none⟩ = some (.int .i64 err) := by simp [go_sem]
  have k4 : (w.alloc (.cells #[.string s, .int .i64 cap, .int .i64 filt, .int .i64 err, .slice ao nn cc] 35)).cell? ⟨w.heap.size, 4, none⟩ = some (.slice ao nn cc) := by simp [go_sem]
  have hv := HV.out.keepB ((B.refl w).alloc #[.string s, .int .i64 cap, .int .i64 filt, .int .i64 err, .slice ao nn cc] 35)
  have g := (B.refl w).alloc #[.string s, .int .i64 cap, .int .i64 filt, .int .i64 err, .slice ao nn cc] 35
  generalize w.alloc (.cells #[.string s, .int .i64 cap, .int .i64 filt, .int .i64 err, .slice ao nn cc] 35) = W at *
  refine (cl _ hv).mono ?_
  rintro e w2 ⟨rfl, q⟩
  replace k0 := q.keep k0
  replace k1 := q.keep k1
  replace k2 := q.keep k2
  replace k3 := q.keep k3
  replace k4 := q.keep k4
  replace hv := hv.keepB q
  replace g := g.trans q
  clear q
  go_wp2_with fail
  refine (cc_ _).mono ?_
  rintro e w1 ⟨rfl, rfl⟩
  go_wp2_with fail
  refine (cf _).mono ?_
  rintro e w1 ⟨rfl, rfl⟩
  go_wp2_with fail
  refine (ce _).mono ?_
  rintro e w1 ⟨rfl, rfl⟩
  go_wp2
  go_ret
  exact ⟨by simp, g⟩
 cases bn
 ·go_enter Tryz.func46, Tryz.ntmps46
  go_wp2_with fail
  have k0 : (w.alloc (.cells #[.string s, .int .i64 cap, .int .i64 filt, .int .i64 err, .slice ao nn cc] 35)).cell? ⟨w.heap.size, 0, none⟩ = some (.string s) := by simp [go_sem]
  have k1 : (w.alloc (.cells #[.string s, .int .i64 cap, .int .i64 filt, .int .i64 err, .slice ao nn cc] 35)).cell? ⟨w.heap.size, 1, none⟩ = some (.int .i64 cap) := by simp [go_sem]
  have k2 : (w.alloc (.cells #[.string s, .int .i64 cap, .int .i64 filt, .int .i64 err, .slice ao nn cc] 35)).cell? ⟨w.heap.size, 2, none⟩ = some (.int .i64 filt) := by simp [go_sem]
  have k3 : (w.alloc (.cells #[.string s, .int .i64 cap, .int .i64 filt, .int .i64 err, .slice ao nn cc] 35)).cell? ⟨w.heap.size, 3, none⟩ = some (.int .i64 err) := by simp [go_sem]
  have k4 : (w.alloc (.cells #[.string s, .int .i64 cap, .int .i64 filt, .int .i64 err, .slice ao nn cc] 35)).cell? ⟨w.heap.size, 4, none⟩ = some (.slice ao nn cc) := by simp [go_sem]
  have hv := HV.out.keepB ((B.refl w).alloc #[.string s, .int .i64 cap, .int .i64 filt, .int .i64 err, .slice ao nn cc] 35)
  have g := (B.refl w).alloc #[.string s, .int .i64 cap, .int .i64 filt, .int .i64 err, .slice ao nn cc] 35
  generalize w.alloc (.cells #[.string s, .int .i64 cap, .int .i64 filt, .int .i64 err, .slice ao nn cc] 35) = W at *
  refine (cl _ hv).mono ?_
  rintro e w2 ⟨rfl, q⟩
  replace k0 := q.keep k0
  replace k1 := q.keep k1
  replace k2 := q.keep k2
  replace k3 := q.keep k3
  replace k4 := q.keep k4
  replace hv := hv.keepB q
  replace g := g.trans q
  clear q
  go_wp2_with fail
  refine (cc_ _).mono ?_
  rintro e w1 ⟨rfl, rfl⟩
  go_wp2_with fail
  refine (cf _).mono ?_
  rintro e w1 ⟨rfl, rfl⟩
  go_wp2_with fail
  refine (ce _).mono ?_
  rintro e w1 ⟨rfl, rfl⟩
  go_wp2_with fail
  refine (cn _).mono ?_
  rintro e w6 ⟨rfl, q⟩
  replace k0 := q.keep k0
  replace k1 := q.keep k1
  replace k2 := q.keep k2
  replace k3 := q.keep k3
  replace k4 := q.keep k4
  replace hv := hv.keepB q
  replace g := g.trans q
  clear q
  go_wp2
  go_ret
  exact ⟨by simp, g⟩
 ·go_enter Tryz.func46, Tryz.ntmps46
  go_wp2_with fail
  have k0 : (w.alloc (.cells #[.string s, .int .i64 cap, .int .i64 filt, .int .i64 err, .slice ao nn cc] 35)).cell? ⟨w.heap.size, 0, none⟩ = some (.string s) := by simp [go_sem]
  have k1 : (w.alloc (.cells #[.string s, .int .i64 cap, .int .i64 filt, .int .i64 err, .slice ao nn cc] 35)).cell? ⟨w.heap.size, 1, none⟩ = some (.int .i64 cap) := by simp [go_sem]
  have k2 : (w.alloc (.cells #[.string s, .int .i64 cap, .int .i64 filt, .int .i64 err, .slice ao nn cc] 35)).cell? ⟨w.heap.size, 2, none⟩ = some (.int .i64 filt) := by simp [go_sem]
  have k3 : (w.alloc (.cells #[.string s, .int .i64 cap, .int .i64 filt, .int .i64 err, .slice ao nn cc] 35)).cell? ⟨w.heap.size, 3, none⟩ = some (.int .i64 err) := by simp [go_sem]
  have k4 : (w.alloc (.cells #[.string s, .int .i64 cap, .int .i64 filt, .int .i64 err, .slice ao nn cc] 35)).cell? ⟨w.heap.size, 4, none⟩ = some (.slice ao nn cc) := by simp [go_sem]
  have hv := HV.out.keepB ((B.refl w).alloc #[.string s, .int .i64 cap, .int .i64 filt, .int .i64 err, .slice ao nn cc] 35)
  have g := (B.refl w).alloc #[.string s, .int .i64 cap, .int .i64 filt, .int .i64 err, .slice ao nn cc] 35
  generalize w.alloc (.cells #[.string s, .int .i64 cap, .int .i64 filt, .int .i64 err, .slice ao nn cc] 35) = W at *
  refine (cl _ hv).mono ?_
  rintro e w2 ⟨rfl, q⟩
  replace k0 := q.keep k0
  replace k1 := q.keep k1
  replace k2 := q.keep k2
  replace k3 := q.keep k3
  replace k4 := q.keep k4
  replace hv := hv.keepB q
  replace g := g.trans q
  clear q
  go_wp2_with fail
  refine (cc_ _).mono ?_
  rintro e w1 ⟨rfl, rfl⟩
  go_wp2_with fail
  refine (cf _).mono ?_
  rintro e w1 ⟨rfl, rfl⟩
  go_wp2_with fail
  refine (ce _).mono ?_
  rintro e w1 ⟨rfl, rfl⟩
  go_wp2_with fail
  refine (cn _).mono ?_
  rintro e w6 ⟨rfl, q⟩
  replace k0 := q.keep k0
  replace k1 := q.keep k1
  replace k2 := q.keep k2
  replace k3 := q.keep k3
  replace k4 := q.keep k4
  replace hv := hv.keepB q
  replace g := g.trans q
  clear q
  go_wp2
  go_ret
  exact ⟨by simp, g⟩
end Go.Proofs.YthlileddhgglnaaGreatDoor
namespace Go.Proofs.YthlileddhgglnaaGreatDoor
open Go.RowKit
theorem wpSeq_pass {P : Program} {ops : Array Oper} {Q : Exit → Act → World → Prop} {S : World → Prop} {l : List (Nat × Nat)} {t : List Value} {df : List _} {w : World} {i d : Nat} {o : Oper}
  (ho : ops.toList[i]? = some o) (hd : o.dst = some d) (hw : Region.wanted o (yielded ops t.toArray) = false)
  (h : wpSeq P ops Q S l { tmps := (t.set d undef).toArray, defers := df } w) : wpSeq P ops Q S ((i, 1) :: l) { tmps := t.toArray, defers := df } w := by
 refine ⟨o, by rw [← Array.getElem?_toList]; exact ho, ?_⟩
 rw [if_neg (by decide), if_pos rfl]
 refine ⟨hw, ?_⟩
 have e : Act.put { tmps := t.toArray, defers := df } o.dst undef = { tmps := (t.set d undef).toArray, defers := df } := by
  rw [hd]; simp [Act.put]
 rw [e]
 exact h
end Go.Proofs.YthlileddhgglnaaGreatDoor
namespace Go.Proofs.YthlileddhgglnaaGreatDoor
open Go.RowKit
set_option linter.unusedVariables false
def wareB (w : Wr) : Prop := 1 ≤ w.x ∧ w.x ≤ 8 ∧ 1 ≤ w.y ∧ w.y ≤ 12
theorem mul_small {a b : Int} (h1 : 0 ≤ a) (h2 : a ≤ 8) (h3 : 0 ≤ b) (h4 : b ≤ 12) : 0 ≤ a * b ∧ a * b ≤ 96 := by
 refine ⟨Int.mul_nonneg h1 h3, ?_⟩
 have := Int.mul_le_mul h2 h4 h3 (by omega : (0 : Int) ≤ 8)
 omega
theorem index_cons {ws : List Wr} {i : Nat} (hi : i < ws.length) (K : Int) (n : ByteArray) (r c : Int) : indexW (ws.drop i) K n r c = (if (ws[i]).n.toList == n.toList then (if 0 ≤ r ∧ r < (ws[i]).x ∧ 0 ≤ c ∧ c < (ws[i]).y then some (K + (r * (ws[i]).y + c)) else none) else indexW (ws.drop (i + 1)) (K + (ws[i]).x * (ws[i]).y) n r c) := by
 rw [List.drop_eq_getElem_cons hi]
 rfl
end Go.Proofs.YthlileddhgglnaaGreatDoor
namespace Go.Proofs.YthlileddhgglnaaGreatDoor
open Go.RowKit
set_option maxHeartbeats 2000000 in
theorem r8index_any (wv tv fv : Value) (d : Dk) (n : ByteArray) (r c : Int) (w : World) (h : IsDk w wv tv fv d) (hb : ∀ x ∈ d.ws, wareB x) (h100 : d.ws.length ≤ 100) : Calls Tryz.prog 55 #[.agg #[wv, tv, fv], .agg #[.string n, .int .i64 r, .int .i64 c]] w fun e w' => e = .returned (.tuple #[.int .i64 ((indexW d.ws 0 n r c).getD 0), .bool (hasW d.ws n r c)]) ∧ Q w w' := by
 obtain ⟨ao, ac, bo, bc, co, cc, rfl, rfl, rfl⟩ := h.forms
 have hQ := ((Q.refl w).alloc #[.slice ao d.ws.length ac, .slice bo d.ts.length bc, .slice co d.fs.length cc] 26).alloc #[.string n, .int .i64 r, .int .i64 c] 39
 have hR := h.ws.keepB hQ.b
 obtain ⟨W, hW⟩ : ∃ W, (w.alloc (.cells #[.slice ao d.ws.length ac, .slice bo d.ts.length bc, .slice co d.fs.length cc] 26)).alloc (.cells #[.string n, .int .i64 r, .int .i64 c] 39) = W := ⟨_, rfl⟩
 have k0 : W.cell? ⟨w.heap.size, 0, none⟩ = some (.slice ao d.ws.length ac) := by rw [← hW]; exact ((Q.refl _).alloc _ _).keep (by rw [World.cell?_alloc_new]; rfl)
 have e1 : (w.alloc (.cells #[.slice ao d.ws.length ac, .slice bo d.ts.length bc, .slice co d.fs.length cc] 26)).heap.size = w.heap.size + 1 := by simp
 have k1 : W.cell? ⟨w.heap.size + 1, 0, none⟩ = some (.string n) := by rw [← hW, ← e1, World.cell?_alloc_new]; rfl
 have k2 : W.cell? ⟨w.heap.size + 1, 1, none⟩ = some (.int .i64 r) := by rw [← hW, ← e1, World.cell?_alloc_new]; rfl
 have k3 : W.cell? ⟨w.heap.size + 1, 2, none⟩ = some (.int .i64 c) := by rw [← hW, ← e1, World.cell?_alloc_new]; rfl
 rw [hW] at hR hQ
 replace hQ := Lib.hid hQ
 clear h e1
 unfold hasW
 obtain ⟨R, hRR⟩ : ∃ R, indexW d.ws 0 n r c = R := ⟨_, rfl⟩
 rw [hRR]
 go_enter Tryz.func55, Tryz.ntmps55
 go_wp2
 try rw [hW]
 clear hW
 generalize w.heap.size = H at *
 go_loopw [6, 7] (fun nv iv wr => ∃ (i : Nat) (K : Int), i ≤ d.ws.length ∧ iv = .int .i64 i ∧ nv = .int .i64 K ∧ 0 ≤ K ∧ K ≤ 96 * (i : Int) ∧ R = indexW (d.ws.drop i) K n r c ∧ Q W wr) (fun _ iv _ => d.ws.length + 1 - (intOf iv).toNat)
 case atStart => exact ⟨0, 0, Nat.zero_le _, rfl, rfl, by omega, by omega, hRR.symm, Q.refl _⟩
 case round =>
  obtain ⟨i, K, hi, rfl, rfl, hK0, hK1, hRi, hQi⟩ := hrel
  obtain ⟨wo, rfl⟩ : ∃ wo : World, wo = wr := ⟨_, rfl⟩
  clear hRR
  replace k0 := hQi.keep k0
  replace k1 := hQi.keep k1
  replace k2 := hQi.keep k2
  replace k3 := hQi.keep k3
  by_cases hl : i < d.ws.length
  ·have hlB : decide ((i : Int) < (d.ws.length : Int)) = true := decide_eq_true (by omega)
   have hlI : (i : Int) < (d.ws.length : Int) := by omega
   have hi0 : (0 : Int) ≤ (i : Int) := by omega
   have wk1 : IntKind.i64.wrap ((i : Int) + 1) = (i : Int) + 1 := by rw [IntKind.wrap_i64]; omega
   obtain ⟨a, cap, e1, _, _, hr⟩ := (hR.keepB hQi.b).at_ hl
   obtain ⟨rfl, _, rfl⟩ : ao = some a ∧ True ∧ ac = cap := by simpa using e1
   have hbi := hb _ (List.getElem_mem hl)
   rw [index_cons hl] at hRi
   obtain ⟨F, hF⟩ : ∃ F, d.ws[i] = F := ⟨_, rfl⟩
   rw [hF] at hr hRi hbi
   obtain ⟨b1, b2, b3, b4⟩ := hbi
   obtain ⟨g1, g2, g3, g4, sv, g5, g6⟩ := hr
   obtain ⟨so, sc, rfl⟩ := secs_form g6
   obtain ⟨sn, hsn⟩ : ∃ sn, F.l.length = sn := ⟨_, rfl⟩
   rw [hsn] at g5 g6
   clear hsn
   obtain ⟨N, X, Y, Z, SL⟩ := F
   simp only at g1 g2 g3 g4 g5 hRi b1 b2 b3 b4
   have q1 := (Q.refl wo).alloc #[.string N, .int .i64 X, .int .i64 Y, .int .i64 Z, .slice so sn sc] 33
   have m0 := q1.keep k0
   have m1 := q1.keep k1
   have m2 := q1.keep k2
   have m3 := q1.keep k3
   have hs := World.block_lt_of_cell? _ _ k1
   have HQ := Lib.hid (hQi.trans q1)
   have HL := Lib.hid hl
   obtain ⟨W1, hW1⟩ : ∃ W1, wo.alloc (.cells #[.string N, .int .i64 X, .int .i64 Y, .int .i64 Z, .slice so sn sc] 33) = W1 := ⟨_, rfl⟩
   have p0 : W1.cell? ⟨wo.heap.size, 0, none⟩ = some (.string N) := by rw [← hW1, World.cell?_alloc_new]; rfl
   have p1 : W1.cell? ⟨wo.heap.size, 1, none⟩ = some (.int .i64 X) := by rw [← hW1, World.cell?_alloc_new]; rfl
   have p2 : W1.cell? ⟨wo.heap.size, 2, none⟩ = some (.int .i64 Y) := by rw [← hW1, World.cell?_alloc_new]; rfl
   rw [hW1] at m0 m1 m2 m3 HQ
   clear hR hF e1 g6 q1 hs hQi hb hi
   cases hc : (N.toList == n.toList)
   ·rw [hc, if_neg (by decide)] at hRi
    have hxy := mul_small (a := X) (b := Y) (by omega) b2 (by omega) b4
    obtain ⟨P, hP⟩ : ∃ P, X * Y = P := ⟨_, rfl⟩
    rw [hP] at hxy hRi
    obtain ⟨K', hK'⟩ : ∃ K', K + P = K' := ⟨_, rfl⟩
    rw [hK'] at hRi
    have w1 : IntKind.i64.wrap (X * Y) = P := by rw [hP, IntKind.wrap_i64]; omega
    have w2 : IntKind.i64.wrap (K + P) = K' := by rw [hK', IntKind.wrap_i64]; omega
    have HS := Lib.hid (And.intro hRi (show 0 ≤ K' ∧ K' ≤ 96 * ((i : Int) + 1) by omega))
    clear hRi hxy hP hK' hK0 hK1 hl b1 b2 b3 b4
    go_wp2
    try rw [hW1]
    go_roundw
    case rel => exact ⟨i + 1, K', by have := HL.out; omega, by go_num, rfl, HS.out.2.1, by have := HS.out.2.2; omega, HS.out.1, HQ.out⟩
    case measure => have := HL.out; simp [intOf]; omega
   ·rw [hc, if_pos rfl] at hRi
    by_cases r0 : 0 ≤ r
    ·have r0B : decide (r < 0) = false := decide_eq_false (by omega)
     by_cases r1 : r < X
     ·have r1B : decide (X ≤ r) = false := decide_eq_false (by omega)
      by_cases c0 : 0 ≤ c
      ·have c0B : decide (c < 0) = false := decide_eq_false (by omega)
       by_cases c1 : c < Y
       ·have c1B : decide (Y ≤ c) = false := decide_eq_false (by omega)
        rw [if_pos ⟨r0, r1, c0, c1⟩] at hRi
        have hxy := mul_small (a := r) (b := Y) r0 (by omega) (by omega) b4
        obtain ⟨P, hP⟩ : ∃ P, r * Y = P := ⟨_, rfl⟩
        rw [hP] at hxy hRi
        have w1 : IntKind.i64.wrap (r * Y) = P := by rw [hP, IntKind.wrap_i64]; omega
        obtain ⟨K1, hK1'⟩ : ∃ K1, K + P = K1 := ⟨_, rfl⟩
        obtain ⟨K2, hK2⟩ : ∃ K2, K1 + c = K2 := ⟨_, rfl⟩
        have w2 : IntKind.i64.wrap (K + P) = K1 := by rw [hK1', IntKind.wrap_i64]; omega
        have w3 : IntKind.i64.wrap (K1 + c) = K2 := by rw [hK2, IntKind.wrap_i64]; omega
        have e2 : K + (P + c) = K2 := by omega
        rw [e2] at hRi
        subst hRi
        clear hP hxy hK1' hK2 e2 hK0 hK1 b1 b2 b3 b4 r0 r1 c0 c1 hl
        go_wp2
        try rw [hW1]
        go_ret2
        exact ⟨rfl, hQ.out.trans HQ.out⟩
       ·have c1B : decide (Y ≤ c) = true := decide_eq_true (by omega)
        rw [if_neg (by omega)] at hRi
        subst hRi
        clear hK0 hK1 b1 b2 b3 b4 r0 r1 c0 c1 hl
        go_wp2
        try rw [hW1]
        go_ret2
        exact ⟨rfl, hQ.out.trans HQ.out⟩
      ·have c0B : decide (c < 0) = true := decide_eq_true (by omega)
       rw [if_neg (by omega)] at hRi
       subst hRi
       clear hK0 hK1 b1 b2 b3 b4 r0 r1 c0 hl
       go_wp2
       try rw [hW1]
       go_ret2
       exact ⟨rfl, hQ.out.trans HQ.out⟩
     ·have r1B : decide (X ≤ r) = true := decide_eq_true (by omega)
      rw [if_neg (by omega)] at hRi
      subst hRi
      clear hK0 hK1 b1 b2 b3 b4 r0 r1 hl
      go_wp2
      try rw [hW1]
      go_ret2
      exact ⟨rfl, hQ.out.trans HQ.out⟩
    ·have r0B : decide (r < 0) = true := decide_eq_true (by omega)
     rw [if_neg (by omega)] at hRi
     subst hRi
     clear hK0 hK1 b1 b2 b3 b4 r0 hl
     go_wp2
     try rw [hW1]
     go_ret2
     exact ⟨rfl, hQ.out.trans HQ.out⟩
  ·have hlB : decide ((i : Int) < (d.ws.length : Int)) = false := decide_eq_false (by omega)
   rw [List.drop_eq_nil_of_le (by omega)] at hRi
   have hRn : R = none := hRi
   subst hRn
   have HQ := Lib.hid (hQ.out.trans hQi)
   clear hRi hR hQi hi hK0 hK1
   go_wp2
   go_ret2
   exact ⟨rfl, HQ.out⟩
end Go.Proofs.YthlileddhgglnaaGreatDoor
namespace Go.Proofs.YthlileddhgglnaaGreatDoor
open Go.RowKit
theorem r8wnamed_any (wv tv fv : Value) (d : Dk) (s : ByteArray) (w : World) (h : IsDk w wv tv fv d) : Calls Tryz.prog 50 #[.agg #[wv, tv, fv], .string s] w fun e w' => e = .returned (.bool (namedW d.ws s)) ∧ Q w w' := by
 obtain ⟨ao, ac, bo, bc, co, cc, rfl, rfl, rfl⟩ := h.forms
 have hQ := (Q.refl w).alloc #[.slice ao d.ws.length ac, .slice bo d.ts.length bc, .slice co d.fs.length cc] 26
 have hR := h.ws.keepB hQ.b
 have hlen := h.ws.len
 have k0 : (w.alloc (.cells #[.slice ao d.ws.length ac, .slice bo d.ts.length bc, .slice co d.fs.length cc] 26)).cell? ⟨w.heap.size, 0, none⟩ = some (.slice ao d.ws.length ac) := by rw [World.cell?_alloc_new]; rfl
 replace hQ := Lib.hid hQ
 clear h
 go_enter Tryz.func50, Tryz.ntmps50
 go_wp2
 generalize w.alloc (.cells #[.slice ao d.ws.length ac, .slice bo d.ts.length bc, .slice co d.fs.length cc] 26) = W at *
 generalize w.heap.size = H at *
 go_loopw [5] (fun iv wr => ∃ i : Nat, i ≤ d.ws.length ∧ iv = .int .i64 i ∧ (∀ j (hj : j < d.ws.length), j < i → ((d.ws[j]).n.toList == s.toList) = false) ∧ W = wr) (fun iv _ => d.ws.length + 1 - (intOf iv).toNat)
 case atStart => exact ⟨0, Nat.zero_le _, rfl, fun j _ hj => by omega, rfl⟩
 case round =>
  obtain ⟨i, hi, rfl, hall, rfl⟩ := hrel
  by_cases hl : i < d.ws.length
  ·have hlB : decide ((i : Int) < (d.ws.length : Int)) = true := decide_eq_true (by omega)
   have hlI : (i : Int) < (d.ws.length : Int) := by omega
   have hi0 : (0 : Int) ≤ (i : Int) := by omega
   have wk1 : IntKind.i64.wrap ((i : Int) + 1) = (i : Int) + 1 := by rw [IntKind.wrap_i64]; omega
   obtain ⟨a, cap, e1, _, _, hr⟩ := hR.at_ hl
   obtain ⟨rfl, _, rfl⟩ : ao = some a ∧ True ∧ ac = cap := by simpa using e1
   have hn := hr.n
   cases hc : (d.ws[i]).n.toList == s.toList
   ·have HA := Lib.hid (show ∀ j (hj : j < d.ws.length), j < i + 1 → ((d.ws[j]).n.toList == s.toList) = false from fun j hj hj2 => by
     by_cases c : j = i
     ·subst c; exact hc
     ·exact hall j hj (by omega))
    have HL := Lib.hid hl
    generalize d.ws[i].n = N at *
    clear hall hr hR e1 hl hi hlen
    go_wp2
    go_roundw
    case rel => exact ⟨i + 1, by have := HL.out; omega, by go_num, HA.out, trivial⟩
    case measure => have := HL.out; simp [intOf]; omega
   ·have hy := Lib.hid (named_yes hl hc)
    generalize d.ws[i].n = N at *
    clear hall hr hR e1 hi hlen
    go_wp2
    go_ret
    exact ⟨by rw [hy.out]; rfl, hQ.out⟩
  ·have hlB : decide ((i : Int) < (d.ws.length : Int)) = false := decide_eq_false (by omega)
   have hno := Lib.hid (named_no (ws := d.ws) (s := s) (fun j hj => hall j hj (by omega)))
   clear hall hR hi hlen
   go_wp2
   go_ret
   exact ⟨by rw [hno.out]; rfl, hQ.out⟩
theorem r8tnamed_any (wv tv fv : Value) (d : Dk) (s : ByteArray) (w : World) (h : IsDk w wv tv fv d) : Calls Tryz.prog 54 #[.agg #[wv, tv, fv], .string s] w fun e w' => e = .returned (.bool (namedW d.ts s)) ∧ Q w w' := by
 obtain ⟨ao, ac, bo, bc, co, cc, rfl, rfl, rfl⟩ := h.forms
 have hQ := (Q.refl w).alloc #[.slice ao d.ws.length ac, .slice bo d.ts.length bc, .slice co d.fs.length cc] 26
 have hR := h.ts.keepB hQ.b
 have hlen := h.ts.len
 have k0 : (w.alloc (.cells #[.slice ao d.ws.length ac, .slice bo d.ts.length bc, .slice co d.fs.length cc] 26)).cell? ⟨w.heap.size, 1, none⟩ = some (.slice bo d.ts.length bc) := by rw [World.cell?_alloc_new]; rfl
 replace hQ := Lib.hid hQ
 clear h
 go_enter Tryz.func54, Tryz.ntmps54
 go_wp2
 generalize w.alloc (.cells #[.slice ao d.ws.length ac, .slice bo d.ts.length bc, .slice co d.fs.length cc] 26) = W at *
 generalize w.heap.size = H at *
 go_loopw [5] (fun iv wr => ∃ i : Nat, i ≤ d.ts.length ∧ iv = .int .i64 i ∧ (∀ j (hj : j < d.ts.length), j < i → ((d.ts[j]).n.toList == s.toList) = false) ∧ W = wr) (fun iv _ => d.ts.length + 1 - (intOf iv).toNat)
 case atStart => exact ⟨0, Nat.zero_le _, rfl, fun j _ hj => by omega, rfl⟩
 case round =>
  obtain ⟨i, hi, rfl, hall, rfl⟩ := hrel
  by_cases hl : i < d.ts.length
  ·have hlB : decide ((i : Int) < (d.ts.length : Int)) = true := decide_eq_true (by omega)
   have hlI : (i : Int) < (d.ts.length : Int) := by omega
   have hi0 : (0 : Int) ≤ (i : Int) := by omega
   have wk1 : IntKind.i64.wrap ((i : Int) + 1) = (i : Int) + 1 := by rw [IntKind.wrap_i64]; omega
   obtain ⟨a, cap, e1, _, _, hr⟩ := hR.at_ hl
   obtain ⟨rfl, _, rfl⟩ : bo = some a ∧ True ∧ bc = cap := by simpa using e1
   have hn := hr.n
   cases hc : (d.ts[i]).n.toList == s.toList
   ·have HA := Lib.hid (show ∀ j (hj : j < d.ts.length), j < i + 1 → ((d.ts[j]).n.toList == s.toList) = false from fun j hj hj2 => by
     by_cases c : j = i
     ·subst c; exact hc
     ·exact hall j hj (by omega))
    have HL := Lib.hid hl
    generalize d.ts[i].n = N at *
    clear hall hr hR e1 hl hi hlen
    go_wp2
    go_roundw
    case rel => exact ⟨i + 1, by have := HL.out; omega, by go_num, HA.out, trivial⟩
    case measure => have := HL.out; simp [intOf]; omega
   ·have hy := Lib.hid (named_yes hl hc)
    generalize d.ts[i].n = N at *
    clear hall hr hR e1 hi hlen
    go_wp2
    go_ret
    exact ⟨by rw [hy.out]; rfl, hQ.out⟩
  ·have hlB : decide ((i : Int) < (d.ts.length : Int)) = false := decide_eq_false (by omega)
   have hno := Lib.hid (named_no (ws := d.ts) (s := s) (fun j hj => hall j hj (by omega)))
   clear hall hR hi hlen
   go_wp2
   go_ret
   exact ⟨by rw [hno.out]; rfl, hQ.out⟩
end Go.Proofs.YthlileddhgglnaaGreatDoor
namespace Go.Proofs.YthlileddhgglnaaGreatDoor
open Go.RowKit
def isFill (f : Fl) (n : ByteArray) (r c : Int) : Bool := (f.n.toList == n.toList) && decide (f.r = r) && decide (f.c = c)
theorem filled_yes {fs : List Fl} {n : ByteArray} {r c : Int} {i : Nat} (hi : i < fs.length) (h : isFill fs[i] n r c = true) : filledW fs n r c = true := List.any_eq_true.2 ⟨_, List.getElem_mem hi, h⟩
theorem filled_no {fs : List Fl} {n : ByteArray} {r c : Int} (h : ∀ i (hi : i < fs.length), isFill fs[i] n r c = false) : filledW fs n r c = false := by
 refine List.any_eq_false.2 fun x hx => ?_
 obtain ⟨i, hi, rfl⟩ := List.getElem_of_mem hx
 have := h i hi
 unfold isFill at this
 rw [this]
 decide
set_option maxHeartbeats 1000000 in
theorem r8filled_any (wv tv fv : Value) (d : Dk) (n : ByteArray) (r c : Int) (w : World) (h : IsDk w wv tv fv d) : Calls Tryz.prog 56 #[.agg #[wv, tv, fv], .agg #[.string n, .int .i64 r, .int .i64 c]] w fun e w' => e = .returned (.bool (filledW d.fs n r c)) ∧ Q w w' := by
 obtain ⟨ao, ac, bo, bc, co, cc, rfl, rfl, rfl⟩ := h.forms
 have hQ := ((Q.refl w).alloc #[.slice ao d.ws.length ac, .slice bo d.ts.length bc, .slice co d.fs.length cc] 26).alloc #[.string n, .int .i64 r, .int .i64 c] 39
 have hR := h.fs.keepB hQ.b
 have hlen := h.fs.len
 obtain ⟨W, hW⟩ : ∃ W, (w.alloc (.cells #[.slice ao d.ws.length ac, .slice bo d.ts.length bc, .slice co d.fs.length cc] 26)).alloc (.cells #[.string n, .int .i64 r, .int .i64 c] 39) = W := ⟨_, rfl⟩
 have k0 : W.cell? ⟨w.heap.size, 2, none⟩ = some (.slice co d.fs.length cc) := by rw [← hW]; exact ((Q.refl _).alloc _ _).keep (by rw [World.cell?_alloc_new]; rfl)
 have e1 : (w.alloc (.cells #[.slice ao d.ws.length ac, .slice bo d.ts.length bc, .slice co d.fs.length cc] 26)).heap.size = w.heap.size + 1 := by simp
 have k1 : W.cell? ⟨w.heap.size + 1, 0, none⟩ = some (.string n) := by rw [← hW, ← e1, World.cell?_alloc_new]; rfl
 have k2 : W.cell? ⟨w.heap.size + 1, 1, none⟩ = some (.int .i64 r) := by rw [← hW, ← e1, World.cell?_alloc_new]; rfl
 have k3 : W.cell? ⟨w.heap.size + 1, 2, none⟩ = some (.int .i64 c) := by rw [← hW, ← e1, World.cell?_alloc_new]; rfl
 rw [hW] at hR hQ
 replace hQ := Lib.hid hQ
 clear h e1
 go_enter Tryz.func56, Tryz.ntmps56
 go_wp2
 try rw [hW]
 clear hW
 generalize w.heap.size = H at *
 go_loopw [5] (fun iv wr => ∃ i : Nat, i ≤ d.fs.length ∧ iv = .int .i64 i ∧ (∀ j (hj : j < d.fs.length), j < i → isFill d.fs[j] n r c = false) ∧ Q W wr) (fun iv _ => d.fs.length + 1 - (intOf iv).toNat)
 case atStart => exact ⟨0, Nat.zero_le _, rfl, fun j _ hj => by omega, Q.refl _⟩
 case round =>
  obtain ⟨i, hi, rfl, hall, hQi⟩ := hrel
  by_cases hl : i < d.fs.length
  ·have hlB : decide ((i : Int) < (d.fs.length : Int)) = true := decide_eq_true (by omega)
   have hlI : (i : Int) < (d.fs.length : Int) := by omega
   have hi0 : (0 : Int) ≤ (i : Int) := by omega
   have wk1 : IntKind.i64.wrap ((i : Int) + 1) = (i : Int) + 1 := by rw [IntKind.wrap_i64]; omega
   obtain ⟨a, cap, e1, _, _, hr⟩ := (hR.keepB hQi.b).at_ hl
   obtain ⟨rfl, _, rfl⟩ : co = some a ∧ True ∧ cc = cap := by simpa using e1
   obtain ⟨F, hF⟩ : ∃ F, d.fs[i] = F := ⟨_, rfl⟩
   rw [hF] at hr
   obtain ⟨g1, g2, g3, _⟩ := hr
   replace k0 := hQi.keep k0
   replace k1 := hQi.keep k1
   replace k2 := hQi.keep k2
   replace k3 := hQi.keep k3
   have HQ := Lib.hid (hQ.out.trans hQi)
   have HQi := Lib.hid hQi
   clear hQi hR e1
   have q2' : decide (F.r = r) = (F.r == r) := by by_cases h : F.r = r <;> simp [h]
   have q3' : decide (F.c = c) = (F.c == c) := by by_cases h : F.c = c <;> simp [h]
   cases q1 : (F.n.toList == n.toList)
   ·have hf : isFill F n r c = false := by unfold isFill; rw [q1]; simp
    have HA := Lib.hid (show ∀ j (hj : j < d.fs.length), j < i + 1 → isFill d.fs[j] n r c = false from fun j hj hj2 => by
     by_cases x : j = i
     ·subst x; rw [hF]; exact hf
     ·exact hall j hj (by omega))
    have HL := Lib.hid hl
    clear q2' q3' hF
    clear hall hl hi hlen hf
    go_wp2_with fail
    go_quiet (fail)
    go_wp2
    go_roundw
    case rel => exact ⟨i + 1, by have := HL.out; omega, by go_num, HA.out, HQi.out.trans (show Dr _ _ from ⟨_, rfl⟩).q⟩
    case measure => have := HL.out; simp [intOf]; omega
   cases q2 : (F.r == r)
   ·have hf : isFill F n r c = false := by unfold isFill; rw [q2', q2]; simp
    have HA := Lib.hid (show ∀ j (hj : j < d.fs.length), j < i + 1 → isFill d.fs[j] n r c = false from fun j hj hj2 => by
     by_cases x : j = i
     ·subst x; rw [hF]; exact hf
     ·exact hall j hj (by omega))
    have HL := Lib.hid hl
    clear q2' q3' hF
    clear hall hl hi hlen hf
    go_wp2_with fail
    go_quiet (fail)
    go_wp2
    go_roundw
    case rel => exact ⟨i + 1, by have := HL.out; omega, by go_num, HA.out, HQi.out.trans (show Dr _ _ from ⟨_, rfl⟩).q⟩
    case measure => have := HL.out; simp [intOf]; omega
   cases q3 : (F.c == c)
   ·have hf : isFill F n r c = false := by unfold isFill; rw [q3', q3]; simp
    have HA := Lib.hid (show ∀ j (hj : j < d.fs.length), j < i + 1 → isFill d.fs[j] n r c = false from fun j hj hj2 => by
     by_cases x : j = i
     ·subst x; rw [hF]; exact hf
     ·exact hall j hj (by omega))
    have HL := Lib.hid hl
    clear q2' q3' hF
    clear hall hl hi hlen hf
    go_wp2_with fail
    go_quiet (fail)
    go_wp2
    go_roundw
    case rel => exact ⟨i + 1, by have := HL.out; omega, by go_num, HA.out, HQi.out.trans (show Dr _ _ from ⟨_, rfl⟩).q⟩
    case measure => have := HL.out; simp [intOf]; omega
   ·have hy := Lib.hid (filled_yes (n := n) (r := r) (c := c) hl (by rw [hF]; unfold isFill; rw [q1, q2', q2, q3', q3]; rfl))
    clear q2' q3' hF
    clear hall hi hlen
    go_wp2_with fail
    go_quiet (fail)
    go_wp2
    go_ret
    exact ⟨by rw [hy.out]; rfl, HQ.out.trans (show Dr _ _ from ⟨_, rfl⟩).q⟩
  ·have hlB : decide ((i : Int) < (d.fs.length : Int)) = false := decide_eq_false (by omega)
   replace k0 := hQi.keep k0
   have hno := Lib.hid (filled_no (fs := d.fs) (n := n) (r := r) (c := c) (fun j hj => hall j hj (by omega)))
   have HQ := Lib.hid (hQ.out.trans hQi)
   clear hall hR hi hlen hQi
   go_wp2
   go_ret
   exact ⟨by rw [hno.out]; rfl, HQ.out⟩
end Go.Proofs.YthlileddhgglnaaGreatDoor
namespace Go.Proofs.YthlileddhgglnaaGreatDoor
open Go.RowKit
def ApartW (ok : Wr → Bool) (ws : List Wr) : Prop := ∀ i w, ws[i]? = some w → ok w = true ∧ namedW (ws.take i) w.n = false
theorem apartW_iff {ok : Wr → Bool} {ws : List Wr} : apartW ok ws = true ↔ ApartW ok ws := by
 unfold apartW ApartW
 rw [List.all_eq_true]
 constructor
 ·intro h i w hw
  have := h i (List.mem_range.2 (List.getElem?_eq_some_iff.1 hw).1)
  rw [hw] at this
  simpa using this
 ·intro h i hi
  have hi' := List.mem_range.1 hi
  have hw : ws[i]? = some ws[i] := List.getElem?_eq_getElem hi'
  rw [hw]
  have := h i _ hw
  simpa using this
end Go.Proofs.YthlileddhgglnaaGreatDoor
