/-
 Contracts and what they rest on.
-/
import Derived.Test.YtalnfojaccfcjaaGreatDoorZ20
namespace Go.Proofs.YtalnfojaccfcjaaGreatDoor
open Go.RowKit
def RightC : Prop := ∀ (v : Value) (l : List Sec) (w : World), IsSecs w v l → Calls Tryz.prog 54 #[v] w fun e w' => e = .returned (.bool (rightS l)) ∧ B w w'
def soundS (s : Sec) : Bool := boundS s && (s.a1 != 0) && (if s.r then (s.b0 == 0) && (s.b1 == 0) else decide (0 < s.b1))
set_option maxHeartbeats 1000000 in
theorem sound_any (r : Bool) (h a0 b0 a1 b1 : Int) (w : World) :
  Calls Tryz.prog 96 #[.agg #[.bool r, .int .i64 h, .int .i64 a0, .int .i64 b0, .int .i64 a1, .int .i64 b1]] w fun e w' => e = .returned (.bool (soundS ⟨r, h, a0, b0, a1, b1⟩)) ∧ Q w w' := by
 have cB := fun w => bounded_any r h a0 b0 a1 b1 w
 have hS : soundS ⟨r, h, a0, b0, a1, b1⟩ = (boundS ⟨r, h, a0, b0, a1, b1⟩ && (a1 != 0) && (if r then (b0 == 0) && (b1 == 0) else decide (0 < b1))) := rfl
 generalize boundS ⟨r, h, a0, b0, a1, b1⟩ = B0 at *
 rw [hS]
 clear hS
 have hA : ((a1 == 0) = true ∧ (a1 != 0) = false) ∨ ((a1 == 0) = false ∧ (a1 != 0) = true) := by by_cases a1 = 0 <;> simp [*]
 have hZ : (b0 == 0) = true ∨ (b0 == 0) = false := by cases (b0 == 0) <;> simp
 cases B0
 ·simp only [Bool.false_and]
  go_enter Tryz.func96, Tryz.ntmps96
  go_wp2_with fail
  refine (cB _).mono ?_
  rintro e w1 ⟨rfl, g⟩
  replace g := ((Q.refl w).alloc _ _).trans g
  go_wp2
  go_ret
  exact ⟨rfl, g⟩
 rcases hA with ⟨a2, a3⟩ | ⟨a2, a3⟩
 ·rw [a3]
  simp only [Bool.false_and, Bool.and_false]
  go_enter Tryz.func96, Tryz.ntmps96
  go_wp2_with fail
  refine (cB _).mono ?_
  rintro e w1 ⟨rfl, g⟩
  have z4 := g.keep (p := ⟨w.heap.size, 4, none⟩) (v := .int .i64 a1) (by simp [go_sem])
  replace g := ((Q.refl w).alloc _ _).trans g
  go_wp2
  go_ret
  exact ⟨rfl, g⟩
 rw [a3]
 cases r
 ·go_enter Tryz.func96, Tryz.ntmps96
  go_wp2_with fail
  refine (cB _).mono ?_
  rintro e w1 ⟨rfl, g⟩
  have z0 := g.keep (p := ⟨w.heap.size, 0, none⟩) (v := .bool false) (by simp [go_sem])
  have z1 := g.keep (p := ⟨w.heap.size, 1, none⟩) (v := .int .i64 h) (by simp [go_sem])
  have z2 := g.keep (p := ⟨w.heap.size, 2, none⟩) (v := .int .i64 a0) (by simp [go_sem])
  have z3 := g.keep (p := ⟨w.heap.size, 3, none⟩) (v := .int .i64 b0) (by simp [go_sem])
  have z4 := g.keep (p := ⟨w.heap.size, 4, none⟩) (v := .int .i64 a1) (by simp [go_sem])
  have z5 := g.keep (p := ⟨w.heap.size, 5, none⟩) (v := .int .i64 b1) (by simp [go_sem])
  replace g := ((Q.refl w).alloc _ _).trans g
  go_wp2
  go_ret
  exact ⟨by simp, g⟩
 rcases hZ with hZ | hZ
 all_goals
  rw [hZ]
  go_enter Tryz.func96, Tryz.ntmps96
  go_wp2_with fail
  refine (cB _).mono ?_
  rintro e w1 ⟨rfl, g⟩
  have z0 := g.keep (p := ⟨w.heap.size, 0, none⟩) (v := .bool true) (by simp [go_sem])
  have z1 := g.keep (p := ⟨w.heap.size, 1, none⟩) (v := .int .i64 h) (by simp [go_sem])
  have z2 := g.keep (p := ⟨w.heap.size, 2, none⟩) (v := .int .i64 a0) (by simp [go_sem])
  have z3 := g.keep (p := ⟨w.heap.size, 3, none⟩) (v := .int .i64 b0) (by simp [go_sem])
  have z4 := g.keep (p := ⟨w.heap.size, 4, none⟩) (v := .int .i64 a1) (by simp [go_sem])
  have z5 := g.keep (p := ⟨w.heap.size, 5, none⟩) (v := .int .i64 b1) (by simp [go_sem])
  replace g := ((Q.refl w).alloc _ _).trans g
  go_wp2
  go_ret
  exact ⟨by simp, g⟩
theorem secOk_sound (s : Sec) (m : Int) (hm : s.h.tmod 100 = m) : secOk s = (!(decide (s.h < 1)) && !(decide (60000 < s.h)) && !(m != 0) && soundS s) := by
 rw [secOk_eq s m hm]
 have e : soundS s = (inB s.a0 0 20000 && inB s.a1 1 20000 && (if s.r then !(s.b0 != 0) && !(s.b1 != 0) else inB s.b0 0 20000 && inB s.b1 1 20000)) := by
  unfold soundS boundS inB
  cases hr : s.r
  ·rw [Bool.eq_iff_iff]
   simp
   omega
  ·rw [Bool.eq_iff_iff]
   simp
   omega
 rw [e]
 simp only [Bool.and_assoc]
theorem hsum_mono (l : List Sec) (hl : ∀ s ∈ l, 0 ≤ s.h) (j n : Nat) (hjn : j ≤ n) : hsumI l j ≤ hsumI l n := by
 induction n with
 | zero => obtain rfl : j = 0 := by omega
           omega
 | succ n ih =>
  by_cases e : j = n + 1
  ·subst e; omega
  ·have h1 := ih (by omega)
   cases hg : l[n]? with
   | none =>
    have e1 : l.take (n + 1) = l.take n := by rw [List.take_add_one, hg]; simp
    unfold hsumI at *
    rw [e1]; exact h1
   | some s =>
    have := hl s (List.mem_of_getElem? hg)
    rw [hsumI_succ l n s hg]
    omega
theorem rightS_over (l : List Sec) (k : Nat) (s : Sec) (h : l[k]? = some s) (ho : 60000 < hsumI l k + s.h) : rightS l = false := by
 cases e : rightS l
 ·rfl
 ·unfold rightS at e
  simp only [Bool.and_eq_true, decide_eq_true_eq, List.all_eq_true] at e
  obtain ⟨⟨_, ha⟩, hs⟩ := e
  have hk : k < l.length := by
   rw [List.getElem?_eq_some_iff] at h
   exact h.1
  have := hsum_mono l (fun s hs => by have := secOk_h s (ha s hs); omega) (k + 1) l.length (by omega)
  rw [hsumI_succ l k s h] at this
  omega
set_option maxRecDepth 100000 in
set_option maxHeartbeats 2000000 in
theorem right_row (a : Addr) (cap : Nat) (l : List Sec) (h2 : l.length ≤ cap) (h3 : cap ≤ maxLen) (w : World) (h4 : ∀ i s, l[i]? = some s → s.I ∧ SecAt w (a.add (i * 6)) s) :
  Calls Tryz.prog 54 #[.slice (some a) l.length cap] w fun e w' => e = .returned (.bool (rightS l)) ∧ Q w w' := by
 unfold maxLen at h3
 have h5 : l.length ≤ 2 ^ 63 - 1 := Nat.le_trans h2 h3
 clear h2 h3
 by_cases n1 : l.length < 1
 ·rw [rightS_short l n1]
  have n1B : decide ((l.length : Int) < 1) = true := decide_eq_true (by omega)
  clear h4
  go_enter Tryz.func54, Tryz.ntmps54
  go_wp2
  go_ret
  exact ⟨rfl, Q.refl w⟩
 have n1B : decide ((l.length : Int) < 1) = false := decide_eq_false (by omega)
 by_cases n2 : 4 < l.length
 ·rw [rightS_long l n2]
  have n2B : decide ((4 : Int) < (l.length : Int)) = true := decide_eq_true (by omega)
  clear h4
  go_enter Tryz.func54, Tryz.ntmps54
  go_wp2
  go_ret
  exact ⟨rfl, Q.refl w⟩
 have n2B : decide ((4 : Int) < (l.length : Int)) = false := decide_eq_false (by omega)
 go_enter Tryz.func54, Tryz.ntmps54
 go_wp2
 go_loopw [3, 16] (fun lf i wr => ∃ (k : Nat), k ≤ l.length ∧ i = .int .i64 k ∧ lf = .int .i64 (60000 - hsumI l k) ∧ 0 ≤ hsumI l k ∧ hsumI l k ≤ 60000 ∧ okTo l k = true ∧ Q w wr) (fun _ i _ => l.length - (intOf i).toNat)
 case atStart => exact ⟨0, Nat.zero_le _, rfl, rfl, by simp [hsumI], by simp [hsumI], rfl, Q.refl w⟩
 case round =>
  obtain ⟨k, hk, rfl, rfl, t1, t2, hok, hq⟩ := hrel
  by_cases hl : k < l.length
  ·have hlB : decide (k < l.length) = true := decide_eq_true hl
   have hg := List.getElem?_eq_getElem hl
   have hs := (h4 k _ hg).2.keep hq
   have hsu := hsumI_succ l k _ hg
   have hoku := okTo_succ l k _ hg hok
   have hbad := rightS_bad l k _ hg
   have hover := rightS_over l k _ hg
   clear h4 hok
   generalize l[k] = s at *
   generalize hsumI l k = t at *
   obtain ⟨r, h, a0, b0, a1, b1⟩ := s
   obtain ⟨f0, f1, f2, f3, f4, f5⟩ := hs
   obtain ⟨m, hm1⟩ : ∃ m, h.tmod 100 = m := ⟨_, rfl⟩
   have hsec := secOk_sound ⟨r, h, a0, b0, a1, b1⟩ m hm1
   have cS := fun w => sound_any r h a0 b0 a1 b1 w
   obtain ⟨lf, hlf⟩ : ∃ lf, 60000 - t = lf := ⟨_, rfl⟩
   rw [hlf]
   simp only at f0 f1 f2 f3 f4 f5 hsu hsec hover
   have HS := Lib.hid hsu
   have HM := Lib.hid hg
   clear hsu hg
   by_cases k1' : h < 1
   ·have k1 : decide (h < 1) = true := decide_eq_true k1'
    have HB := Lib.hid (hbad (by rw [hsec]; simp [k1]))
    clear hbad hsec hoku hover cS
    go_wp2
    go_ret
    exact ⟨by rw [HB.out]; rfl, hq.alloc _ _⟩
   have k1 : decide (h < 1) = false := decide_eq_false k1'
   by_cases k2' : lf < h
   ·have k2 : decide (lf < h) = true := decide_eq_true k2'
    have HB := Lib.hid (hover (by omega))
    clear hbad hsec hoku hover cS
    go_wp2
    go_ret
    exact ⟨by rw [HB.out]; rfl, hq.alloc _ _⟩
   have k2 : decide (lf < h) = false := decide_eq_false k2'
   have k2b : decide (60000 < h) = false := decide_eq_false (by omega)
   have k3 : (m != 0) = true ∨ (m != 0) = false := by cases (m != 0) <;> simp
   rcases k3 with k3 | k3
   ·have HB := Lib.hid (hbad (by rw [hsec]; simp [k1, k2b, k3]))
    clear hbad hsec hoku hover cS k2b
    go_wp2
    go_ret
    exact ⟨by rw [HB.out]; rfl, hq.alloc _ _⟩
   generalize soundS ⟨r, h, a0, b0, a1, b1⟩ = s0 at *
   cases s0
   ·have HB := Lib.hid (hbad (by rw [hsec]; simp))
    clear hbad hsec hoku hover k2b
    go_wp2_with fail
    refine (cS _).mono ?_
    rintro e w1 ⟨rfl, g⟩
    replace g := (hq.alloc _ _).trans g
    go_wp2
    go_ret
    exact ⟨by rw [HB.out]; rfl, g⟩
   ·have HO := Lib.hid (hoku (by rw [hsec]; simp [k1, k2b, k3]))
    have e1 : IntKind.i64.wrap (lf - h) = lf - h := wrapI (by omega) (by omega)
    clear hbad hsec hoku hover k2b
    go_wp2_with fail
    refine (cS _).mono ?_
    rintro e w1 ⟨rfl, g⟩
    have z1 := g.keep (p := ⟨wr.heap.size, 1, none⟩) (v := .int .i64 h) (by simp [go_sem])
    replace g := (hq.alloc _ _).trans g
    go_wp2
    go_roundw
    case rel => exact ⟨k + 1, by omega, by go_num, by rw [HS.out]; congr 1; omega, by rw [HS.out]; omega, by rw [HS.out]; omega, HO.out, g⟩
    case measure => simp [intOf]; omega
  ·have hlB : decide (k < l.length) = false := decide_eq_false hl
   obtain rfl : k = l.length := by omega
   have HE := Lib.hid ((rightS_end l (by omega) (by omega) hok).trans (decide_eq_true t2))
   clear h4 hok
   go_wp2
   go_ret
   exact ⟨by rw [HE.out]; rfl, hq⟩
theorem right_code : RightC := by
 intro v l w hv
 rcases hv with ⟨rfl, rfl⟩ | ⟨a, cap, rfl, h2, h3, h4⟩
 ·rw [rightS_short [] (by simp)]
  go_enter Tryz.func54, Tryz.ntmps54
  go_wp2
  go_ret
  exact ⟨rfl, B.refl w⟩
 ·exact (right_row a cap l h2 h3 w h4).mono fun _ _ h => ⟨h.1, h.2.b⟩
end Go.Proofs.YtalnfojaccfcjaaGreatDoor
namespace Go.Proofs.YtalnfojaccfcjaaGreatDoor
open Go.RowKit
set_option linter.unusedVariables false
theorem StAt.piece {w : World} {base S bw bt bf : Nat} {wv tv fv pv pv' : Value} {head : Int} {d : Dk} {nw nt : List ByteArray} {fl : List Fl} {ss tt : List Value} (h : StAt w base S bw bt bf wv tv fv pv head d nw nt fl ss tt) :
  StAt (w.setCell ⟨S, 6, none⟩ pv') base S bw bt bf wv tv fv pv' head d nw nt fl ss tt := by
 have oth : ∀ i, i ≠ S → (w.setCell ⟨S, 6, none⟩ pv').heap[i]? = w.heap[i]? := fun i hi => Below.heap_setCell _ ⟨S, 6, none⟩ _ i hi
 have mapS : ∀ {b : Nat}, (∃ es c, w.heap[b]? = some (.map es c)) → b ≠ S := fun {b} ⟨es, c, hb⟩ e => by
  rw [e, h.obj] at hb
  cases hb
 exact ⟨obj_set h.obj 6 _, h.rows.tn (K := [some 120]) (b := base) ((Tn.refl _ base w).set (p := ⟨S, 6, none⟩) h.obj (by decide) h.gS _) (by decide) (by decide) (by decide) (by decide), h.mw.same (oth _ (mapS h.mw.obj)), h.mt.same (oth _ (mapS h.mt.obj)), h.mf.same (oth _ (mapS h.mf.obj)), h.gS, h.gw, h.gt, h.gf, h.n1, h.n2, h.n3⟩
set_option maxRecDepth 100000 in
set_option maxHeartbeats 1000000 in
theorem finish0_any (w : World) (base S bw bt bf : Nat) (wv tv fv : Value) (head : Int) (d : Dk) (nw nt : List ByteArray) (fl : List Fl) (ss tt : List Value) (hS : StAt w base S bw bt bf wv tv fv (.pointer none) head d nw nt fl ss tt) :
  Calls Tryz.prog 73 #[.pointer (some ⟨S, 0, none⟩)] w fun r w' => r = .returned (.agg #[.int .i64 0, .int .i64 0]) ∧ StAt w' base S bw bt bf wv tv fv (.pointer none) head d nw nt fl ss tt ∧ Tn kS base w w' := by
 have q0 : B w (w.alloc (.cells #[.int .i64 0, .int .i64 0] 137)) := (B.refl w).alloc _ _
 have hS1 := hS.b q0
 have oR := obj_new w (.cells #[.int .i64 0, .int .i64 0] 137)
 have hSl := obj_lt hS.obj
 have s6 : w.cell? ⟨S, 6, none⟩ = some (.pointer none) := obj_cell hS.obj 6
 have sf := obj_free hS.obj 6
 go_enter Tryz.func73, Tryz.ntmps73
 go_wp2
 refine bodyPost_ret (v := .agg #[.int .i64 0, .int .i64 0]) (by simp [results, Tryz.results73, go_sem]) rfl ⟨rfl, (hS.piece (pv' := .pointer none)).b ((B.refl _).alloc _ _), ((Tn.refl kS base w).set (p := ⟨S, 6, none⟩) hS.obj (by decide) hS.gS _).alloc _ _⟩
set_option maxRecDepth 100000 in
set_option maxHeartbeats 1000000 in
theorem finish_no (w : World) (base S bw bt bf g k : Nat) (wv tv fv v : Value) (l : List Sec) (head : Int) (d : Dk) (nw nt : List ByteArray) (fl : List Fl) (ss tt : List Value) (hS : StAt w base S bw bt bf wv tv fv (.pointer (some ⟨g, k, none⟩)) head d nw nt fl ss tt)
  (hv : w.cell? ⟨g, k, none⟩ = some v) (hl : IsSecs w v l) (hgS : g ≠ S) (hr : rightS l = false) :
  Calls Tryz.prog 73 #[.pointer (some ⟨S, 0, none⟩)] w fun r w' => r = .returned (.agg #[.int .i64 head, .int .i64 23]) ∧ Tn kS base w w' := by
 have q0 : B w (w.alloc (.cells #[.int .i64 0, .int .i64 0] 137)) := (B.refl w).alloc _ _
 have cR := fun w h => right_code v l w h
 have oR := obj_new w (.cells #[.int .i64 0, .int .i64 0] 137)
 have hSl := obj_lt hS.obj
 have hgl := World.block_lt_of_cell? w _ hv
 have s6 : w.cell? ⟨S, 6, none⟩ = some (.pointer (some ⟨g, k, none⟩)) := obj_cell hS.obj 6
 have hl1 := hl.keepB q0
 obtain ⟨vo, vc, rfl⟩ := secs_form hl
 generalize l.length = ln at *
 have oth2 : ∀ (w' : World) (q x y : Value) (i H : Nat), i ≠ H → ((w'.setCell ⟨H, 0, none⟩ x).setCell ⟨H, 1, none⟩ y).heap[i]? = w'.heap[i]? := fun w' q x y i H hi =>
  (Below.heap_setCell _ ⟨H, 1, none⟩ _ i hi).trans (Below.heap_setCell _ ⟨H, 0, none⟩ _ i hi)
 have qN : ∀ (b : World), B (w.alloc (.cells #[.int .i64 0, .int .i64 0] 137)) b → ∀ x y, Tn kS base w ((b.setCell ⟨w.heap.size, 0, none⟩ x).setCell ⟨w.heap.size, 1, none⟩ y) := fun b qb x y =>
  (Tn.setNew (p := ⟨w.heap.size, 0, none⟩) ((q0.trans qb).tn kS base) (Nat.le_refl _) x).setNew (p := ⟨w.heap.size, 1, none⟩) (Nat.le_refl _) y
 have qN2 : ∀ (b : World), Tn kS base w b → ∀ x y, Tn kS base w ((b.setCell ⟨w.heap.size, 0, none⟩ x).setCell ⟨w.heap.size, 1, none⟩ y) := fun b qb x y =>
  (Tn.setNew (p := ⟨w.heap.size, 0, none⟩) qb (Nat.le_refl _) x).setNew (p := ⟨w.heap.size, 1, none⟩) (Nat.le_refl _) y
 rw [hr] at cR
 go_enter Tryz.func73, Tryz.ntmps73
 go_wp2_with fail
 refine (Calls.mono (cR _ hl1) ?_)
 rintro _ w1 ⟨rfl, q1⟩
 have hS1 := (hS.b q0).b q1
 have oR1 := q1.obj oR
 have s7 : w1.cell? ⟨S, 7, none⟩ = some (.int .i64 head) := obj_cell hS1.obj 7
 have b0 : w1.cell? ⟨w.heap.size, 0, none⟩ = some (.int .i64 0) := obj_cell oR1 0
 have b1 : w1.cell? ⟨w.heap.size, 1, none⟩ = some (.int .i64 0) := obj_cell oR1 1
 have e0 := obj_free oR1 0
 have e1 := obj_free oR1 1
 have hq := qN w1 q1 (.int .i64 head) (.int .i64 23)
 clear qN qN2 oth2 cR hl1 oR q1 q0
 generalize w.heap.size = H at *
 go_wp2
 have oF := obj_set (obj_set oR1 0 (.int .i64 head)) 1 (.int .i64 23)
 have c0 := obj_cell oF 0
 have c1 := obj_cell oF 1
 exact bodyPost_ret (v := .agg #[.int .i64 head, .int .i64 23]) (by simp [results, Tryz.results73, go_sem, c0, c1]) rfl ⟨rfl, hq⟩
set_option maxRecDepth 100000 in
set_option maxHeartbeats 1000000 in
theorem finish_yes (w : World) (base S bw bt bf g k : Nat) (wv tv fv v : Value) (l : List Sec) (head : Int) (d : Dk) (nw nt : List ByteArray) (fl : List Fl) (ss tt : List Value) (hS : StAt w base S bw bt bf wv tv fv (.pointer (some ⟨g, k, none⟩)) head d nw nt fl ss tt)
  (hv : w.cell? ⟨g, k, none⟩ = some v) (hl : IsSecs w v l) (hgS : g ≠ S) (hr : rightS l = true) :
  Calls Tryz.prog 73 #[.pointer (some ⟨S, 0, none⟩)] w fun r w' => r = .returned (.agg #[.int .i64 0, .int .i64 0]) ∧ StAt w' base S bw bt bf wv tv fv (.pointer none) head d nw nt fl ss tt ∧ Tn kS base w w' := by
 have q0 : B w (w.alloc (.cells #[.int .i64 0, .int .i64 0] 137)) := (B.refl w).alloc _ _
 have cR := fun w h => right_code v l w h
 have oR := obj_new w (.cells #[.int .i64 0, .int .i64 0] 137)
 have hSl := obj_lt hS.obj
 have hgl := World.block_lt_of_cell? w _ hv
 have s6 : w.cell? ⟨S, 6, none⟩ = some (.pointer (some ⟨g, k, none⟩)) := obj_cell hS.obj 6
 have hl1 := hl.keepB q0
 obtain ⟨vo, vc, rfl⟩ := secs_form hl
 generalize l.length = ln at *
 have oth2 : ∀ (w' : World) (q x y : Value) (i H : Nat), i ≠ H → ((w'.setCell ⟨H, 0, none⟩ x).setCell ⟨H, 1, none⟩ y).heap[i]? = w'.heap[i]? := fun w' q x y i H hi =>
  (Below.heap_setCell _ ⟨H, 1, none⟩ _ i hi).trans (Below.heap_setCell _ ⟨H, 0, none⟩ _ i hi)
 have qN : ∀ (b : World), B (w.alloc (.cells #[.int .i64 0, .int .i64 0] 137)) b → ∀ x y, Tn kS base w ((b.setCell ⟨w.heap.size, 0, none⟩ x).setCell ⟨w.heap.size, 1, none⟩ y) := fun b qb x y =>
  (Tn.setNew (p := ⟨w.heap.size, 0, none⟩) ((q0.trans qb).tn kS base) (Nat.le_refl _) x).setNew (p := ⟨w.heap.size, 1, none⟩) (Nat.le_refl _) y
 have qN2 : ∀ (b : World), Tn kS base w b → ∀ x y, Tn kS base w ((b.setCell ⟨w.heap.size, 0, none⟩ x).setCell ⟨w.heap.size, 1, none⟩ y) := fun b qb x y =>
  (Tn.setNew (p := ⟨w.heap.size, 0, none⟩) qb (Nat.le_refl _) x).setNew (p := ⟨w.heap.size, 1, none⟩) (Nat.le_refl _) y
 rw [hr] at cR
 go_enter Tryz.func73, Tryz.ntmps73
 go_wp2_with fail
 refine (Calls.mono (cR _ hl1) ?_)
 rintro _ w1 ⟨rfl, q1⟩
 have hS1 := (hS.b q0).b q1
 have oR1 := q1.obj oR
 have hHS : w.heap.size ≠ S := by omega
 have hS2 := hS1.piece (pv' := .pointer none)
 have oR2 : (w1.setCell ⟨S, 6, none⟩ (.pointer none)).heap[w.heap.size]? = _ := (Below.heap_setCell _ ⟨S, 6, none⟩ _ _ hHS).trans oR1
 have s6 : w1.cell? ⟨S, 6, none⟩ = some (.pointer (some ⟨g, k, none⟩)) := obj_cell hS1.obj 6
 have sf := obj_free hS1.obj 6
 have b0 : (w1.setCell ⟨S, 6, none⟩ (.pointer none)).cell? ⟨w.heap.size, 0, none⟩ = some (.int .i64 0) := obj_cell oR2 0
 have b1 : (w1.setCell ⟨S, 6, none⟩ (.pointer none)).cell? ⟨w.heap.size, 1, none⟩ = some (.int .i64 0) := obj_cell oR2 1
 have e0 := obj_free oR2 0
 have e1 := obj_free oR2 1
 have hq := qN2 _ (Tn.set (p := ⟨S, 6, none⟩) ((q0.trans q1).tn kS base) hS1.obj (by decide) hS.gS (.pointer none)) (.int .i64 0) (.int .i64 0)
 have hlast := hS2.tn (K := [some 137]) (b := 0) (Tn.set (p := ⟨w.heap.size, 1, none⟩) (Tn.set (p := ⟨w.heap.size, 0, none⟩) (Tn.refl _ 0 _) oR2 (by decide) (Nat.zero_le _) (.int .i64 0)) (obj_set oR2 0 (.int .i64 0)) (by decide) (Nat.zero_le _) (.int .i64 0)) (by decide) (by decide) (by decide) (by decide) (by decide) (by decide)
 clear qN qN2 oth2 cR hl1 oR q1 q0 hHS
 generalize w.heap.size = H at *
 go_wp2
 have oF := obj_set (obj_set oR2 0 (.int .i64 0)) 1 (.int .i64 0)
 have c0 := obj_cell oF 0
 have c1 := obj_cell oF 1
 exact bodyPost_ret (v := .agg #[.int .i64 0, .int .i64 0]) (by simp [results, Tryz.results73, go_sem, c0, c1]) rfl ⟨rfl, hlast, hq⟩
end Go.Proofs.YtalnfojaccfcjaaGreatDoor
namespace Go.Proofs.YtalnfojaccfcjaaGreatDoor
open Go.RowKit
set_option linter.unusedVariables false
def lenS (s : ByteArray) : Int := if (s.toList == [102, 105, 108, 108]) = true then 3 else if (s.toList == [114, 111, 117, 110, 100]) = true then 4 else if (s.toList == [119, 97, 114, 101]) = true then 5 else if (s.toList == [116, 105, 112]) = true then 5 else if (s.toList == [98, 111, 120]) = true then 6 else 0
theorem length9_any (s : ByteArray) (w : World) : Calls Tryz.prog 71 #[.string s] w fun e w' => e = .returned (.int .i64 (lenS s)) ∧ w = w' := by
 unfold lenS
 cases h1 : s.toList == [102, 105, 108, 108]
 ·cases h2 : s.toList == [114, 111, 117, 110, 100]
  ·cases h3 : s.toList == [119, 97, 114, 101]
   ·cases h4 : s.toList == [116, 105, 112]
    ·cases h5 : s.toList == [98, 111, 120]
     all_goals
      go_enter Tryz.func71, Tryz.ntmps71
      go_wp2
      go_ret
      exact ⟨rfl, rfl⟩
    ·go_enter Tryz.func71, Tryz.ntmps71
     go_wp2
     go_ret
     exact ⟨rfl, rfl⟩
   ·go_enter Tryz.func71, Tryz.ntmps71
    go_wp2
    go_ret
    exact ⟨rfl, rfl⟩
  ·go_enter Tryz.func71, Tryz.ntmps71
   go_wp2
   go_ret
   exact ⟨rfl, rfl⟩
 ·go_enter Tryz.func71, Tryz.ntmps71
  go_wp2
  go_ret
  exact ⟨rfl, rfl⟩
def fullS (s : ByteArray) (nw nt : Nat) : Bool := if (s.toList == [119, 97, 114, 101]) = true then decide (nw = 8) else if (s.toList == [116, 105, 112]) = true then decide (nt = 4) else false
theorem dec_nat (n k : Nat) : ((n : Int) == (k : Int)) = decide (n = k) := by
 by_cases h : n = k
 ·simp [h]
 ·simp [h]; omega
theorem full_any (w : World) (S : Nat) (s : ByteArray) (ao bo : Option Addr) (nw nt ac bc : Nat) (fv m1 m2 m3 pv hv : Value) (hS : w.heap[S]? = some (.cells #[.slice ao nw ac, .slice bo nt bc, fv, m1, m2, m3, pv, hv] 120 (0, 0))) :
  Calls Tryz.prog 102 #[.pointer (some ⟨S, 0, none⟩), .string s] w fun e w' => e = .returned (.bool (fullS s nw nt)) ∧ w = w' := by
 have s0 : w.cell? ⟨S, 0, none⟩ = some (.slice ao nw ac) := obj_cell hS 0
 have s1 : w.cell? ⟨S, 1, none⟩ = some (.slice bo nt bc) := obj_cell hS 1
 have d8 := dec_nat nw 8
 have d4 := dec_nat nt 4
 unfold fullS
 cases h3 : s.toList == [119, 97, 114, 101]
 ·cases h4 : s.toList == [116, 105, 112]
  ·clear d8 d4
   go_enter Tryz.func102, Tryz.ntmps102
   go_wp2
   go_ret
   exact ⟨rfl, rfl⟩
  ·clear d8
   go_enter Tryz.func102, Tryz.ntmps102
   go_wp2
   go_ret
   exact ⟨by first | rfl | simp_all, rfl⟩
 ·clear d4
  go_enter Tryz.func102, Tryz.ntmps102
  go_wp2
  go_ret
  exact ⟨by first | rfl | simp_all, rfl⟩
end Go.Proofs.YtalnfojaccfcjaaGreatDoor
namespace Go.Proofs.YtalnfojaccfcjaaGreatDoor
open Go.RowKit
set_option linter.unusedVariables false
set_option maxRecDepth 100000 in
set_option maxHeartbeats 1600000 in
theorem line_shape (Wb w : World) (base S : Nat) (v : Value) (k : Wd) (l : List Wd) (p e : Int) (P : World → Prop) (hb : Wb.heap.size ≤ base) (hB : B Wb w) (hbw : base ≤ w.heap.size) (hv : IsWd Wb v (k :: l)) (hPs : ∀ w, P w → S < w.heap.size) (hr : ((strB k.2).toList == [114, 111, 117, 110, 100]) = false) (hbx : ((strB k.2).toList == [98, 111, 120]) = false) (he : e ≠ 0)
  (hfin : ∀ w', B w w' → Calls Tryz.prog 73 #[.pointer (some ⟨S, 0, none⟩)] w' fun r w'' => r = .returned (.agg #[.int .i64 p, .int .i64 e]) ∧ P w'' ∧ Tn kS base w' w'')
  :
  Calls Tryz.prog 72 #[.pointer (some ⟨S, 0, none⟩), v] w fun r w' => r = .returned (.agg #[.int .i64 p, .int .i64 e]) ∧ Tn kS base w w' := by
 obtain ⟨g, o, cap, rfl, h2, h3, h4⟩ := hv
 obtain ⟨x0, x1⟩ : w.cell? ⟨g, o, none⟩ = some (.int .i64 ((k.1 : Nat) : Int)) ∧ w.cell? ⟨g, o + 1, none⟩ = some (.string (strB k.2)) := by
  have := h4 0 k rfl
  exact ⟨hB.keep (by simpa using this.1), hB.keep (by simpa using this.2)⟩
 have hgl := World.block_lt_of_cell? w _ x0
 have hl0 : (0 : Int) < ((l.length : Int) + 1) := by omega
 have hcap : (l.length : Int) + 1 ≤ (cap : Int) := by simp at h2; omega
 have q0 : B w ((w.alloc (.cells #[.int .i64 0, .int .i64 0] 137)).alloc (.cells #[.int .i64 ((k.1 : Nat) : Int), .string (strB k.2)] 134)) := ((B.refl w).alloc _ _).alloc _ _
 have oH := obj_past (obj_new w (.cells #[.int .i64 0, .int .i64 0] 137)) (.cells #[.int .i64 ((k.1 : Nat) : Int), .string (strB k.2)] 134)
 have oF := obj_new (w.alloc (.cells #[.int .i64 0, .int .i64 0] 137)) (.cells #[.int .i64 ((k.1 : Nat) : Int), .string (strB k.2)] 134)
 have hNew : ∀ (b : World), Tn kS base w b → ∀ x y, Tn kS base w ((b.setCell ⟨w.heap.size, 0, none⟩ x).setCell ⟨w.heap.size, 1, none⟩ y) := fun b h x y =>
  (h.setNew (p := ⟨w.heap.size, 0, none⟩) (Nat.le_refl _) x).setNew (p := ⟨w.heap.size, 1, none⟩) (Nat.le_refl _) y
 have hsz : (w.alloc (.cells #[.int .i64 0, .int .i64 0] 137)).heap.size = w.heap.size + 1 := by simp
 rw [hsz] at oF
 clear hsz
 replace hfin := hfin _ q0
 go_enter Tryz.func72, Tryz.ntmps72
 go_wp2_with fail
 refine (Calls.mono hfin ?_)
 rintro _ w1 ⟨rfl, hP1, t1⟩
 clear hfin
 replace oH := t1.objc oH (by decide)
 replace oF := t1.objc oF (by decide)
 have tw : Tn kS base w w1 := (q0.tn _ _).trans t1
 replace hNew := fun b h x y => hNew b h x y
 generalize hH : w.heap.size = H at *
 have n0 : w1.cell? ⟨H + 1, 0, none⟩ = some (.int .i64 ((k.1 : Nat) : Int)) := obj_cell oF 0
 have n1 : w1.cell? ⟨H + 1, 1, none⟩ = some (.string (strB k.2)) := obj_cell oF 1
 have r0 : w1.cell? ⟨H, 0, none⟩ = some (.int .i64 0) := obj_cell oH 0
 have r1 : w1.cell? ⟨H, 1, none⟩ = some (.int .i64 0) := obj_cell oH 1
 have e0 := obj_free oH 0
 have e1 := obj_free oH 1
 have hH1 := obj_lt oF
 have hHl := obj_lt oH
 clear x0 x1 q0 t1 hgl
 have hSl := hPs _ hP1
 have hne : (e != 0) = true := by simpa using he
 go_wp2
 have oE := obj_past (obj_set (obj_set oH 0 (.int .i64 p)) 1 (.int .i64 e)) (.cells #[.int .i64 p, .int .i64 e] 137)
 have c0 := obj_cell oE 0
 have c1 := obj_cell oE 1
 exact bodyPost_ret (v := .agg #[.int .i64 p, .int .i64 e]) (by simp [results, Tryz.results72, go_sem, c0, c1]) rfl ⟨rfl, (hNew _ tw _ _).alloc _ _⟩
set_option maxRecDepth 100000 in
set_option maxHeartbeats 1600000 in
theorem line_word (Wb w : World) (base S : Nat) (v : Value) (k : Wd) (l : List Wd) (P : World → Prop) (hb : Wb.heap.size ≤ base) (hB : B Wb w) (hbw : base ≤ w.heap.size) (hv : IsWd Wb v (k :: l)) (hPs : ∀ w, P w → S < w.heap.size) (hr : ((strB k.2).toList == [114, 111, 117, 110, 100]) = false) (hbx : ((strB k.2).toList == [98, 111, 120]) = false) (hlen : ((l.length : Int) + 1 == lenS (strB k.2)) = false)
  (hfin : ∀ w', B w w' → Calls Tryz.prog 73 #[.pointer (some ⟨S, 0, none⟩)] w' fun r w'' => r = .returned (.agg #[.int .i64 0, .int .i64 0]) ∧ P w'' ∧ Tn kS base w' w'')
  (hPB : ∀ w' w'', B w' w'' → P w' → P w'')
  :
  Calls Tryz.prog 72 #[.pointer (some ⟨S, 0, none⟩), v] w fun r w' => r = .returned (.agg #[.int .i64 ((k.1 : Nat) : Int), .int .i64 24]) ∧ Tn kS base w w' := by
 obtain ⟨g, o, cap, rfl, h2, h3, h4⟩ := hv
 obtain ⟨x0, x1⟩ : w.cell? ⟨g, o, none⟩ = some (.int .i64 ((k.1 : Nat) : Int)) ∧ w.cell? ⟨g, o + 1, none⟩ = some (.string (strB k.2)) := by
  have := h4 0 k rfl
  exact ⟨hB.keep (by simpa using this.1), hB.keep (by simpa using this.2)⟩
 have hgl := World.block_lt_of_cell? w _ x0
 have hl0 : (0 : Int) < ((l.length : Int) + 1) := by omega
 have hcap : (l.length : Int) + 1 ≤ (cap : Int) := by simp at h2; omega
 have q0 : B w ((w.alloc (.cells #[.int .i64 0, .int .i64 0] 137)).alloc (.cells #[.int .i64 ((k.1 : Nat) : Int), .string (strB k.2)] 134)) := ((B.refl w).alloc _ _).alloc _ _
 have oH := obj_past (obj_new w (.cells #[.int .i64 0, .int .i64 0] 137)) (.cells #[.int .i64 ((k.1 : Nat) : Int), .string (strB k.2)] 134)
 have oF := obj_new (w.alloc (.cells #[.int .i64 0, .int .i64 0] 137)) (.cells #[.int .i64 ((k.1 : Nat) : Int), .string (strB k.2)] 134)
 have hNew : ∀ (b : World), Tn kS base w b → ∀ x y, Tn kS base w ((b.setCell ⟨w.heap.size, 0, none⟩ x).setCell ⟨w.heap.size, 1, none⟩ y) := fun b h x y =>
  (h.setNew (p := ⟨w.heap.size, 0, none⟩) (Nat.le_refl _) x).setNew (p := ⟨w.heap.size, 1, none⟩) (Nat.le_refl _) y
 have hsz : (w.alloc (.cells #[.int .i64 0, .int .i64 0] 137)).heap.size = w.heap.size + 1 := by simp
 rw [hsz] at oF
 clear hsz
 replace hfin := hfin _ q0
 go_enter Tryz.func72, Tryz.ntmps72
 go_wp2_with fail
 refine (Calls.mono hfin ?_)
 rintro _ w1 ⟨rfl, hP1, t1⟩
 clear hfin
 replace oH := t1.objc oH (by decide)
 replace oF := t1.objc oF (by decide)
 have tw : Tn kS base w w1 := (q0.tn _ _).trans t1
 replace hNew := fun b h x y => hNew b h x y
 generalize hH : w.heap.size = H at *
 have n0 : w1.cell? ⟨H + 1, 0, none⟩ = some (.int .i64 ((k.1 : Nat) : Int)) := obj_cell oF 0
 have n1 : w1.cell? ⟨H + 1, 1, none⟩ = some (.string (strB k.2)) := obj_cell oF 1
 have r0 : w1.cell? ⟨H, 0, none⟩ = some (.int .i64 0) := obj_cell oH 0
 have r1 : w1.cell? ⟨H, 1, none⟩ = some (.int .i64 0) := obj_cell oH 1
 have e0 := obj_free oH 0
 have e1 := obj_free oH 1
 have hH1 := obj_lt oF
 have hHl := obj_lt oH
 clear x0 x1 q0 t1 hgl
 have hSl := hPs _ hP1
 have cl := fun w => length9_any (strB k.2) w
 generalize lenS (strB k.2) = LN at *
 have hln : ((l.length : Int) + 1 != LN) = true := by rw [bne, hlen]; rfl
 go_wp2_with ((go_at_call 71; refine (cl _).mono ?_; rintro _ _ ⟨rfl, rfl⟩))
 have oE := obj_past (obj_set (obj_set oH 0 (.int .i64 ((k.1 : Nat) : Int))) 1 (.int .i64 24)) (.cells #[.int .i64 0, .int .i64 0] 137)
 have c0 := obj_cell oE 0
 have c1 := obj_cell oE 1
 exact bodyPost_ret (v := .agg #[.int .i64 ((k.1 : Nat) : Int), .int .i64 24]) (by simp [results, Tryz.results72, go_sem, c0, c1]) rfl ⟨rfl, (hNew _ tw _ _).alloc _ _⟩
set_option maxRecDepth 100000 in
set_option maxHeartbeats 1600000 in
theorem line_full (Wb w : World) (base S : Nat) (v : Value) (k : Wd) (l : List Wd) (P : World → Prop) (hb : Wb.heap.size ≤ base) (hB : B Wb w) (hbw : base ≤ w.heap.size) (hv : IsWd Wb v (k :: l)) (hPs : ∀ w, P w → S < w.heap.size) (hr : ((strB k.2).toList == [114, 111, 117, 110, 100]) = false) (hbx : ((strB k.2).toList == [98, 111, 120]) = false) (hlen : ((l.length : Int) + 1 == lenS (strB k.2)) = true)
  (hfin : ∀ w', B w w' → Calls Tryz.prog 73 #[.pointer (some ⟨S, 0, none⟩)] w' fun r w'' => r = .returned (.agg #[.int .i64 0, .int .i64 0]) ∧ P w'' ∧ Tn kS base w' w'')
  (hPB : ∀ w' w'', B w' w'' → P w' → P w'')
  (hfull : ∀ w', P w' → Calls Tryz.prog 102 #[.pointer (some ⟨S, 0, none⟩), .string (strB k.2)] w' fun e w'' => e = .returned (.bool true) ∧ w' = w'')
  :
  Calls Tryz.prog 72 #[.pointer (some ⟨S, 0, none⟩), v] w fun r w' => r = .returned (.agg #[.int .i64 ((k.1 : Nat) : Int), .int .i64 27]) ∧ Tn kS base w w' := by
 obtain ⟨g, o, cap, rfl, h2, h3, h4⟩ := hv
 obtain ⟨x0, x1⟩ : w.cell? ⟨g, o, none⟩ = some (.int .i64 ((k.1 : Nat) : Int)) ∧ w.cell? ⟨g, o + 1, none⟩ = some (.string (strB k.2)) := by
  have := h4 0 k rfl
  exact ⟨hB.keep (by simpa using this.1), hB.keep (by simpa using this.2)⟩
 have hgl := World.block_lt_of_cell? w _ x0
 have hl0 : (0 : Int) < ((l.length : Int) + 1) := by omega
 have hcap : (l.length : Int) + 1 ≤ (cap : Int) := by simp at h2; omega
 have q0 : B w ((w.alloc (.cells #[.int .i64 0, .int .i64 0] 137)).alloc (.cells #[.int .i64 ((k.1 : Nat) : Int), .string (strB k.2)] 134)) := ((B.refl w).alloc _ _).alloc _ _
 have oH := obj_past (obj_new w (.cells #[.int .i64 0, .int .i64 0] 137)) (.cells #[.int .i64 ((k.1 : Nat) : Int), .string (strB k.2)] 134)
 have oF := obj_new (w.alloc (.cells #[.int .i64 0, .int .i64 0] 137)) (.cells #[.int .i64 ((k.1 : Nat) : Int), .string (strB k.2)] 134)
 have hNew : ∀ (b : World), Tn kS base w b → ∀ x y, Tn kS base w ((b.setCell ⟨w.heap.size, 0, none⟩ x).setCell ⟨w.heap.size, 1, none⟩ y) := fun b h x y =>
  (h.setNew (p := ⟨w.heap.size, 0, none⟩) (Nat.le_refl _) x).setNew (p := ⟨w.heap.size, 1, none⟩) (Nat.le_refl _) y
 have hsz : (w.alloc (.cells #[.int .i64 0, .int .i64 0] 137)).heap.size = w.heap.size + 1 := by simp
 rw [hsz] at oF
 clear hsz
 replace hfin := hfin _ q0
 go_enter Tryz.func72, Tryz.ntmps72
 go_wp2_with fail
 refine (Calls.mono hfin ?_)
 rintro _ w1 ⟨rfl, hP1, t1⟩
 clear hfin
 replace oH := t1.objc oH (by decide)
 replace oF := t1.objc oF (by decide)
 have tw : Tn kS base w w1 := (q0.tn _ _).trans t1
 replace hNew := fun b h x y => hNew b h x y
 generalize hH : w.heap.size = H at *
 have n0 : w1.cell? ⟨H + 1, 0, none⟩ = some (.int .i64 ((k.1 : Nat) : Int)) := obj_cell oF 0
 have n1 : w1.cell? ⟨H + 1, 1, none⟩ = some (.string (strB k.2)) := obj_cell oF 1
 have r0 : w1.cell? ⟨H, 0, none⟩ = some (.int .i64 0) := obj_cell oH 0
 have r1 : w1.cell? ⟨H, 1, none⟩ = some (.int .i64 0) := obj_cell oH 1
 have e0 := obj_free oH 0
 have e1 := obj_free oH 1
 have hH1 := obj_lt oF
 have hHl := obj_lt oH
 clear x0 x1 q0 t1 hgl
 have hSl := hPs _ hP1
 have cl := fun w => length9_any (strB k.2) w
 generalize lenS (strB k.2) = LN at *
 have hPf := hPB _ _ ((B.refl w1).alloc #[.int .i64 0, .int .i64 0] 137) hP1
 have cf := hfull _ hPf
 have hln : ((l.length : Int) + 1 != LN) = false := by rw [bne, hlen]; rfl
 go_wp2_with (first | (go_at_call 71; refine (cl _).mono ?_; rintro _ _ ⟨rfl, rfl⟩) | (go_at_call 102; refine (Calls.mono cf ?_); rintro _ _ ⟨rfl, rfl⟩))
 have oE := obj_past (obj_set (obj_set oH 0 (.int .i64 ((k.1 : Nat) : Int))) 1 (.int .i64 27)) (.cells #[.int .i64 0, .int .i64 0] 137)
 have c0 := obj_cell oE 0
 have c1 := obj_cell oE 1
 exact bodyPost_ret (v := .agg #[.int .i64 ((k.1 : Nat) : Int), .int .i64 27]) (by simp [results, Tryz.results72, go_sem, c0, c1]) rfl ⟨rfl, (hNew _ tw _ _).alloc _ _⟩
set_option maxRecDepth 100000 in
set_option maxHeartbeats 1600000 in
theorem line_wordR (Wb w : World) (base S : Nat) (v : Value) (k : Wd) (l : List Wd) (P : World → Prop) (hb : Wb.heap.size ≤ base) (hB : B Wb w) (hbw : base ≤ w.heap.size) (hv : IsWd Wb v (k :: l)) (hPs : ∀ w, P w → S < w.heap.size) (pv : Value) (hr : ((strB k.2).toList == [114, 111, 117, 110, 100]) = true) (hlen : ((l.length : Int) + 1 == lenS (strB k.2)) = false)
  (hP0 : P w) (hpv : ∀ w', P w' → w'.cell? ⟨S, 6, none⟩ = some pv)
  (hPB : ∀ w' w'', B w' w'' → P w' → P w'')
  :
  Calls Tryz.prog 72 #[.pointer (some ⟨S, 0, none⟩), v] w fun r w' => r = .returned (.agg #[.int .i64 ((k.1 : Nat) : Int), .int .i64 24]) ∧ Tn kS base w w' := by
 obtain ⟨g, o, cap, rfl, h2, h3, h4⟩ := hv
 obtain ⟨x0, x1⟩ : w.cell? ⟨g, o, none⟩ = some (.int .i64 ((k.1 : Nat) : Int)) ∧ w.cell? ⟨g, o + 1, none⟩ = some (.string (strB k.2)) := by
  have := h4 0 k rfl
  exact ⟨hB.keep (by simpa using this.1), hB.keep (by simpa using this.2)⟩
 have hgl := World.block_lt_of_cell? w _ x0
 have hl0 : (0 : Int) < ((l.length : Int) + 1) := by omega
 have hcap : (l.length : Int) + 1 ≤ (cap : Int) := by simp at h2; omega
 have q0 : B w ((w.alloc (.cells #[.int .i64 0, .int .i64 0] 137)).alloc (.cells #[.int .i64 ((k.1 : Nat) : Int), .string (strB k.2)] 134)) := ((B.refl w).alloc _ _).alloc _ _
 have oH := obj_past (obj_new w (.cells #[.int .i64 0, .int .i64 0] 137)) (.cells #[.int .i64 ((k.1 : Nat) : Int), .string (strB k.2)] 134)
 have oF := obj_new (w.alloc (.cells #[.int .i64 0, .int .i64 0] 137)) (.cells #[.int .i64 ((k.1 : Nat) : Int), .string (strB k.2)] 134)
 have hNew : ∀ (b : World), Tn kS base w b → ∀ x y, Tn kS base w ((b.setCell ⟨w.heap.size, 0, none⟩ x).setCell ⟨w.heap.size, 1, none⟩ y) := fun b h x y =>
  (h.setNew (p := ⟨w.heap.size, 0, none⟩) (Nat.le_refl _) x).setNew (p := ⟨w.heap.size, 1, none⟩) (Nat.le_refl _) y
 have hsz : (w.alloc (.cells #[.int .i64 0, .int .i64 0] 137)).heap.size = w.heap.size + 1 := by simp
 rw [hsz] at oF
 clear hsz
 have hP1 := hPB _ _ q0 hP0
 have s6 := hpv _ hP1
 go_enter Tryz.func72, Tryz.ntmps72
 go_wp2_with fail
 have tw := q0.tn kS base
 have hP1' := hP1
 generalize hH : w.heap.size = H at *
 generalize hw1 : ((w.alloc (.cells #[.int .i64 0, .int .i64 0] 137)).alloc (.cells #[.int .i64 ((k.1 : Nat) : Int), .string (strB k.2)] 134)) = w1 at *
 have n0 : w1.cell? ⟨H + 1, 0, none⟩ = some (.int .i64 ((k.1 : Nat) : Int)) := obj_cell oF 0
 have n1 : w1.cell? ⟨H + 1, 1, none⟩ = some (.string (strB k.2)) := obj_cell oF 1
 have r0 : w1.cell? ⟨H, 0, none⟩ = some (.int .i64 0) := obj_cell oH 0
 have r1 : w1.cell? ⟨H, 1, none⟩ = some (.int .i64 0) := obj_cell oH 1
 have e0 := obj_free oH 0
 have e1 := obj_free oH 1
 have hH1 := obj_lt oF
 have hHl := obj_lt oH
 clear x0 x1 q0 hgl hw1
 have hSl := hPs _ hP1
 have cl := fun w => length9_any (strB k.2) w
 generalize lenS (strB k.2) = LN at *
 have hln : ((l.length : Int) + 1 != LN) = true := by rw [bne, hlen]; rfl
 go_wp2_with ((go_at_call 71; refine (cl _).mono ?_; rintro _ _ ⟨rfl, rfl⟩))
 have oE := obj_set (obj_set oH 0 (.int .i64 ((k.1 : Nat) : Int))) 1 (.int .i64 24)
 have c0 := obj_cell oE 0
 have c1 := obj_cell oE 1
 exact bodyPost_ret (v := .agg #[.int .i64 ((k.1 : Nat) : Int), .int .i64 24]) (by simp [results, Tryz.results72, go_sem, c0, c1]) rfl ⟨rfl, hNew _ tw _ _⟩
set_option maxRecDepth 100000 in
set_option maxHeartbeats 1600000 in
theorem line_wordB (Wb w : World) (base S : Nat) (v : Value) (k : Wd) (l : List Wd) (P : World → Prop) (hb : Wb.heap.size ≤ base) (hB : B Wb w) (hbw : base ≤ w.heap.size) (hv : IsWd Wb v (k :: l)) (hPs : ∀ w, P w → S < w.heap.size) (pv : Value) (hr : ((strB k.2).toList == [114, 111, 117, 110, 100]) = false) (hbx : ((strB k.2).toList == [98, 111, 120]) = true) (hlen : ((l.length : Int) + 1 == lenS (strB k.2)) = false)
  (hP0 : P w) (hpv : ∀ w', P w' → w'.cell? ⟨S, 6, none⟩ = some pv)
  (hPB : ∀ w' w'', B w' w'' → P w' → P w'')
  :
  Calls Tryz.prog 72 #[.pointer (some ⟨S, 0, none⟩), v] w fun r w' => r = .returned (.agg #[.int .i64 ((k.1 : Nat) : Int), .int .i64 24]) ∧ Tn kS base w w' := by
 obtain ⟨g, o, cap, rfl, h2, h3, h4⟩ := hv
 obtain ⟨x0, x1⟩ : w.cell? ⟨g, o, none⟩ = some (.int .i64 ((k.1 : Nat) : Int)) ∧ w.cell? ⟨g, o + 1, none⟩ = some (.string (strB k.2)) := by
  have := h4 0 k rfl
  exact ⟨hB.keep (by simpa using this.1), hB.keep (by simpa using this.2)⟩
 have hgl := World.block_lt_of_cell? w _ x0
 have hl0 : (0 : Int) < ((l.length : Int) + 1) := by omega
 have hcap : (l.length : Int) + 1 ≤ (cap : Int) := by simp at h2; omega
 have q0 : B w ((w.alloc (.cells #[.int .i64 0, .int .i64 0] 137)).alloc (.cells #[.int .i64 ((k.1 : Nat) : Int), .string (strB k.2)] 134)) := ((B.refl w).alloc _ _).alloc _ _
 have oH := obj_past (obj_new w (.cells #[.int .i64 0, .int .i64 0] 137)) (.cells #[.int .i64 ((k.1 : Nat) : Int), .string (strB k.2)] 134)
 have oF := obj_new (w.alloc (.cells #[.int .i64 0, .int .i64 0] 137)) (.cells #[.int .i64 ((k.1 : Nat) : Int), .string (strB k.2)] 134)
 have hNew : ∀ (b : World), Tn kS base w b → ∀ x y, Tn kS base w ((b.setCell ⟨w.heap.size, 0, none⟩ x).setCell ⟨w.heap.size, 1, none⟩ y) := fun b h x y =>
  (h.setNew (p := ⟨w.heap.size, 0, none⟩) (Nat.le_refl _) x).setNew (p := ⟨w.heap.size, 1, none⟩) (Nat.le_refl _) y
 have hsz : (w.alloc (.cells #[.int .i64 0, .int .i64 0] 137)).heap.size = w.heap.size + 1 := by simp
 rw [hsz] at oF
 clear hsz
 have hP1 := hPB _ _ q0 hP0
 have s6 := hpv _ hP1
 go_enter Tryz.func72, Tryz.ntmps72
 go_wp2_with fail
 have tw := q0.tn kS base
 have hP1' := hP1
 generalize hH : w.heap.size = H at *
 generalize hw1 : ((w.alloc (.cells #[.int .i64 0, .int .i64 0] 137)).alloc (.cells #[.int .i64 ((k.1 : Nat) : Int), .string (strB k.2)] 134)) = w1 at *
 have n0 : w1.cell? ⟨H + 1, 0, none⟩ = some (.int .i64 ((k.1 : Nat) : Int)) := obj_cell oF 0
 have n1 : w1.cell? ⟨H + 1, 1, none⟩ = some (.string (strB k.2)) := obj_cell oF 1
 have r0 : w1.cell? ⟨H, 0, none⟩ = some (.int .i64 0) := obj_cell oH 0
 have r1 : w1.cell? ⟨H, 1, none⟩ = some (.int .i64 0) := obj_cell oH 1
 have e0 := obj_free oH 0
 have e1 := obj_free oH 1
 have hH1 := obj_lt oF
 have hHl := obj_lt oH
 clear x0 x1 q0 hgl hw1
 have hSl := hPs _ hP1
 have cl := fun w => length9_any (strB k.2) w
 generalize lenS (strB k.2) = LN at *
 have hln : ((l.length : Int) + 1 != LN) = true := by rw [bne, hlen]; rfl
 go_wp2_with ((go_at_call 71; refine (cl _).mono ?_; rintro _ _ ⟨rfl, rfl⟩))
 have oE := obj_set (obj_set oH 0 (.int .i64 ((k.1 : Nat) : Int))) 1 (.int .i64 24)
 have c0 := obj_cell oE 0
 have c1 := obj_cell oE 1
 exact bodyPost_ret (v := .agg #[.int .i64 ((k.1 : Nat) : Int), .int .i64 24]) (by simp [results, Tryz.results72, go_sem, c0, c1]) rfl ⟨rfl, hNew _ tw _ _⟩
set_option maxRecDepth 100000 in
set_option maxHeartbeats 1600000 in
theorem line_nilR (Wb w : World) (base S : Nat) (v : Value) (k : Wd) (l : List Wd) (P : World → Prop) (hb : Wb.heap.size ≤ base) (hB : B Wb w) (hbw : base ≤ w.heap.size) (hv : IsWd Wb v (k :: l)) (hPs : ∀ w, P w → S < w.heap.size) (pv : Value) (hr : ((strB k.2).toList == [114, 111, 117, 110, 100]) = true) (hlen : ((l.length : Int) + 1 == lenS (strB k.2)) = true) (hnil : pv = .pointer none)
  (hP0 : P w) (hpv : ∀ w', P w' → w'.cell? ⟨S, 6, none⟩ = some pv)
  (hPB : ∀ w' w'', B w' w'' → P w' → P w'')
  :
  Calls Tryz.prog 72 #[.pointer (some ⟨S, 0, none⟩), v] w fun r w' => r = .returned (.agg #[.int .i64 ((k.1 : Nat) : Int), .int .i64 24]) ∧ Tn kS base w w' := by
 obtain ⟨g, o, cap, rfl, h2, h3, h4⟩ := hv
 obtain ⟨x0, x1⟩ : w.cell? ⟨g, o, none⟩ = some (.int .i64 ((k.1 : Nat) : Int)) ∧ w.cell? ⟨g, o + 1, none⟩ = some (.string (strB k.2)) := by
  have := h4 0 k rfl
  exact ⟨hB.keep (by simpa using this.1), hB.keep (by simpa using this.2)⟩
 have hgl := World.block_lt_of_cell? w _ x0
 have hl0 : (0 : Int) < ((l.length : Int) + 1) := by omega
 have hcap : (l.length : Int) + 1 ≤ (cap : Int) := by simp at h2; omega
 have q0 : B w ((w.alloc (.cells #[.int .i64 0, .int .i64 0] 137)).alloc (.cells #[.int .i64 ((k.1 : Nat) : Int), .string (strB k.2)] 134)) := ((B.refl w).alloc _ _).alloc _ _
 have oH := obj_past (obj_new w (.cells #[.int .i64 0, .int .i64 0] 137)) (.cells #[.int .i64 ((k.1 : Nat) : Int), .string (strB k.2)] 134)
 have oF := obj_new (w.alloc (.cells #[.int .i64 0, .int .i64 0] 137)) (.cells #[.int .i64 ((k.1 : Nat) : Int), .string (strB k.2)] 134)
 have hNew : ∀ (b : World), Tn kS base w b → ∀ x y, Tn kS base w ((b.setCell ⟨w.heap.size, 0, none⟩ x).setCell ⟨w.heap.size, 1, none⟩ y) := fun b h x y =>
  (h.setNew (p := ⟨w.heap.size, 0, none⟩) (Nat.le_refl _) x).setNew (p := ⟨w.heap.size, 1, none⟩) (Nat.le_refl _) y
 have hsz : (w.alloc (.cells #[.int .i64 0, .int .i64 0] 137)).heap.size = w.heap.size + 1 := by simp
 rw [hsz] at oF
 clear hsz
 have hP1 := hPB _ _ q0 hP0
 have s6 := hpv _ hP1
 subst hnil
 go_enter Tryz.func72, Tryz.ntmps72
 go_wp2_with fail
 have tw := q0.tn kS base
 have hP1' := hP1
 generalize hH : w.heap.size = H at *
 generalize hw1 : ((w.alloc (.cells #[.int .i64 0, .int .i64 0] 137)).alloc (.cells #[.int .i64 ((k.1 : Nat) : Int), .string (strB k.2)] 134)) = w1 at *
 have n0 : w1.cell? ⟨H + 1, 0, none⟩ = some (.int .i64 ((k.1 : Nat) : Int)) := obj_cell oF 0
 have n1 : w1.cell? ⟨H + 1, 1, none⟩ = some (.string (strB k.2)) := obj_cell oF 1
 have r0 : w1.cell? ⟨H, 0, none⟩ = some (.int .i64 0) := obj_cell oH 0
 have r1 : w1.cell? ⟨H, 1, none⟩ = some (.int .i64 0) := obj_cell oH 1
 have e0 := obj_free oH 0
 have e1 := obj_free oH 1
 have hH1 := obj_lt oF
 have hHl := obj_lt oH
 clear x0 x1 q0 hgl hw1
 have hSl := hPs _ hP1
 have cl := fun w => length9_any (strB k.2) w
 generalize lenS (strB k.2) = LN at *
 have hln : ((l.length : Int) + 1 != LN) = false := by rw [bne, hlen]; rfl
 go_wp2_with ((go_at_call 71; refine (cl _).mono ?_; rintro _ _ ⟨rfl, rfl⟩))
 have oE := obj_set (obj_set oH 0 (.int .i64 ((k.1 : Nat) : Int))) 1 (.int .i64 24)
 have c0 := obj_cell oE 0
 have c1 := obj_cell oE 1
 exact bodyPost_ret (v := .agg #[.int .i64 ((k.1 : Nat) : Int), .int .i64 24]) (by simp [results, Tryz.results72, go_sem, c0, c1]) rfl ⟨rfl, hNew _ tw _ _⟩
set_option maxRecDepth 100000 in
set_option maxHeartbeats 1600000 in
theorem line_nilB (Wb w : World) (base S : Nat) (v : Value) (k : Wd) (l : List Wd) (P : World → Prop) (hb : Wb.heap.size ≤ base) (hB : B Wb w) (hbw : base ≤ w.heap.size) (hv : IsWd Wb v (k :: l)) (hPs : ∀ w, P w → S < w.heap.size) (pv : Value) (hr : ((strB k.2).toList == [114, 111, 117, 110, 100]) = false) (hbx : ((strB k.2).toList == [98, 111, 120]) = true) (hlen : ((l.length : Int) + 1 == lenS (strB k.2)) = true) (hnil : pv = .pointer none)
  (hP0 : P w) (hpv : ∀ w', P w' → w'.cell? ⟨S, 6, none⟩ = some pv)
  (hPB : ∀ w' w'', B w' w'' → P w' → P w'')
  :
  Calls Tryz.prog 72 #[.pointer (some ⟨S, 0, none⟩), v] w fun r w' => r = .returned (.agg #[.int .i64 ((k.1 : Nat) : Int), .int .i64 24]) ∧ Tn kS base w w' := by
 obtain ⟨g, o, cap, rfl, h2, h3, h4⟩ := hv
 obtain ⟨x0, x1⟩ : w.cell? ⟨g, o, none⟩ = some (.int .i64 ((k.1 : Nat) : Int)) ∧ w.cell? ⟨g, o + 1, none⟩ = some (.string (strB k.2)) := by
  have := h4 0 k rfl
  exact ⟨hB.keep (by simpa using this.1), hB.keep (by simpa using this.2)⟩
 have hgl := World.block_lt_of_cell? w _ x0
 have hl0 : (0 : Int) < ((l.length : Int) + 1) := by omega
 have hcap : (l.length : Int) + 1 ≤ (cap : Int) := by simp at h2; omega
 have q0 : B w ((w.alloc (.cells #[.int .i64 0, .int .i64 0] 137)).alloc (.cells #[.int .i64 ((k.1 : Nat) : Int), .string (strB k.2)] 134)) := ((B.refl w).alloc _ _).alloc _ _
 have oH := obj_past (obj_new w (.cells #[.int .i64 0, .int .i64 0] 137)) (.cells #[.int .i64 ((k.1 : Nat) : Int), .string (strB k.2)] 134)
 have oF := obj_new (w.alloc (.cells #[.int .i64 0, .int .i64 0] 137)) (.cells #[.int .i64 ((k.1 : Nat) : Int), .string (strB k.2)] 134)
 have hNew : ∀ (b : World), Tn kS base w b → ∀ x y, Tn kS base w ((b.setCell ⟨w.heap.size, 0, none⟩ x).setCell ⟨w.heap.size, 1, none⟩ y) := fun b h x y =>
  (h.setNew (p := ⟨w.heap.size, 0, none⟩) (Nat.le_refl _) x).setNew (p := ⟨w.heap.size, 1, none⟩) (Nat.le_refl _) y
 have hsz : (w.alloc (.cells #[.int .i64 0, .int .i64 0] 137)).heap.size = w.heap.size + 1 := by simp
 rw [hsz] at oF
 clear hsz
 have hP1 := hPB _ _ q0 hP0
 have s6 := hpv _ hP1
 subst hnil
 go_enter Tryz.func72, Tryz.ntmps72
 go_wp2_with fail
 have tw := q0.tn kS base
 have hP1' := hP1
 generalize hH : w.heap.size = H at *
 generalize hw1 : ((w.alloc (.cells #[.int .i64 0, .int .i64 0] 137)).alloc (.cells #[.int .i64 ((k.1 : Nat) : Int), .string (strB k.2)] 134)) = w1 at *
 have n0 : w1.cell? ⟨H + 1, 0, none⟩ = some (.int .i64 ((k.1 : Nat) : Int)) := obj_cell oF 0
 have n1 : w1.cell? ⟨H + 1, 1, none⟩ = some (.string (strB k.2)) := obj_cell oF 1
 have r0 : w1.cell? ⟨H, 0, none⟩ = some (.int .i64 0) := obj_cell oH 0
 have r1 : w1.cell? ⟨H, 1, none⟩ = some (.int .i64 0) := obj_cell oH 1
 have e0 := obj_free oH 0
 have e1 := obj_free oH 1
 have hH1 := obj_lt oF
 have hHl := obj_lt oH
 clear x0 x1 q0 hgl hw1
 have hSl := hPs _ hP1
 have cl := fun w => length9_any (strB k.2) w
 generalize lenS (strB k.2) = LN at *
 have hln : ((l.length : Int) + 1 != LN) = false := by rw [bne, hlen]; rfl
 go_wp2_with ((go_at_call 71; refine (cl _).mono ?_; rintro _ _ ⟨rfl, rfl⟩))
 have oE := obj_set (obj_set oH 0 (.int .i64 ((k.1 : Nat) : Int))) 1 (.int .i64 24)
 have c0 := obj_cell oE 0
 have c1 := obj_cell oE 1
 exact bodyPost_ret (v := .agg #[.int .i64 ((k.1 : Nat) : Int), .int .i64 24]) (by simp [results, Tryz.results72, go_sem, c0, c1]) rfl ⟨rfl, hNew _ tw _ _⟩
end Go.Proofs.YtalnfojaccfcjaaGreatDoor
