/-
 Contracts and what they rest on.
-/
import Derived.BigRegion
import Derived.Deep.QuietTactic
import Derived.BigQuiet
import Derived.Test.YtglniapfnhedoaaGreatDoorY16
namespace Go.Proofs.YtglniapfnhedoaaGreatDoor
open Go.RowKit
def NumRes (s : ByteArray) (w : World) (e : Ending) (w' : World) : Prop := e = .returned (.tuple #[.int .i64 ((numV s : Nat) : Int), .bool (numOk s)]) ∧ B w w'
theorem numRes_no {s : ByteArray} {w w' : World} (h : numOk s = false ∧ numV s = 0) (q : B w w') : NumRes s w (.returned (.tuple #[.int .i64 0, .bool false])) w' := ⟨by rw [h.1, h.2]; rfl, q⟩
theorem pick_dig {m d : Nat} (h : m = 48 + d) (hd : d ≤ 9) : IntKind.u8.wrap ((m : Int) - 48) = (d : Int) := by
 simp [IntKind.wrap, IntKind.signed, IntKind.bits]; omega
set_option maxHeartbeats 1000000 in
theorem number_any (s : ByteArray) (w : World) : Calls Tryz.prog 88 #[.string s] w (NumRes s w) := by
 have hE := toList_empty s
 have hZ := toList_zero s
 by_cases h1 : s.size < 1
 ·rw [decide_eq_true h1] at hE
  have HR := Lib.hid (numRes_no (w := w) (w' := w) (num_no (s := s) (fun h => by omega)) (B.refl w))
  clear h1 hZ
  go_enter Tryz.func88, Tryz.ntmps88
  go_wp2
  go_ret2
  exact HR.out
 rw [decide_eq_false h1] at hE
 have hg0 : ∀ h : 0 < s.size, (s[0]'h).toNat = byteAt s 0 := fun h => byteAt_get s 0 h
 have hz : (0 : Int) < (s.size : Int) := by omega
 have hz' : 0 < s.size := by omega
 by_cases h2 : s.size ≠ 1 ∧ byteAt s 0 = 48
 ·have HR := Lib.hid (numRes_no (w := w) (w' := w) (num_first h2.1 h2.2) (B.refl w))
  rw [decide_eq_false h2.1, Bool.false_and] at hZ
  obtain ⟨_, h3⟩ := h2
  rw [h3] at hg0
  clear h1 h3
  go_enter Tryz.func88, Tryz.ntmps88
  go_wp2
  go_ret2
  exact HR.out
 have hconv := fun w => Lib.run_convert_string_bytes (P := Tryz.prog) w 9 47 5 s Tryz.underlying9 Tryz.underlying47 Tryz.underlying5
 have hcell : ∀ j, j < s.size → (Lib.bytesWorld w 5 s).cell? ⟨w.heap.size, j, none⟩ = some (.int .u8 ((byteAt s j : Nat) : Int)) := fun j hj => Lib.bytesWorld_cell w _ s j hj
 have HB := Lib.hid ((B.refl w).bytes 5 s)
 have H1 := Lib.hid (show 1 ≤ s.size ∧ ¬ (2 ≤ s.size ∧ byteAt s 0 = 48) from ⟨by omega, fun h => h2 ⟨by omega, h.2⟩⟩)
 by_cases h3 : byteAt s 0 = 48
 ·have h4 : s.size = 1 := by by_cases c : s.size = 1; · exact c
                             · exact absurd ⟨c, h3⟩ h2
  rw [decide_eq_true h4, decide_eq_true h3, Bool.true_and] at hZ
  have hg0' := hg0
  rw [h3] at hg0'
  have HS := Lib.hid (And.intro h3 h4)
  clear h1 h2 h3 h4 hg0
  have hg0 := hg0'
  clear hg0'
  go_enter Tryz.func88, Tryz.ntmps88
  go_wp2
  clear hE hZ hg0 
  generalize Lib.bytesWorld w 5 s = W1 at *
  generalize w.heap.size = H at *
  go_loopw [4, 21] (fun nv iv wr => ∃ k : Nat, k ≤ s.size ∧ iv = .int .i64 k ∧ nv = .int .i64 ((valTo s k : Nat) : Int) ∧ (∀ j, j < k → digN (byteAt s j) = true) ∧ valTo s k ≤ 1000000000000 ∧ W1 = wr) (fun _ iv _ => s.size + 1 - (intOf iv).toNat)
  case atStart => exact ⟨0, by omega, rfl, rfl, fun j hj => by omega, Nat.zero_le _, rfl⟩
  case round =>
   obtain ⟨k, hk, rfl, rfl, hall, hv, rfl⟩ := hrel
   have hshort := num_short H1.out.2 hk hall hv
   by_cases hl : k < s.size
   ·have hlB : decide ((k : Int) < (s.size : Int)) = true := decide_eq_true (by omega)
    have hlI : (k : Int) < (s.size : Int) := by omega
    have wk1 : IntKind.i64.wrap ((k : Int) + 1) = (k : Int) + 1 := by rw [IntKind.wrap_i64]; omega
    have hc := hcell k hl
    have ck := fun w => kind_any (byteAt s k) w
    cases hd : digN (byteAt s k)
    ·have hK : ((kindN (byteAt s k) : Int) != 3) = true := by
      have : kindN (byteAt s k) ≠ 3 := fun e => by rw [kind_dig.2 e] at hd; cases hd
      simp; omega
     have HR := Lib.hid (numRes_no (num_bad hl hd) HB.out)
     obtain ⟨m, hm⟩ : ∃ m, byteAt s k = m := ⟨_, rfl⟩
     rw [hm] at hc hK ck
     generalize kindN m = K at *
     clear hcell hall hv hd hm HB H1 hl hk
     go_wp2_with fail
     refine (ck _).mono ?_
     rintro e w1 ⟨rfl, rfl⟩
     clear ck
     go_wp2
     go_ret2
     exact HR.out
    ·have hK : ((kindN (byteAt s k) : Int) != 3) = false := by
      have := kind_dig.1 hd
      simp; omega
     obtain ⟨d, d1, d2, d3⟩ := num_step hd
     have hall' : ∀ j, j < k + 1 → digN (byteAt s j) = true := fun j hj => by
      by_cases c : j = k
      ·subst c; exact hd
      ·exact hall j (by omega)
     obtain ⟨V, hV⟩ : ∃ V, valTo s k = V := ⟨_, rfl⟩
     obtain ⟨V', hV'⟩ : ∃ V', valTo s (k + 1) = V' := ⟨_, rfl⟩
     obtain ⟨T, hT⟩ : ∃ T, T = V * 10 := ⟨_, rfl⟩
     rw [hV] at hv
     have p1 : IntKind.i64.wrap ((V : Int) * 10) = (T : Int) := by rw [IntKind.wrap_i64]; omega
     have p2 := pick_dig d1 d2
     have p3 : IntKind.i64.wrap (d : Int) = (d : Int) := by rw [IntKind.wrap_i64]; omega
     have p4 : IntKind.i64.wrap ((T : Int) + (d : Int)) = (V' : Int) := by rw [IntKind.wrap_i64]; omega
     obtain ⟨m, hm⟩ : ∃ m, byteAt s k = m := ⟨_, rfl⟩
     rw [hm] at hc hK ck p2
     by_cases hbig : 1000000000000 < V'
     ·have bB : decide ((1000000000000 : Int) < (V' : Int)) = true := decide_eq_true (by omega)
      have HR := Lib.hid (numRes_no (num_big (s := s) (k := k + 1) (by omega) (by rw [hV']; exact hbig)) HB.out)
      generalize kindN m = K at *
      rw [hV]
      clear hcell hall hall' hv hd hm HB H1 hl hk d1 d2 d3 hV hV' hT hbig
      go_wp2_with fail
      refine (ck _).mono ?_
      rintro e w1 ⟨rfl, rfl⟩
      clear ck
      go_wp2
      go_ret2
      exact HR.out
     ·have bB : decide ((1000000000000 : Int) < (V' : Int)) = false := decide_eq_false (by omega)
      have HA := Lib.hid (And.intro hall' (And.intro hl (And.intro (show V' ≤ 1000000000000 by omega) hV')))
      generalize kindN m = K at *
      rw [hV]
      clear hcell hall hall' hv hd hm H1 hl hk d1 d2 d3 hV hV' hT hbig
      go_wp2_with fail
      refine (ck _).mono ?_
      rintro e w1 ⟨rfl, rfl⟩
      clear ck
      go_wp2
      go_roundw
      case rel => exact ⟨k + 1, by have := HA.out.2.1; omega, by go_num, by rw [HA.out.2.2.2], HA.out.1, by rw [HA.out.2.2.2]; exact HA.out.2.2.1, trivial⟩
      case measure => have := HA.out.2.1; simp [intOf]; omega
   ·have hlB : decide ((k : Int) < (s.size : Int)) = false := decide_eq_false (by omega)
    have hk' : k = s.size := by omega
    have HR := Lib.hid (show NumRes s w (.returned (.tuple #[.int .i64 ((valTo s k : Nat) : Int), .bool true])) W1 from by
     obtain ⟨e1, e2⟩ := num_yes ⟨H1.out.1, H1.out.2, fun i hi => hall i (by omega), by rw [← hk']; exact hv⟩
     exact ⟨by rw [e1, e2, hk'], HB.out⟩)
    generalize valTo s k = V at *
    clear hcell hall hv HB H1 hk hk'
    go_wp2
    go_ret2
    exact HR.out
 ·have e48 : ((byteAt s 0 : Int) == 48) = false := by simp; omega
  clear h1 h2
  generalize hb0 : byteAt s 0 = b0 at hg0 e48
  clear h3 hb0
  go_enter Tryz.func88, Tryz.ntmps88
  go_wp2
  clear hE hZ hg0 e48
  generalize Lib.bytesWorld w 5 s = W1 at *
  generalize w.heap.size = H at *
  go_loopw [4, 21] (fun nv iv wr => ∃ k : Nat, k ≤ s.size ∧ iv = .int .i64 k ∧ nv = .int .i64 ((valTo s k : Nat) : Int) ∧ (∀ j, j < k → digN (byteAt s j) = true) ∧ valTo s k ≤ 1000000000000 ∧ W1 = wr) (fun _ iv _ => s.size + 1 - (intOf iv).toNat)
  case atStart => exact ⟨0, by omega, rfl, rfl, fun j hj => by omega, Nat.zero_le _, rfl⟩
  case round =>
   obtain ⟨k, hk, rfl, rfl, hall, hv, rfl⟩ := hrel
   have hshort := num_short H1.out.2 hk hall hv
   by_cases hl : k < s.size
   ·have hlB : decide ((k : Int) < (s.size : Int)) = true := decide_eq_true (by omega)
    have hlI : (k : Int) < (s.size : Int) := by omega
    have wk1 : IntKind.i64.wrap ((k : Int) + 1) = (k : Int) + 1 := by rw [IntKind.wrap_i64]; omega
    have hc := hcell k hl
    have ck := fun w => kind_any (byteAt s k) w
    cases hd : digN (byteAt s k)
    ·have hK : ((kindN (byteAt s k) : Int) != 3) = true := by
      have : kindN (byteAt s k) ≠ 3 := fun e => by rw [kind_dig.2 e] at hd; cases hd
      simp; omega
     have HR := Lib.hid (numRes_no (num_bad hl hd) HB.out)
     obtain ⟨m, hm⟩ : ∃ m, byteAt s k = m := ⟨_, rfl⟩
     rw [hm] at hc hK ck
     generalize kindN m = K at *
     clear hcell hall hv hd hm HB H1 hl hk
     go_wp2_with fail
     refine (ck _).mono ?_
     rintro e w1 ⟨rfl, rfl⟩
     clear ck
     go_wp2
     go_ret2
     exact HR.out
    ·have hK : ((kindN (byteAt s k) : Int) != 3) = false := by
      have := kind_dig.1 hd
      simp; omega
     obtain ⟨d, d1, d2, d3⟩ := num_step hd
     have hall' : ∀ j, j < k + 1 → digN (byteAt s j) = true := fun j hj => by
      by_cases c : j = k
      ·subst c; exact hd
      ·exact hall j (by omega)
     obtain ⟨V, hV⟩ : ∃ V, valTo s k = V := ⟨_, rfl⟩
     obtain ⟨V', hV'⟩ : ∃ V', valTo s (k + 1) = V' := ⟨_, rfl⟩
     obtain ⟨T, hT⟩ : ∃ T, T = V * 10 := ⟨_, rfl⟩
     rw [hV] at hv
     have p1 : IntKind.i64.wrap ((V : Int) * 10) = (T : Int) := by rw [IntKind.wrap_i64]; omega
     have p2 := pick_dig d1 d2
     have p3 : IntKind.i64.wrap (d : Int) = (d : Int) := by rw [IntKind.wrap_i64]; omega
     have p4 : IntKind.i64.wrap ((T : Int) + (d : Int)) = (V' : Int) := by rw [IntKind.wrap_i64]; omega
     obtain ⟨m, hm⟩ : ∃ m, byteAt s k = m := ⟨_, rfl⟩
     rw [hm] at hc hK ck p2
     by_cases hbig : 1000000000000 < V'
     ·have bB : decide ((1000000000000 : Int) < (V' : Int)) = true := decide_eq_true (by omega)
      have HR := Lib.hid (numRes_no (num_big (s := s) (k := k + 1) (by omega) (by rw [hV']; exact hbig)) HB.out)
      generalize kindN m = K at *
      rw [hV]
      clear hcell hall hall' hv hd hm HB H1 hl hk d1 d2 d3 hV hV' hT hbig
      go_wp2_with fail
      refine (ck _).mono ?_
      rintro e w1 ⟨rfl, rfl⟩
      clear ck
      go_wp2
      go_ret2
      exact HR.out
     ·have bB : decide ((1000000000000 : Int) < (V' : Int)) = false := decide_eq_false (by omega)
      have HA := Lib.hid (And.intro hall' (And.intro hl (And.intro (show V' ≤ 1000000000000 by omega) hV')))
      generalize kindN m = K at *
      rw [hV]
      clear hcell hall hall' hv hd hm H1 hl hk d1 d2 d3 hV hV' hT hbig
      go_wp2_with fail
      refine (ck _).mono ?_
      rintro e w1 ⟨rfl, rfl⟩
      clear ck
      go_wp2
      go_roundw
      case rel => exact ⟨k + 1, by have := HA.out.2.1; omega, by go_num, by rw [HA.out.2.2.2], HA.out.1, by rw [HA.out.2.2.2]; exact HA.out.2.2.1, trivial⟩
      case measure => have := HA.out.2.1; simp [intOf]; omega
   ·have hlB : decide ((k : Int) < (s.size : Int)) = false := decide_eq_false (by omega)
    have hk' : k = s.size := by omega
    have HR := Lib.hid (show NumRes s w (.returned (.tuple #[.int .i64 ((valTo s k : Nat) : Int), .bool true])) W1 from by
     obtain ⟨e1, e2⟩ := num_yes ⟨H1.out.1, H1.out.2, fun i hi => hall i (by omega), by rw [← hk']; exact hv⟩
     exact ⟨by rw [e1, e2, hk'], HB.out⟩)
    generalize valTo s k = V at *
    clear hcell hall hv HB H1 hk hk'
    go_wp2
    go_ret2
    exact HR.out
end Go.Proofs.YtglniapfnhedoaaGreatDoor
namespace Go.Proofs.YtglniapfnhedoaaGreatDoor
open Go.RowKit
set_option linter.unusedVariables false
def IsWd (w : World) (v : Value) (ws : List Wd) : Prop :=
 ∃ g o cap, v = .slice (some ⟨g, o, none⟩) ws.length cap ∧ ws.length ≤ cap ∧ cap ≤ maxLen ∧ ∀ i x, ws[i]? = some x → w.cell? ⟨g, o + i * 2, none⟩ = some (.int .i64 ((x.1 : Nat) : Int)) ∧ w.cell? ⟨g, o + i * 2 + 1, none⟩ = some (.string (strB x.2))
theorem IsWd.keep {w w' : World} {v : Value} {ws : List Wd} (h : IsWd w v ws) (q : B w w') : IsWd w' v ws :=
 let ⟨g, o, cap, h1, h2, h3, h4⟩ := h
 ⟨g, o, cap, h1, h2, h3, fun i x hx => ⟨q.keep (h4 i x hx).1, q.keep (h4 i x hx).2⟩⟩
theorem IsWords.wd {w : World} {v : Value} {ws : List Wd} (h : IsWords w v ws) (hn : 0 < ws.length) : IsWd w v ws := by
 obtain ⟨g, cap, h1, h2, h3, _, h5⟩ := h.full hn
 exact ⟨g, 0, cap, h1, h2, h3, fun i x hx => by simpa using h5 i x hx⟩
def RdAt (Wb w : World) (R : Nat) (l : List Wd) (p e : Int) : Prop :=
 ∃ v, w.heap[R]? = some (.cells #[v, .int .i64 p, .int .i64 e] 121 (0, 0)) ∧ IsWd Wb v l
theorem RdAt.same {Wb w w' : World} {R : Nat} {l : List Wd} {p e : Int} (h : RdAt Wb w R l p e) (hb : w'.heap[R]? = w.heap[R]?) : RdAt Wb w' R l p e :=
 let ⟨v, k1, k2⟩ := h
 ⟨v, hb.trans k1, k2⟩
def kR : List (Option TypeId) := [some 121]
set_option maxHeartbeats 1000000 in
theorem next_any (Wb w : World) (base R : Nat) (x : Wd) (l : List Wd) (p e : Int) (hb : Wb.heap.size ≤ base) (hB : B Wb w) (hR : base ≤ R) (h : RdAt Wb w R (x :: l) p e) :
  Calls Tryz.prog 86 #[.pointer (some ⟨R, 0, none⟩)] w fun r w' => r = .returned (.agg #[.int .i64 ((x.1 : Nat) : Int), .string (strB x.2)]) ∧ RdAt Wb w' R l p e ∧ Tn kR base w w' := by
 obtain ⟨v, ho, hv⟩ := h
 obtain ⟨g, o, cap, rfl, h2, h3, h4⟩ := hv
 obtain ⟨x0, x1⟩ : w.cell? ⟨g, o, none⟩ = some (.int .i64 ((x.1 : Nat) : Int)) ∧ w.cell? ⟨g, o + 1, none⟩ = some (.string (strB x.2)) := by
  have := h4 0 x rfl
  exact ⟨hB.keep (by simpa using this.1), hB.keep (by simpa using this.2)⟩
 have hgl := World.block_lt_of_cell? w _ x0
 have hRl := obj_lt ho
 have r0 : w.cell? ⟨R, 0, none⟩ = some (.slice (some ⟨g, o, none⟩) (l.length + 1) cap) := obj_cell ho 0
 have rf := obj_free ho 0
 have hl0 : (0 : Int) < ((l.length : Int) + 1) := by omega
 have hcap : (l.length : Int) + 1 ≤ (cap : Int) := by simp at h2; omega
 go_enter Tryz.func86, Tryz.ntmps86
 go_wp2
 ·refine bodyPost_ret (v := .agg #[.int .i64 ((x.1 : Nat) : Int), .string (strB x.2)]) (by simp [results, Tryz.results86, go_sem, *]) rfl ?_
  refine ⟨rfl, ⟨_, obj_past (obj_past (obj_set ho 0 _) _) _, ?_⟩, ?_⟩
  ·obtain rfl : l = [] := by
    subst h
    simp at h2
    exact h2
   refine ⟨g, o, 0, rfl, Nat.le_refl _, Nat.zero_le _, fun i y hy => by simp at hy⟩
  ·exact (((Tn.refl _ _ _).set ho (by decide) hR _).alloc _ _).alloc _ _
 ·refine bodyPost_ret (v := .agg #[.int .i64 ((x.1 : Nat) : Int), .string (strB x.2)]) (by simp [results, Tryz.results86, go_sem, *]) rfl ?_
  refine ⟨rfl, ⟨_, obj_past (obj_past (obj_set ho 0 _) _) _, ?_⟩, ?_⟩
  ·refine ⟨g, o + 2, cap - 1, rfl, by simp at h2; omega, by omega, fun i y hy => ?_⟩
   have := h4 (i + 1) y (by simpa using hy)
   rw [show o + 2 + i * 2 = o + (i + 1) * 2 by omega]
   exact this
  ·exact (((Tn.refl _ _ _).set ho (by decide) hR _).alloc _ _).alloc _ _
def askF (right : Bool) (p e a k : Int) : Int × Int := if right = false ∧ e = 0 then (a, k) else (p, e)
theorem ask_any (Wb w : World) (base R : Nat) (l : List Wd) (a : Int) (s : ByteArray) (right : Bool) (p e k : Int) (hb : Wb.heap.size ≤ base) (hB : B Wb w) (hR : base ≤ R) (h : RdAt Wb w R l p e) :
  Calls Tryz.prog 87 #[.pointer (some ⟨R, 0, none⟩), .agg #[.int .i64 a, .string s], .bool right, .int .i64 k] w fun r w' => r = .returned (.tuple #[]) ∧ RdAt Wb w' R l (askF right p e a k).1 (askF right p e a k).2 ∧ Tn kR base w w' := by
 obtain ⟨v, ho, hv⟩ := h
 have hRl := obj_lt ho
 have r1 : w.cell? ⟨R, 1, none⟩ = some (.int .i64 p) := obj_cell ho 1
 have r2 : w.cell? ⟨R, 2, none⟩ = some (.int .i64 e) := obj_cell ho 2
 have rf1 := obj_free ho 1
 have rf2 := obj_free ho 2
 cases right
 ·by_cases he : e = 0
  ·subst he
   go_enter Tryz.func87, Tryz.ntmps87
   go_wp2
   first | go_end0 | refine bodyPost_ret (results_none rfl _ _ _) rfl ?_
   refine ⟨rfl, ⟨v, obj_past (obj_set (obj_set ho 1 _) 2 _) _, hv⟩, ?_⟩
   exact (((Tn.refl _ _ _).set ho (by decide) hR _).set (obj_set ho 1 _) (by decide) hR _).alloc _ _
  ·have he' : ((e == 0) : Bool) = false := by simpa using he
   go_enter Tryz.func87, Tryz.ntmps87
   go_wp2
   first | go_end0 | refine bodyPost_ret (results_none rfl _ _ _) rfl ?_
   refine ⟨rfl, ⟨v, ?_, hv⟩, (Tn.refl _ _ _).alloc _ _⟩
   simp only [askF, he, and_false, if_false]
   exact obj_past ho _
 ·go_enter Tryz.func87, Tryz.ntmps87
  go_wp2
  first | go_end0 | refine bodyPost_ret (results_none rfl _ _ _) rfl ?_
  refine ⟨rfl, ⟨v, obj_past ho _, hv⟩, (Tn.refl _ _ _).alloc _ _⟩
def numIn (lo hi : Int) (s : ByteArray) : Bool := numOk s && decide (lo ≤ (numV s : Int)) && decide ((numV s : Int) ≤ hi)
end Go.Proofs.YtglniapfnhedoaaGreatDoor
namespace Go.Proofs.YtglniapfnhedoaaGreatDoor
open Go.RowKit
set_option linter.unusedVariables false
def cwell (l : List UInt8) : Option (List UInt8 × Int × Int) :=
 match l.drop (dotAt l + 1) with
 | [] => none
 | r :: ds => if numIn 1 12 (strB ds) = true then some (l.take (dotAt l), (r.toNat : Int) - 65, (numV (strB ds) : Int) - 1) else none
def wellOV : Option (List UInt8 × Int × Int) → Value
 | some (n, r, c) => .agg #[.string (strB n), .int .i64 r, .int .i64 c]
 | none => .agg #[.string ⟨#[]⟩, .int .i64 0, .int .i64 0]
theorem wellof_any (l : List UInt8) (w : World) (hl : l.length ≤ 65536) : Calls Tryz.prog 89 #[.string (strB l)] w fun e w' => e = .returned (.tuple #[wellOV (cwell l), .bool (cwell l).isSome]) ∧ B w w' := by
 have c1 := fun w => cut_any l w hl
 have hc : cwell l = match l.drop (dotAt l + 1) with
  | [] => none
  | r :: ds => if numIn 1 12 (strB ds) = true then some (l.take (dotAt l), (r.toNat : Int) - 65, (numV (strB ds) : Int) - 1) else none := rfl
 have hdl : (l.drop (dotAt l + 1)).length ≤ 65536 := by rw [List.length_drop]; omega
 generalize cwell l = CW at *
 generalize l.take (dotAt l) = N at *
 generalize l.drop (dotAt l + 1) = PL at *
 generalize decide (dotAt l < l.length) = FB at *
 cases PL with
 | nil =>
  simp only at hc
  subst hc
  have he : (strB ([] : List UInt8)) = ⟨#[]⟩ := rfl
  rw [he] at c1
  go_enter Tryz.func89, Tryz.ntmps89
  go_wp2_with fail
  refine (c1 _).mono ?_
  rintro _ w1 ⟨rfl, ⟨m, rfl⟩⟩
  clear c1
  go_wp2
  have oR := obj_three (w := (w.alloc (.cells #[.string ⟨#[]⟩, .int .i64 0, .int .i64 0] 39)).drewN m) (obj_new w _) (.string ⟨#[]⟩) (.int .i64 0) (.int .i64 0)
  have hQ := b_three (((B.refl w).alloc #[.string ⟨#[]⟩, .int .i64 0, .int .i64 0] 39).drewN m) (Nat.le_refl _) (.string ⟨#[]⟩) (.int .i64 0) (.int .i64 0)
  have cR0 := obj_cell oR 0
  have cR1 := obj_cell oR 1
  have cR2 := obj_cell oR 2
  exact bodyPost_ret (v := .tuple #[.agg #[.string ⟨#[]⟩, .int .i64 0, .int .i64 0], .bool false]) (by simp [results, Tryz.results89, go_sem, cR0, cR1, cR2]) rfl ⟨rfl, hQ⟩
 | cons r ds =>
  simp only at hc
  have hx : (strB (r :: ds)).toList.isEmpty = false := by rw [toList_empty]; exact decide_eq_false (by rw [strB_size]; simp)
  have hz : (strB (r :: ds)).size = ds.length + 1 := by rw [strB_size]; rfl
  have hsl : (strB (r :: ds)).extract 1 (ds.length + 1) = strB ds := by
   rw [strB_sub, List.take_of_length_le (by simp)]
   rfl
  have hby : ∀ h : 0 < (strB (r :: ds)).size, (strB (r :: ds))[0] = r := fun _ => rfl
  obtain ⟨OK, hOK⟩ : ∃ b, numOk (strB ds) = b := ⟨_, rfl⟩
  obtain ⟨V, hV⟩ : ∃ n, numV (strB ds) = n := ⟨_, rfl⟩
  have hVm : V ≤ 1000000000000 := by
   rw [← hV]
   cases ho : numOk (strB ds)
   ·rw [(num_no (fun h => by have := numOk_iff.2 h; rw [ho] at this; cases this)).2]; omega
   ·rw [(num_yes (numOk_iff.1 ho)).2]; exact (numOk_iff.1 ho).2.2.2
  have hin : numIn 1 12 (strB ds) = (OK && decide ((1 : Int) ≤ (V : Int)) && decide ((V : Int) ≤ 12)) := by unfold numIn; rw [hOK, hV]
  have cn : ∀ w, Calls Tryz.prog 88 #[.string (strB ds)] w fun e w' => e = .returned (.tuple #[.int .i64 (V : Int), .bool OK]) ∧ B w w' := fun w => by rw [← hOK, ← hV]; exact number_any _ w
  rw [hin, hV] at hc
  clear hin hOK hV
  have hr256 : r.toNat < 256 := r.toNat_lt
  go_enter Tryz.func89, Tryz.ntmps89
  go_wp2_with fail
  refine (c1 _).mono ?_
  rintro _ w1 ⟨rfl, ⟨m, rfl⟩⟩
  clear c1
  go_wp2_with fail
  refine (cn _).mono ?_
  rintro _ w2 ⟨rfl, q2⟩
  clear cn
  have oR := q2.obj (show ((w.alloc (.cells #[.string ⟨#[]⟩, .int .i64 0, .int .i64 0] 39)).drewN m).heap[w.heap.size]? = _ from obj_new w _)
  have hB : B w w2 := (((B.refl w).alloc _ _).drewN m).trans q2
  have hQ3 := fun x y z => b_three hB (b := w.heap.size) (Nat.le_refl _) x y z
  have hb0 : w2.cell? ⟨w.heap.size, 0, none⟩ = some (.string ⟨#[]⟩) := obj_cell oR 0
  have hb1 : w2.cell? ⟨w.heap.size, 1, none⟩ = some (.int .i64 0) := obj_cell oR 1
  have hb2 : w2.cell? ⟨w.heap.size, 2, none⟩ = some (.int .i64 0) := obj_cell oR 2
  have hf0 := obj_free oR 0
  have hf1 := obj_free oR 1
  have hf2 := obj_free oR 2
  generalize w.heap.size = H at *
  cases OK
  ·obtain rfl : CW = none := by simpa using hc
   go_wp2
   have oR := obj_three oR (.string ⟨#[]⟩) (.int .i64 0) (.int .i64 0)
   have hQ := hQ3 (.string ⟨#[]⟩) (.int .i64 0) (.int .i64 0)
   have cR0 := obj_cell oR 0
   have cR1 := obj_cell oR 1
   have cR2 := obj_cell oR 2
   exact bodyPost_ret (v := .tuple #[.agg #[.string ⟨#[]⟩, .int .i64 0, .int .i64 0], .bool false]) (by simp [results, Tryz.results89, go_sem, cR0, cR1, cR2]) rfl ⟨rfl, hQ⟩
  ·have cw := fun w => within_any (V : Int) 1 12 w
   cases hw : (decide ((1 : Int) ≤ (V : Int)) && decide ((V : Int) ≤ 12))
   ·obtain rfl : CW = none := by
     rw [hc, if_neg]
     rw [Bool.true_and, hw]; simp
    rw [hw] at cw
    clear hw hc
    go_wp2_with (go_at_call 30; refine (cw _).mono ?_; rintro _ _ ⟨rfl, rfl⟩)
    have oR := obj_three oR (.string ⟨#[]⟩) (.int .i64 0) (.int .i64 0)
    have hQ := hQ3 (.string ⟨#[]⟩) (.int .i64 0) (.int .i64 0)
    have cR0 := obj_cell oR 0
    have cR1 := obj_cell oR 1
    have cR2 := obj_cell oR 2
    exact bodyPost_ret (v := .tuple #[.agg #[.string ⟨#[]⟩, .int .i64 0, .int .i64 0], .bool false]) (by simp [results, Tryz.results89, go_sem, cR0, cR1, cR2]) rfl ⟨rfl, hQ⟩
   ·have hV12 : 1 ≤ V ∧ V ≤ 12 := by
     simp only [Bool.and_eq_true, decide_eq_true_eq] at hw
     omega
    obtain rfl : CW = some (N, (r.toNat : Int) - 65, (V : Int) - 1) := by
     rw [hc, if_pos]
     rw [Bool.true_and, hw]
    rw [hw] at cw
    have u1 : IntKind.i64.wrap (r.toNat : Int) = (r.toNat : Int) := by rw [IntKind.wrap_i64]; omega
    have u2 : IntKind.i64.wrap ((r.toNat : Int) - 65) = (r.toNat : Int) - 65 := by rw [IntKind.wrap_i64]; omega
    have u3 : IntKind.i64.wrap ((V : Int) - 1) = (V : Int) - 1 := by rw [IntKind.wrap_i64]; omega
    have v1 : wrap64 (r.toNat : Int) = (r.toNat : Int) := by unfold wrap64; omega
    have v2 : wrap64 ((r.toNat : Int) - 65) = (r.toNat : Int) - 65 := by unfold wrap64; omega
    clear hw hc
    go_wp2_with (go_at_call 30; refine (cw _).mono ?_; rintro _ _ ⟨rfl, rfl⟩)
    have oR := obj_three oR (.string (strB N)) (.int .i64 ((r.toNat : Int) - 65)) (.int .i64 ((V : Int) - 1))
    have hQ := hQ3 (.string (strB N)) (.int .i64 ((r.toNat : Int) - 65)) (.int .i64 ((V : Int) - 1))
    have cR0 := obj_cell oR 0
    have cR1 := obj_cell oR 1
    have cR2 := obj_cell oR 2
    exact bodyPost_ret (v := .tuple #[.agg #[.string (strB N), .int .i64 ((r.toNat : Int) - 65), .int .i64 ((V : Int) - 1)], .bool true]) (by simp [results, Tryz.results89, go_sem, cR0, cR1, cR2]) rfl ⟨rfl, hQ⟩
end Go.Proofs.YtglniapfnhedoaaGreatDoor
namespace Go.Proofs.YtglniapfnhedoaaGreatDoor
open Go.RowKit
set_option linter.unusedVariables false
set_option maxHeartbeats 1000000 in
theorem number9_any (Wb w : World) (base R : Nat) (x : Wd) (l : List Wd) (p e lo hi : Int) (hb : Wb.heap.size ≤ base) (hB : B Wb w) (hR : base ≤ R) (h : RdAt Wb w R (x :: l) p e) :
  Calls Tryz.prog 76 #[.pointer (some ⟨R, 0, none⟩), .int .i64 lo, .int .i64 hi] w fun r w' => r = .returned (.int .i64 ((numV (strB x.2) : Nat) : Int)) ∧
   RdAt Wb w' R l (askF (numIn lo hi (strB x.2)) p e x.1 20).1 (askF (numIn lo hi (strB x.2)) p e x.1 20).2 ∧ Tn kR base w w' := by
 have c1 := next_any Wb w base R x l p e hb hB hR h
 obtain ⟨OK, hOK⟩ : ∃ b, numOk (strB x.2) = b := ⟨_, rfl⟩
 obtain ⟨V, hV⟩ : ∃ n, numV (strB x.2) = n := ⟨_, rfl⟩
 have hin : numIn lo hi (strB x.2) = (OK && decide (lo ≤ (V : Int)) && decide ((V : Int) ≤ hi)) := by unfold numIn; rw [hOK, hV]
 have cn : ∀ w, Calls Tryz.prog 88 #[.string (strB x.2)] w fun e w' => e = .returned (.tuple #[.int .i64 (V : Int), .bool OK]) ∧ B w w' := fun w => by rw [← hOK, ← hV]; exact number_any _ w
 rw [hin, hV]
 clear hin hOK hV h
 go_enter Tryz.func76, Tryz.ntmps76
 go_wp2_with fail
 refine (Calls.mono c1 ?_)
 rintro _ w1 ⟨rfl, h1, t1⟩
 clear c1
 go_wp2_with fail
 refine (cn _).mono ?_
 rintro _ w2 ⟨rfl, q2⟩
 have o1 := q2.obj (obj_new w1 _)
 have t2 : Tn kR base w w2 := (t1.alloc _ _).trans (q2.tn _ _)
 have h2 : RdAt Wb w2 R l p e := let ⟨v, k1, k2⟩ := h1; ⟨v, q2.obj (obj_past k1 _), k2⟩
 have n0 : w2.cell? ⟨w1.heap.size, 0, none⟩ = some (.int .i64 ((x.1 : Nat) : Int)) := obj_cell o1 0
 have n1 : w2.cell? ⟨w1.heap.size, 1, none⟩ = some (.string (strB x.2)) := obj_cell o1 1
 clear o1 h1 t1 q2 cn
 generalize w1.heap.size = G at *
 cases OK
 ·go_wp2_with fail
  refine wp_region_noPanic ?_
  refine wp_region_gate (S := fun w' => w'.cell? ⟨G, 0, none⟩ = some (.int .i64 ((x.1 : Nat) : Int)) ∧ w'.cell? ⟨G, 1, none⟩ = some (.string (strB x.2)) ∧ RdAt Wb w' R l p e ∧ Tn kR base w w') 9 [(0, 3), (1, 0), (2, 3), (3, 3), (4, 1), (5, 1), (6, 1), (7, 1), (8, 3), (9, 4)] [0, 0, 0, 4, 8, 8, 8, 120, 136, 387] [0, 0, 0, 4, 8, 8, 8, 120, 136, 259] [0, 514, 0, 0, 0, 0, 0, 0, 0, 0] (by kernel_rfl) (by kernel_rfl) (fun _ _ _ _ _ h => h) ?_ (fun hH => ?_)
  ·exact ⟨n0, n1, h2, t2.drew⟩
  refine wpSeqG_free (d := 18) (v := ?_) rfl rfl (by kernel_rfl) (fun w => ?_) ?_
  rotate_left
  ·go_simp <;> with_reducible rfl
  dsimp only [sZ, sS]
  refine wpSeqG_take (d := 19) (v := ?_) rfl rfl (by kernel_rfl) (fun w hS => ?_) ?_
  rotate_left
  ·go_simp <;> with_reducible rfl
  dsimp only [sZ, sS]
  refine wpSeqG_free (d := 20) (v := ?_) rfl rfl (by kernel_rfl) (fun w => ?_) ?_
  rotate_left
  ·go_simp <;> with_reducible rfl
  dsimp only [sZ, sS]
  refine wpSeqG_free (d := 21) (v := ?_) rfl rfl (by kernel_rfl) (fun w => ?_) ?_
  rotate_left
  ·go_simp <;> with_reducible rfl
  dsimp only [sZ, sS]
  refine wpSeqG_skip (d := 22) rfl rfl (by kernel_rfl) (by rfl) ?_
  refine wpSeqG_skip (d := 23) rfl rfl (by kernel_rfl) (by rfl) ?_
  refine wpSeqG_skip (d := 24) rfl rfl (by kernel_rfl) (by rfl) ?_
  refine wpSeqG_skip (d := 25) rfl rfl (by kernel_rfl) (by rfl) ?_
  refine wpSeqG_free (d := 26) (v := ?_) rfl rfl (by kernel_rfl) (fun w => ?_) ?_
  rotate_left
  ·go_simp <;> with_reducible rfl
  dsimp only [sZ, sS]
  refine wpSeqG_gate rfl (by kernel_rfl) (fun K hK => ?_)
  go_simp
  (with_reducible refine (ask_any Wb _ base R l x.1 (strB x.2) false p e 20 hb (hH.2.2.2.toB hB hb) hR hH.2.2.1).mono ?_)
  rintro _ w3 ⟨rfl, h3, t3⟩
  replace t3 := hH.2.2.2.trans t3
  clear hH
  refine hK.out _ _ ?_
  clear hK
  refine wpSeqG_done ?_
  refine NoPanic.normal ?_
  go_wp2
  go_ret
  exact ⟨rfl, h3, t3⟩
 ·obtain ⟨RR, hRR⟩ : ∃ r, (true && decide (lo ≤ (V : Int)) && decide ((V : Int) ≤ hi)) = r := ⟨_, rfl⟩
  have cw : ∀ w, Calls Tryz.prog 30 #[.int .i64 (V : Int), .int .i64 lo, .int .i64 hi] w fun e w' => e = .returned (.bool RR) ∧ w = w' := fun w => by
   have e1 : (decide (lo ≤ (V : Int)) && decide ((V : Int) ≤ hi)) = RR := by rw [← hRR]; simp
   rw [← e1]
   exact within_any (V : Int) lo hi w
  replace hRR := Lib.hid hRR
  go_wp2_with fail
  refine wp_region_noPanic ?_
  refine wp_region_gate (S := fun w' => w'.cell? ⟨G, 0, none⟩ = some (.int .i64 ((x.1 : Nat) : Int)) ∧ w'.cell? ⟨G, 1, none⟩ = some (.string (strB x.2)) ∧ RdAt Wb w' R l p e ∧ Tn kR base w w') 9 [(0, 3), (1, 0), (2, 3), (3, 3), (4, 3), (5, 3), (6, 3), (7, 2), (8, 3), (9, 4)] [0, 0, 0, 4, 8, 8, 8, 120, 136, 387] [0, 0, 0, 4, 8, 8, 8, 120, 136, 259] [0, 514, 0, 0, 0, 0, 0, 0, 0, 0] (by kernel_rfl) (by kernel_rfl) (fun _ _ _ _ _ h => h) ?_ (fun hH => ?_)
  ·exact ⟨n0, n1, h2, t2.drew⟩
  refine wpSeqG_free (d := 18) (v := ?_) rfl rfl (by kernel_rfl) (fun w => ?_) ?_
  rotate_left
  ·go_simp <;> with_reducible rfl
  dsimp only [sZ, sS]
  refine wpSeqG_take (d := 19) (v := ?_) rfl rfl (by kernel_rfl) (fun w hS => ?_) ?_
  rotate_left
  ·go_simp <;> with_reducible rfl
  dsimp only [sZ, sS]
  refine wpSeqG_free (d := 20) (v := ?_) rfl rfl (by kernel_rfl) (fun w => ?_) ?_
  rotate_left
  ·go_simp <;> with_reducible rfl
  dsimp only [sZ, sS]
  refine wpSeqG_free (d := 21) (v := ?_) rfl rfl (by kernel_rfl) (fun w => ?_) ?_
  rotate_left
  ·go_simp <;> with_reducible rfl
  dsimp only [sZ, sS]
  refine wpSeqG_free (d := 22) (v := ?_) rfl rfl (by kernel_rfl) (fun w => ?_) ?_
  rotate_left
  ·go_simp <;> with_reducible rfl
  dsimp only [sZ, sS]
  refine wpSeqG_free (d := 23) (v := ?_) rfl rfl (by kernel_rfl) (fun w => ?_) ?_
  rotate_left
  ·go_simp <;> with_reducible rfl
  dsimp only [sZ, sS]
  refine wpSeqG_free (d := 24) (v := ?_) rfl rfl (by kernel_rfl) (fun w => ?_) ?_
  rotate_left
  ·go_simp <;> with_reducible rfl
  dsimp only [sZ, sS]
  refine wpSeqG_call rfl (by kernel_rfl) (fun K hK => ?_)
  go_simp
  (with_reducible refine (cw _).mono ?_)
  rintro e w' ⟨rfl, rfl⟩
  refine hK.out _ _ hH fun hH => ?_
  clear hK
  refine wpSeqG_free (d := 26) (v := ?_) rfl rfl (by kernel_rfl) (fun w => ?_) ?_
  rotate_left
  ·go_simp <;> with_reducible rfl
  dsimp only [sZ, sS]
  refine wpSeqG_gate rfl (by kernel_rfl) (fun K hK => ?_)
  go_simp
  (with_reducible refine (ask_any Wb _ base R l x.1 (strB x.2) RR p e 20 hb (hH.2.2.2.toB hB hb) hR hH.2.2.1).mono ?_)
  rintro _ w3 ⟨rfl, h3, t3⟩
  replace t3 := hH.2.2.2.trans t3
  clear hH
  refine hK.out _ _ ?_
  clear hK
  refine wpSeqG_done ?_
  refine NoPanic.normal ?_
  go_wp2
  go_ret
  exact ⟨rfl, by rw [hRR.out]; exact h3, t3⟩
theorem size9_any (Wb w : World) (base R : Nat) (x : Wd) (l : List Wd) (p e : Int) (hb : Wb.heap.size ≤ base) (hB : B Wb w) (hR : base ≤ R) (h : RdAt Wb w R (x :: l) p e) :
  Calls Tryz.prog 78 #[.pointer (some ⟨R, 0, none⟩)] w fun r w' => r = .returned (.int .i64 ((numV (strB x.2) : Nat) : Int)) ∧
   RdAt Wb w' R l (askF (numOk (strB x.2)) p e x.1 20).1 (askF (numOk (strB x.2)) p e x.1 20).2 ∧ Tn kR base w w' := by
 have c1 := number9_any Wb w base R x l p e 0 9223372036854775807 hb hB hR h
 have hin : numIn 0 9223372036854775807 (strB x.2) = numOk (strB x.2) := by
  unfold numIn
  cases ho : numOk (strB x.2)
  ·rfl
  ·have := (numOk_iff.1 ho).2.2.2
   have h2 := (num_yes (numOk_iff.1 ho)).2
   have k1 : decide ((0 : Int) ≤ (numV (strB x.2) : Int)) = true := decide_eq_true (by omega)
   have k2 : decide ((numV (strB x.2) : Int) ≤ 9223372036854775807) = true := decide_eq_true (by omega)
   rw [k1, k2]; rfl
 rw [hin] at c1
 clear hin h
 go_enter Tryz.func78, Tryz.ntmps78
 go_wp2_with fail
 refine (Calls.mono c1 ?_)
 rintro _ w1 ⟨rfl, h1, t1⟩
 go_wp2
 go_ret
 exact ⟨rfl, h1, t1⟩
end Go.Proofs.YtglniapfnhedoaaGreatDoor
namespace Go.Proofs.YtglniapfnhedoaaGreatDoor
open Go.RowKit
set_option linter.unusedVariables false
def kRM : List (Option TypeId) := [some 121, none]
theorem RdAt.tn {K : List (Option TypeId)} {base : Nat} {Wb w w' : World} {R : Nat} {l : List Wd} {p e : Int} (h : RdAt Wb w R l p e) (t : Tn K base w w') (hK : some 121 ∉ K) : RdAt Wb w' R l p e :=
 let ⟨v, k1, k2⟩ := h
 ⟨v, t.objc k1 hK, k2⟩
set_option maxHeartbeats 1000000 in
set_option maxRecDepth 100000 in
theorem rname_any (Wb w : World) (base R b : Nat) (ns : List ByteArray) (x : Wd) (l : List Wd) (p e : Int) (hb : Wb.heap.size ≤ base) (hB : B Wb w) (hR : base ≤ R) (h : RdAt Wb w R (x :: l) p e)
  (hm : NmAt w b ns) (hbm : base ≤ b) (hn : ns.length < 1000) (hx : x.2.length ≤ 65536) :
  Calls Tryz.prog 75 #[.pointer (some ⟨R, 0, none⟩), .map (some b)] w fun r w' => r = .returned (.string (strB x.2)) ∧
   RdAt Wb w' R l (askF (nameS (strB x.2) && !namedL ns (strB x.2)) p e x.1 25).1 (askF (nameS (strB x.2) && !namedL ns (strB x.2)) p e x.1 25).2 ∧
   NmAt w' b (addN ns (strB x.2)) ∧ Tn kRM base w w' ∧ Tm b w w' := by
 have c1 := next_any Wb w base R x l p e hb hB hR h
 have hsz : (strB x.2).size ≤ maxLen := by rw [strB_size]; unfold maxLen; omega
 go_enter Tryz.func75, Tryz.ntmps75
 go_wp2_with fail
 refine (Calls.mono c1 ?_)
 rintro _ w1 ⟨rfl, h1, t1⟩
 have u1 : Tm b w (w1.alloc (.cells #[.int .i64 ((x.1 : Nat) : Int), .string (strB x.2)] 95)) := (t1.tm (by decide) b).trans (((B.refl w1).alloc _ _).tm b)
 clear c1 h
 go_wp2_with fail
 have hm1 := hm.tn t1 (by decide)
 have t2 : Tn kRM base w (w1.alloc (.cells #[.int .i64 ((x.1 : Nat) : Int), .string (strB x.2)] 95)) := (t1.mono (by decide) (Nat.le_refl _)).alloc _ _
 have h2 := h1.tn (((B.refl w1).alloc #[.int .i64 ((x.1 : Nat) : Int), .string (strB x.2)] 95).tn [] base) (by simp)
 have m2 := hm1.tn (((B.refl w1).alloc #[.int .i64 ((x.1 : Nat) : Int), .string (strB x.2)] 95).tn [] base) (by simp)
 have o1 := obj_new w1 (.cells #[.int .i64 ((x.1 : Nat) : Int), .string (strB x.2)] 95)
 generalize w1.heap.size = G at *
 generalize w1.alloc (.cells #[.int .i64 ((x.1 : Nat) : Int), .string (strB x.2)] 95) = w2 at *
 have n0 : w2.cell? ⟨G, 0, none⟩ = some (.int .i64 ((x.1 : Nat) : Int)) := obj_cell o1 0
 have n1 : w2.cell? ⟨G, 1, none⟩ = some (.string (strB x.2)) := obj_cell o1 1
 have cA := add_any w2.drew base b ns (strB x.2) hsz hn hbm m2
 clear hm hm1 m2 h1 t1
 obtain ⟨RR, hRR⟩ : ∃ r, (nameS (strB x.2) && !namedL ns (strB x.2)) = r := ⟨_, rfl⟩
 rw [hRR] at cA
 replace hRR := Lib.hid hRR
 have nx : ∀ w3, Tn kM base w2.drew w3 → w3.heap[G]? = some (.cells #[.int .i64 ((x.1 : Nat) : Int), .string (strB x.2)] 95 (0, 0)) ∧ w3.cell? ⟨G, 0, none⟩ = some (.int .i64 ((x.1 : Nat) : Int)) ∧ w3.cell? ⟨G, 1, none⟩ = some (.string (strB x.2)) ∧ Tn kRM base w w3 ∧
   Calls Tryz.prog 87 #[.pointer (some ⟨R, 0, none⟩), .agg #[.int .i64 ((x.1 : Nat) : Int), .string (strB x.2)], .bool RR, .int .i64 25] w3 fun r w' => r = .returned (.tuple #[]) ∧ RdAt Wb w' R l (askF RR p e x.1 25).1 (askF RR p e x.1 25).2 ∧ Tn kR base w3 w' := fun w3 t3 => by
  have o3 := Tn.objc (a := w2.drew) t3 o1 (by decide)
  have t23 := t2.drew.trans (t3.mono (K' := kRM) (by decide) (Nat.le_refl _))
  exact ⟨o3, obj_cell o3 0, obj_cell o3 1, t23, ask_any Wb w3 base R l x.1 (strB x.2) RR p e 25 hb (t23.toB hB hb) hR (RdAt.tn (w := w2.drew) h2 t3 (by decide))⟩
 go_region_with (first
  | (go_at_call 25; (with_reducible refine (Calls.mono cA ?_); rintro _ w3 ⟨rfl, m3, t3, u3⟩; obtain ⟨o3, n30, n31, t23, cK⟩ := nx _ t3))
  | (go_at_call 87; (with_reducible refine (Calls.mono cK ?_); rintro _ w4 ⟨rfl, h4, t4⟩)))
 all_goals
  have o4 := Tn.objc t4 o3 (by decide)
  have n40 : w4.cell? ⟨G, 0, none⟩ = some (.int .i64 ((x.1 : Nat) : Int)) := obj_cell o4 0
  have n41 : w4.cell? ⟨G, 1, none⟩ = some (.string (strB x.2)) := obj_cell o4 1
  clear nx cA cK n0 n1 n30 n31 o1 o3 o4
  go_wp2
  go_ret
  exact ⟨rfl, by rw [hRR.out]; exact h4, m3.tn t4 (by decide), t23.trans (t4.mono (by decide) (Nat.le_refl _)), (u1.trans (u3 : Tm b w2.drew w3)).trans (t4.tm (by decide) b)⟩
end Go.Proofs.YtglniapfnhedoaaGreatDoor
namespace Go.Proofs.YtglniapfnhedoaaGreatDoor
open Go.RowKit
set_option linter.unusedVariables false
def wellOk (ws : List Wr) (fs : List Fl) (l : List UInt8) : Bool := match cwell l with
 | some (n, r, c) => hasW ws (strB n) r c && !filledW fs (strB n) r c
 | none => false
def wellN (ws : List Wr) (fs : List Fl) (l : List UInt8) : List Fl := match cwell l with
 | some (n, r, c) => fillN ws fs (strB n) r c
 | none => fs
theorem cwell_in {l : List UInt8} {n : List UInt8} {r c : Int} (h : cwell l = some (n, r, c)) : n.length ≤ l.length ∧ I64 r ∧ I64 c := by
 unfold cwell at h
 split at h
 ·cases h
 ·rename_i b ds _
  split at h
  ·rename_i hin
   unfold numIn at hin
   simp only [Bool.and_eq_true, decide_eq_true_eq] at hin
   have hb := b.toNat_lt
   simp only [Option.some.injEq, Prod.mk.injEq] at h
   obtain ⟨rfl, rfl, rfl⟩ := h
   refine ⟨by rw [List.length_take]; omega, ?_, ?_⟩ <;> (unfold I64; omega)
  ·cases h
theorem set3_tm {w : World} {q : Nat} {cs : Array Value} {t : TypeId} (ho : w.heap[q]? = some (.cells cs t (0, 0))) (x y z : Value) (b : Nat) : Tm b w (((w.setCell ⟨q, 0, none⟩ x).setCell ⟨q, 1, none⟩ y).setCell ⟨q, 2, none⟩ z) := fun i es c _ hi =>
 (set3_other _ _ _ _ _ _ (fun e => by rw [e, ho] at hi; cases hi)).trans hi
set_option maxRecDepth 100000 in
set_option maxHeartbeats 1600000 in
theorem rwell_any (Wb w : World) (base R S bw bf : Nat) (wv tv fv tm pv hv : Value) (ws : List Wr) (fs : List Fl) (x : Wd) (l : List Wd) (p e : Int) (hb : Wb.heap.size ≤ base) (hB : B Wb w) (hR : base ≤ R) (h : RdAt Wb w R (x :: l) p e)
  (oS : w.heap[S]? = some (.cells #[wv, tv, fv, .map (some bw), tm, .map (some bf), pv, hv] 80 (0, 0))) (hW : ∀ w', Tn kR base w w' → IsRecs w' wv ws) (hw : NmAt w bw (ws.map (·.n))) (hf : FmAt w bf fs) (hbf : base ≤ bf) (hfs : fs.length < 100000) (hx : x.2.length ≤ 65536) :
  Calls Tryz.prog 77 #[.pointer (some ⟨R, 0, none⟩), .pointer (some ⟨S, 0, none⟩)] w fun r w' => r = .returned (wellOV (cwell x.2)) ∧
   RdAt Wb w' R l (askF (wellOk ws fs x.2) p e x.1 26).1 (askF (wellOk ws fs x.2) p e x.1 26).2 ∧ FmAt w' bf (wellN ws fs x.2) ∧ Tn kRM base w w' ∧ Tm bf w w' := by
 have c1 := fun w hB h => next_any Wb w base R x l p e hb hB hR h
 have hok : wellOk ws fs x.2 = match cwell x.2 with
  | some (n, r, c) => hasW ws (strB n) r c && !filledW fs (strB n) r c
  | none => false := rfl
 have hwn : wellN ws fs x.2 = match cwell x.2 with
  | some (n, r, c) => fillN ws fs (strB n) r c
  | none => fs := rfl
 have c2 := fun w => wellof_any x.2 w hx
 have hin := fun n r c => cwell_in (l := x.2) (n := n) (r := r) (c := c)
 generalize wellOk ws fs x.2 = OK at *
 generalize wellN ws fs x.2 = FS at *
 generalize cwell x.2 = CW at *
 -- the result's block
 have q0 : B w (w.alloc (.cells #[.string ⟨#[]⟩, .int .i64 0, .int .i64 0] 39)) := (B.refl w).alloc _ _
 have oQ := obj_new w (.cells #[.string ⟨#[]⟩, .int .i64 0, .int .i64 0] 39)
 have hNew : ∀ (b : World), Tn kRM base w b → ∀ x y z, Tn kRM base w (((b.setCell ⟨w.heap.size, 0, none⟩ x).setCell ⟨w.heap.size, 1, none⟩ y).setCell ⟨w.heap.size, 2, none⟩ z) := fun b h x y z =>
  ((h.setNew (p := ⟨w.heap.size, 0, none⟩) (Nat.le_refl _) x).setNew (p := ⟨w.heap.size, 1, none⟩) (Nat.le_refl _) y).setNew (p := ⟨w.heap.size, 2, none⟩) (Nat.le_refl _) z
 have c1' := c1 _ (hB.trans q0) (h.tn (q0.tn [] base) (by simp))
 clear c1
 go_enter Tryz.func77, Tryz.ntmps77
 go_wp2_with fail
 refine (Calls.mono c1' ?_)
 rintro _ w1 ⟨rfl, h1, t1⟩
 clear c1'
 have oQ1 := t1.objc oQ (by decide)
 have tw1 : Tn kR base w w1 := (q0.tn _ _).trans t1
 go_wp2_with fail
 refine (c2 _).mono ?_
 rintro _ w2 ⟨rfl, q2⟩
 clear c2
 have o1 := q2.obj (obj_new w1 _)
 have oQ2 := q2.obj (obj_past oQ1 _)
 have tw2 : Tn kR base w w2 := (tw1.alloc _ _).trans (q2.tn _ _)
 have h2 : RdAt Wb w2 R l p e := let ⟨v, k1, k2⟩ := h1; ⟨v, q2.obj (obj_past k1 _), k2⟩
 clear t1 tw1 h1 oQ oQ1 q2 h
 generalize w.heap.size = Qb at *
 generalize w1.heap.size = G at *
 cases CW with
 | none =>
  simp only at hok hwn
  subst hok hwn
  have e1 : wellOV none = .agg #[.string ⟨#[]⟩, .int .i64 0, .int .i64 0] := rfl
  rw [e1] at *
  go_wp2_with fail
  have q3 : B w2 (w2.alloc (.cells #[.string ⟨#[]⟩, .int .i64 0, .int .i64 0] 39)) := (B.refl w2).alloc _ _
  have t3 : Tn kR base w (w2.alloc (.cells #[.string ⟨#[]⟩, .int .i64 0, .int .i64 0] 39)) := tw2.alloc _ _
  have h3 := RdAt.tn (show RdAt Wb w2 R l p e from h2) (q3.tn [] base) (by simp)
  have o3 := q3.obj o1
  have oQ3 := q3.obj oQ2
  have oL := obj_new w2 (.cells #[.string ⟨#[]⟩, .int .i64 0, .int .i64 0] 39)
  clear h2 o1 oQ2 q3
  generalize w2.heap.size = Lb at *
  generalize w2.alloc (.cells #[.string ⟨#[]⟩, .int .i64 0, .int .i64 0] 39) = w3 at *
  have n0 : w3.cell? ⟨G, 0, none⟩ = some (.int .i64 ((x.1 : Nat) : Int)) := obj_cell o3 0
  have n1 : w3.cell? ⟨G, 1, none⟩ = some (.string (strB x.2)) := obj_cell o3 1
  refine wp_region_noPanic ?_
  refine wp_region_gate (S := fun w' => w'.cell? ⟨G, 0, none⟩ = some (.int .i64 ((x.1 : Nat) : Int)) ∧ w'.cell? ⟨G, 1, none⟩ = some (.string (strB x.2)) ∧ RdAt Wb w' R l p e ∧ Tn kR base w w' ∧ B w3 w') 8 [(0, 3), (1, 0), (2, 3), (3, 3), (4, 1), (5, 1), (6, 1), (7, 3), (8, 4)] [0, 0, 0, 4, 8, 8, 56, 72, 195] [0, 0, 0, 4, 8, 8, 56, 72, 131] [0, 258, 0, 0, 0, 0, 0, 0, 0] (by kernel_rfl) (by kernel_rfl) (fun _ _ _ _ _ h => h) ?_ (fun hH => ?_)
  ·exact ⟨n0, n1, h3, t3.drew, (B.refl w3).drew⟩
  refine wpSeqG_free (d := 16) (v := ?_) rfl rfl (by kernel_rfl) (fun w => ?_) ?_
  rotate_left
  ·go_simp <;> with_reducible rfl
  dsimp only [sZ, sS]
  refine wpSeqG_take (d := 17) (v := ?_) rfl rfl (by kernel_rfl) (fun w hS => ?_) ?_
  rotate_left
  ·go_simp <;> with_reducible rfl
  dsimp only [sZ, sS]
  refine wpSeqG_free (d := 18) (v := ?_) rfl rfl (by kernel_rfl) (fun w => ?_) ?_
  rotate_left
  ·go_simp <;> with_reducible rfl
  dsimp only [sZ, sS]
  refine wpSeqG_free (d := 19) (v := ?_) rfl rfl (by kernel_rfl) (fun w => ?_) ?_
  rotate_left
  ·go_simp <;> with_reducible rfl
  dsimp only [sZ, sS]
  refine wpSeqG_skip (d := 20) rfl rfl (by kernel_rfl) (by rfl) ?_
  refine wpSeqG_skip (d := 21) rfl rfl (by kernel_rfl) (by rfl) ?_
  refine wpSeqG_skip (d := 22) rfl rfl (by kernel_rfl) (by rfl) ?_
  refine wpSeqG_free (d := 23) (v := ?_) rfl rfl (by kernel_rfl) (fun w => ?_) ?_
  rotate_left
  ·go_simp <;> with_reducible rfl
  dsimp only [sZ, sS]
  refine wpSeqG_gate rfl (by kernel_rfl) (fun K hK => ?_)
  go_simp
  (with_reducible refine (ask_any Wb _ base R l x.1 (strB x.2) false p e 26 hb (hH.2.2.2.1.toB hB hb) hR hH.2.2.1).mono ?_)
  rintro _ w4 ⟨rfl, h4, t4⟩
  have t34 := Tn.trans (hH.2.2.2.2.tn kR base) t4
  have t04 := hH.2.2.2.1.trans t4
  clear hH
  refine hK.out _ _ ?_
  clear hK
  refine wpSeqG_done ?_
  refine NoPanic.normal ?_
  have hf4 := hf.tn t04 (by decide)
  have oL4 := Tn.objc t34 oL (by decide)
  have oQ4 := Tn.objc t34 oQ3 (by decide)
  have l0 : w4.cell? ⟨Lb, 0, none⟩ = some (.string ⟨#[]⟩) := obj_cell oL4 0
  have l1 : w4.cell? ⟨Lb, 1, none⟩ = some (.int .i64 0) := obj_cell oL4 1
  have l2 : w4.cell? ⟨Lb, 2, none⟩ = some (.int .i64 0) := obj_cell oL4 2
  have p0 : w4.cell? ⟨Qb, 0, none⟩ = some (.string ⟨#[]⟩) := obj_cell oQ4 0
  have p1 : w4.cell? ⟨Qb, 1, none⟩ = some (.int .i64 0) := obj_cell oQ4 1
  have p2 : w4.cell? ⟨Qb, 2, none⟩ = some (.int .i64 0) := obj_cell oQ4 2
  have f0 := obj_free oQ4 0
  have f1 := obj_free oQ4 1
  have f2 := obj_free oQ4 2
  go_wp2
  have oR := obj_three oQ4 (.string ⟨#[]⟩) (.int .i64 0) (.int .i64 0)
  have cR0 := obj_cell oR 0
  have cR1 := obj_cell oR 1
  have cR2 := obj_cell oR 2
  refine bodyPost_ret (v := .agg #[.string ⟨#[]⟩, .int .i64 0, .int .i64 0]) (by simp [results, Tryz.results77, go_sem, cR0, cR1, cR2]) rfl ⟨rfl, RdAt.same h4 (set3_other _ _ _ _ _ _ (fun ee => ?_)), hf4.same (set3_other _ _ _ _ _ _ (fun ee => ?_)), ?_, (t04.tm (by decide) bf).trans (set3_tm oQ4 _ _ _ bf)⟩
  ·obtain ⟨v, k, _⟩ := h4
   rw [ee, oQ4] at k
   injection k with k
   injection k with _ k
   exact absurd k (by decide)
  ·obtain ⟨es, c, k⟩ := hf4.obj
   rw [ee, oQ4] at k
   cases k
  ·exact hNew _ (t04.mono (K' := kRM) (by decide) (Nat.le_refl _)) _ _ _
 | some z =>
  obtain ⟨n, r, c⟩ := z
  obtain ⟨i1, i2, i3⟩ := hin n r c rfl
  simp only at hok hwn
  subst hok hwn
  have e1 : wellOV (some (n, r, c)) = .agg #[.string (strB n), .int .i64 r, .int .i64 c] := rfl
  rw [e1] at *
  go_wp2_with fail
  have q3 : B w2 (w2.alloc (.cells #[.string (strB n), .int .i64 r, .int .i64 c] 39)) := (B.refl w2).alloc _ _
  have t3 : Tn kR base w (w2.alloc (.cells #[.string (strB n), .int .i64 r, .int .i64 c] 39)) := tw2.alloc _ _
  have h3 := RdAt.tn (show RdAt Wb w2 R l p e from h2) (q3.tn [] base) (by simp)
  have o3 := q3.obj o1
  have oQ3 := q3.obj oQ2
  have oL := obj_new w2 (.cells #[.string (strB n), .int .i64 r, .int .i64 c] 39)
  clear h2 o1 oQ2 q3
  generalize w2.heap.size = Lb at *
  generalize w2.alloc (.cells #[.string (strB n), .int .i64 r, .int .i64 c] 39) = w3 at *
  have n0 : w3.cell? ⟨G, 0, none⟩ = some (.int .i64 ((x.1 : Nat) : Int)) := obj_cell o3 0
  have n1 : w3.cell? ⟨G, 1, none⟩ = some (.string (strB x.2)) := obj_cell o3 1
  have cF := fill_any w3.drew base S bw bf wv tv fv tm pv hv ws fs (strB n) r c (by rw [strB_size]; unfold maxLen; omega) i2 i3 (t3.drew.objc oS (by decide)) (hW _ t3.drew) (hw.tn t3.drew (by decide)) (hf.tn t3.drew (by decide)) hbf hfs
  obtain ⟨RR, hRR⟩ : ∃ b, (hasW ws (strB n) r c && !filledW fs (strB n) r c) = b := ⟨_, rfl⟩
  rw [hRR] at cF
  replace hRR := Lib.hid hRR
  have nx : ∀ w4, Tn kM base w3.drew w4 → w4.cell? ⟨G, 0, none⟩ = some (.int .i64 ((x.1 : Nat) : Int)) ∧ w4.cell? ⟨G, 1, none⟩ = some (.string (strB x.2)) ∧ Tn kRM base w w4 ∧ Tn kRM base w3 w4 ∧
    Calls Tryz.prog 87 #[.pointer (some ⟨R, 0, none⟩), .agg #[.int .i64 ((x.1 : Nat) : Int), .string (strB x.2)], .bool RR, .int .i64 26] w4 fun r w' => r = .returned (.tuple #[]) ∧ RdAt Wb w' R l (askF RR p e x.1 26).1 (askF RR p e x.1 26).2 ∧ Tn kR base w4 w' := fun w4 t4 => by
   have o4 := Tn.objc (a := w3.drew) t4 o3 (by decide)
   have t34 : Tn kRM base w3 w4 := (((B.refl w3).drew).tn _ _).trans (t4.mono (K' := kRM) (by decide) (Nat.le_refl _))
   have t04 := (t3.mono (K' := kRM) (by decide) (Nat.le_refl _)).trans t34
   exact ⟨obj_cell o4 0, obj_cell o4 1, t04, t34, ask_any Wb w4 base R l x.1 (strB x.2) RR p e 26 hb (t04.toB hB hb) hR (RdAt.tn (w := w3.drew) h3 t4 (by decide))⟩
  have lL0 : w3.cell? ⟨Lb, 0, none⟩ = some (.string (strB n)) := obj_cell oL 0
  have lL1 : w3.cell? ⟨Lb, 1, none⟩ = some (.int .i64 r) := obj_cell oL 1
  have lL2 : w3.cell? ⟨Lb, 2, none⟩ = some (.int .i64 c) := obj_cell oL 2
  go_region_with (first
   | (go_at_call 29; (with_reducible refine (Calls.mono cF ?_); rintro _ w4 ⟨rfl, m4, t4, u4⟩; obtain ⟨n40, n41, t04, t34, cK⟩ := nx _ t4))
   | (go_at_call 87; (with_reducible refine (Calls.mono cK ?_); rintro _ w5 ⟨rfl, h5, t5⟩)))
  all_goals
   replace t34 := t34.trans (t5.mono (K' := kRM) (by decide) (Nat.le_refl _))
   replace t04 := t04.trans (t5.mono (K' := kRM) (by decide) (Nat.le_refl _))
   have hf5 := m4.tn t5 (by decide)
   rw [← hRR.out] at h5
   clear nx cF cK n40 n41 lL0 lL1 lL2 n0 n1
   have oL4 := Tn.objc t34 oL (by decide)
   have oQ4 := Tn.objc t34 oQ3 (by decide)
   have l0 : w5.cell? ⟨Lb, 0, none⟩ = some (.string (strB n)) := obj_cell oL4 0
   have l1 : w5.cell? ⟨Lb, 1, none⟩ = some (.int .i64 r) := obj_cell oL4 1
   have l2 : w5.cell? ⟨Lb, 2, none⟩ = some (.int .i64 c) := obj_cell oL4 2
   have p0 : w5.cell? ⟨Qb, 0, none⟩ = some (.string ⟨#[]⟩) := obj_cell oQ4 0
   have p1 : w5.cell? ⟨Qb, 1, none⟩ = some (.int .i64 0) := obj_cell oQ4 1
   have p2 : w5.cell? ⟨Qb, 2, none⟩ = some (.int .i64 0) := obj_cell oQ4 2
   have f0 := obj_free oQ4 0
   have f1 := obj_free oQ4 1
   have f2 := obj_free oQ4 2
   go_wp2
   have oR := obj_three oQ4 (.string (strB n)) (.int .i64 r) (.int .i64 c)
   have cR0 := obj_cell oR 0
   have cR1 := obj_cell oR 1
   have cR2 := obj_cell oR 2
   refine bodyPost_ret (v := .agg #[.string (strB n), .int .i64 r, .int .i64 c]) (by simp [results, Tryz.results77, go_sem, cR0, cR1, cR2]) rfl ⟨rfl, RdAt.same h5 (set3_other _ _ _ _ _ _ (fun ee => ?_)), hf5.same (set3_other _ _ _ _ _ _ (fun ee => ?_)), ?_, (((t3.drew.tm (by decide) bf).trans (u4 : Tm bf w3.drew w4)).trans (t5.tm (by decide) bf)).trans (set3_tm oQ4 _ _ _ bf)⟩
   ·obtain ⟨v, k, _⟩ := h5
    rw [ee, oQ4] at k
    injection k with k
    injection k with _ k
    exact absurd k (by decide)
   ·obtain ⟨es, c, k⟩ := hf5.obj
    rw [ee, oQ4] at k
    cases k
   ·exact hNew _ (t04) _ _ _
end Go.Proofs.YtglniapfnhedoaaGreatDoor
namespace Go.Proofs.YtglniapfnhedoaaGreatDoor
open Go.RowKit
set_option linter.unusedVariables false
def kS : List (Option TypeId) := [some 121, none, some 33, some 35, some 41, some 37, some 80]
theorem wareInfo9 : (Tryz.prog.info? 33).map (fun i => (i.zero, i.size, i.bytes)) = some (some (.agg #[.string ⟨#[]⟩, .int .i64 0, .int .i64 0, .int .i64 0, .slice none 0 0]), 5, 64) := by kernel_rfl
theorem tipInfo9 : (Tryz.prog.info? 35).map (fun i => (i.zero, i.size, i.bytes)) = some (some (.agg #[.string ⟨#[]⟩, .int .i64 0, .int .i64 0, .int .i64 0, .slice none 0 0]), 5, 64) := by kernel_rfl
theorem fillInfo9 : (Tryz.prog.info? 41).map (fun i => (i.zero, i.size, i.bytes)) = some (some (.agg #[.string ⟨#[]⟩, .int .i64 0, .int .i64 0, .int .i64 0]), 4, 40) := by kernel_rfl
theorem secInfo9 : (Tryz.prog.info? 37).map (fun i => (i.zero, i.size, i.bytes)) = some (some (.agg #[.bool false, .int .i64 0, .int .i64 0, .int .i64 0, .int .i64 0, .int .i64 0]), 6, 48) := by kernel_rfl
theorem set1_tm {w : World} {q : Nat} {cs : Array Value} {t : TypeId} (ho : w.heap[q]? = some (.cells cs t (0, 0))) (k : Nat) (x : Value) (b : Nat) : Tm b w (w.setCell ⟨q, k, none⟩ x) := fun i es c _ hi =>
 (Below.heap_setCell _ _ _ _ (fun e => by rw [show i = q from e, ho] at hi; cases hi)).trans hi
theorem map_set1 {w : World} {q b : Nat} {cs : Array Value} {t : TypeId} (hb : ∃ es c, w.heap[b]? = some (.map es c)) (ho : w.heap[q]? = some (.cells cs t (0, 0))) (k : Nat) (x : Value) : (w.setCell ⟨q, k, none⟩ x).heap[b]? = w.heap[b]? := by
 obtain ⟨es, c, h⟩ := hb
 exact Below.heap_setCell _ _ _ _ (fun e => by rw [show b = q from e, ho] at h; cases h)
theorem far_own {w : World} {b2 : Nat} {e2 t : TypeId} {s2 n2 : Nat} {v2 : Value} {x2 : List Value} {i : Nat} {cs : Array Value} (ho : w.heap[i]? = some (.cells cs t (0, 0))) (h2 : w.ownsRow b2 e2 s2 v2 n2 x2) (he : t ≠ e2) : v2.ownBlock ≠ some i :=
 obj_apart ho h2 (fun e => he (by simpa [kindO] using e))
theorem far_map {w : World} {b2 : Nat} {e2 : TypeId} {s2 n2 : Nat} {v2 : Value} {x2 : List Value} {i : Nat} (ho : ∃ es c, w.heap[i]? = some (.map es c)) (h2 : w.ownsRow b2 e2 s2 v2 n2 x2) : v2.ownBlock ≠ some i := by
 obtain ⟨es, c, ho⟩ := ho
 exact obj_apart ho h2 (by simp [kindO])
theorem nm_grown {w w' : World} {row : Option Nat} {b : Nat} {ns : List ByteArray} (g : w.grownBy w' row) (h : NmAt w b ns) (hr : row ≠ some b) : NmAt w' b ns := by
 obtain ⟨es, c, ho⟩ := h.obj
 exact h.same ((obj_grown g ho hr).trans ho.symm)
theorem fm_grown {w w' : World} {row : Option Nat} {b : Nat} {fs : List Fl} (g : w.grownBy w' row) (h : FmAt w b fs) (hr : row ≠ some b) : FmAt w' b fs := by
 obtain ⟨es, c, ho⟩ := h.obj
 exact h.same ((obj_grown g ho hr).trans ho.symm)
theorem rd_grown {Wb w w' : World} {row : Option Nat} {R : Nat} {l : List Wd} {p e : Int} (g : w.grownBy w' row) (h : RdAt Wb w R l p e) (hr : row ≠ some R) : RdAt Wb w' R l p e := by
 obtain ⟨v, ho, hv⟩ := h
 exact ⟨v, obj_grown g ho hr, hv⟩
def fas : List Wd → Int × Int → Int × Int
 | [], f => f
 | x :: l, f => fas l (askF (numOk (strB x.2)) f.1 f.2 x.1 20)
def fa4 (ok : Bool) (k : Int) (xn : Wd) (a0 a1 b0 b1 c0 c1 : Int) (xa xb xc : Wd) : Int × Int :=
 askF (numIn c0 c1 (strB xc.2)) (askF (numIn b0 b1 (strB xb.2)) (askF (numIn a0 a1 (strB xa.2)) (askF ok 0 0 xn.1 k).1 (askF ok 0 0 xn.1 k).2 xa.1 20).1 (askF (numIn a0 a1 (strB xa.2)) (askF ok 0 0 xn.1 k).1 (askF ok 0 0 xn.1 k).2 xa.1 20).2 xb.1 20).1
  (askF (numIn b0 b1 (strB xb.2)) (askF (numIn a0 a1 (strB xa.2)) (askF ok 0 0 xn.1 k).1 (askF ok 0 0 xn.1 k).2 xa.1 20).1 (askF (numIn a0 a1 (strB xa.2)) (askF ok 0 0 xn.1 k).1 (askF ok 0 0 xn.1 k).2 xa.1 20).2 xb.1 20).2 xc.1 20
structure StAt (w : World) (base S bw bt bf : Nat) (wv tv fv pv : Value) (head : Int) (d : Dk) (nw nt : List ByteArray) (fl : List Fl) (ss tt : List Value) : Prop where
 obj : w.heap[S]? = some (.cells #[wv, tv, fv, .map (some bw), .map (some bt), .map (some bf), pv, .int .i64 head] 80 (0, 0))
 rows : Rows w base wv tv fv d ss tt
 mw : NmAt w bw nw
 mt : NmAt w bt nt
 mf : FmAt w bf fl
 gS : base ≤ S
 gw : base ≤ bw
 gt : base ≤ bt
 gf : base ≤ bf
 n1 : bw ≠ bt
 n2 : bw ≠ bf
 n3 : bt ≠ bf
section
variable {w w' : World} {base S bw bt bf : Nat} {wv tv fv pv : Value} {head : Int} {d : Dk} {nw nt : List ByteArray} {fl : List Fl} {ss tt : List Value}
theorem StAt.b (h : StAt w base S bw bt bf wv tv fv pv head d nw nt fl ss tt) (q : B w w') : StAt w' base S bw bt bf wv tv fv pv head d nw nt fl ss tt :=
 ⟨q.obj h.obj, h.rows.b q, h.mw.tn (q.tn [] base) (by simp), h.mt.tn (q.tn [] base) (by simp), h.mf.tn (q.tn [] base) (by simp), h.gS, h.gw, h.gt, h.gf, h.n1, h.n2, h.n3⟩
theorem StAt.tn {K : List (Option TypeId)} {b : Nat} (h : StAt w base S bw bt bf wv tv fv pv head d nw nt fl ss tt) (t : Tn K b w w') (h0 : none ∉ K) (h1 : some 33 ∉ K) (h2 : some 35 ∉ K) (h3 : some 41 ∉ K) (h4 : some 37 ∉ K) (h5 : some 80 ∉ K) :
  StAt w' base S bw bt bf wv tv fv pv head d nw nt fl ss tt :=
 ⟨t.objc h.obj h5, h.rows.tn t h1 h2 h3 h4, h.mw.tn t h0, h.mt.tn t h0, h.mf.tn t h0, h.gS, h.gw, h.gt, h.gf, h.n1, h.n2, h.n3⟩
end
theorem StAt.eqv {w : World} {base S bw bt bf : Nat} {wv tv fv pv pv' : Value} {head head' : Int} {d d' : Dk} {nw nw' nt nt' : List ByteArray} {fl fl' : List Fl} {ss tt : List Value} (h : StAt w base S bw bt bf wv tv fv pv head d nw nt fl ss tt)
  (e1 : pv = pv') (e2 : head = head') (e3 : d = d') (e4 : nw = nw') (e5 : nt = nt') (e6 : fl = fl') : StAt w base S bw bt bf wv tv fv pv' head' d' nw' nt' fl' ss tt := by
 subst e1 e2 e3 e4 e5 e6; exact h
end Go.Proofs.YtglniapfnhedoaaGreatDoor
