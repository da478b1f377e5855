/-
 Contracts and what they rest on.
-/
import Derived.LaidEqlPtr
import Derived.Test.YtalnfojaccfcjaaGreatDoorChecked
import Derived.Deep.QuietTactic
import Derived.BigQuiet
import Derived.Laws.StructEq
import Derived.Lib.Hide
import Derived.KernelRfl
import Derived.Test.YtalnfojaccfcjaaGreatDoorY20
namespace Go.Proofs.YtalnfojaccfcjaaGreatDoor
open Go.RowKit
def lightR (r : Rec) : Bool := decide (r.n.size ≤ 30) && decide (r.l.length ≤ 6)
def lightD (d : Dk) : Bool := decide (d.ws.length ≤ 10) && (decide (d.ts.length ≤ 6) && (decide (d.fs.length ≤ 30) && (d.ws.all lightR && d.ts.all lightR)))
theorem dec_int (n : Nat) : decide (n ≤ 6) = decide ((n : Int) ≤ 6) := by rcases Nat.lt_or_ge 6 n with h | h <;> simp <;> omega
theorem light_step {l : List Rec} {i : Nat} (hi : i < l.length) (h : ∀ j (hj : j < l.length), j < i → lightR l[j] = true) :
  (lightR l[i] = true → ∀ j (hj : j < l.length), j < i + 1 → lightR l[j] = true) ∧ (lightR l[i] = false → l.all lightR = false) := by
 refine ⟨fun e j hj hj2 => ?_, fun e => ?_⟩
 ·by_cases c : j = i
  ·subst c; exact e
  ·exact h j hj (by omega)
 ·rw [List.all_eq_false]
  exact ⟨_, List.getElem_mem hi, by rw [e]; decide⟩
theorem light_all {l : List Rec} (h : ∀ j (hj : j < l.length), lightR l[j] = true) : l.all lightR = true := by
 rw [List.all_eq_true]
 intro x hx
 obtain ⟨i, hi, rfl⟩ := List.getElem_of_mem hx
 exact h i hi
set_option maxHeartbeats 2000000 in
theorem lightdeck_any (wv tv fv : Value) (d : Dk) (w : World) (h : IsDk w wv tv fv d) : Calls Tryz.prog 10 #[.agg #[wv, tv, fv]] w fun e w' => e = .returned (.bool (lightD d)) ∧ Q w w' := by
 obtain ⟨ao, ac, bo, bc, co, cc, rfl, rfl, rfl⟩ := h.forms
 have hQ := (Q.refl w).alloc #[.slice ao d.ws.length ac, .slice bo d.ts.length bc, .slice co d.fs.length cc] 26
 have hR0 := h.ws.keepB hQ.b
 have hR1 := h.ts.keepB hQ.b
 have hlen0 := h.ws.len
 have hlen1 := h.ts.len
 have k0 : (w.alloc (.cells #[.slice ao d.ws.length ac, .slice bo d.ts.length bc, .slice co d.fs.length cc] 26)).cell? ⟨w.heap.size, 0, none⟩ = some (.slice ao d.ws.length ac) := by rw [World.cell?_alloc_new]; rfl
 have k1 : (w.alloc (.cells #[.slice ao d.ws.length ac, .slice bo d.ts.length bc, .slice co d.fs.length cc] 26)).cell? ⟨w.heap.size, 1, none⟩ = some (.slice bo d.ts.length bc) := by rw [World.cell?_alloc_new]; rfl
 have k2 : (w.alloc (.cells #[.slice ao d.ws.length ac, .slice bo d.ts.length bc, .slice co d.fs.length cc] 26)).cell? ⟨w.heap.size, 2, none⟩ = some (.slice co d.fs.length cc) := by rw [World.cell?_alloc_new]; rfl
 replace hQ := Lib.hid hQ
 clear h
 go_enter Tryz.func10, Tryz.ntmps10
 unfold lightD
 by_cases n0 : 10 < d.ws.length
 ·have n0B : decide ((10 : Int) < (d.ws.length : Int)) = true := decide_eq_true (by omega)
  rw [decide_eq_false (by omega : ¬ d.ws.length ≤ 10)]
  clear hR0 hR1 hlen0 hlen1
  go_wp2
  go_ret
  exact ⟨rfl, hQ.out⟩
 have n0B : decide ((10 : Int) < (d.ws.length : Int)) = false := decide_eq_false (by omega)
 rw [decide_eq_true (by omega : d.ws.length ≤ 10), Bool.true_and]
 by_cases n1 : 6 < d.ts.length
 ·have n1B : decide ((6 : Int) < (d.ts.length : Int)) = true := decide_eq_true (by omega)
  rw [decide_eq_false (by omega : ¬ d.ts.length ≤ 6)]
  clear hR0 hR1 hlen0 hlen1
  go_wp2
  go_ret
  exact ⟨rfl, hQ.out⟩
 have n1B : decide ((6 : Int) < (d.ts.length : Int)) = false := decide_eq_false (by omega)
 rw [decide_eq_true (by omega : d.ts.length ≤ 6), Bool.true_and]
 by_cases n2 : 30 < d.fs.length
 ·have n2B : decide ((30 : Int) < (d.fs.length : Int)) = true := decide_eq_true (by omega)
  rw [decide_eq_false (by omega : ¬ d.fs.length ≤ 30)]
  clear hR0 hR1 hlen0 hlen1
  go_wp2
  go_ret
  exact ⟨rfl, hQ.out⟩
 have n2B : decide ((30 : Int) < (d.fs.length : Int)) = false := decide_eq_false (by omega)
 rw [decide_eq_true (by omega : d.fs.length ≤ 30), Bool.true_and]
 go_wp2
 generalize w.alloc (.cells #[.slice ao d.ws.length ac, .slice bo d.ts.length bc, .slice co d.fs.length cc] 26) = W at *
 generalize w.heap.size = H at *
 clear n0 n1 n2 n0B n1B n2B
 go_loopw [3] (fun iv wr => ∃ i : Nat, i ≤ d.ws.length ∧ iv = .int .i64 i ∧ (∀ j (hj : j < d.ws.length), j < i → lightR d.ws[j] = true) ∧ W = wr) (fun iv _ => d.ws.length + 1 - (intOf iv).toNat)
 case atStart => exact ⟨0, Nat.zero_le _, rfl, fun j _ hj => by omega, rfl⟩
 case round =>
  obtain ⟨i, hi, rfl, hall, rfl⟩ := hrel
  by_cases hl : i < d.ws.length
  ·have hlB : decide ((i : Int) < (d.ws.length : Int)) = true := decide_eq_true (by omega)
   have hlI : (i : Int) < (d.ws.length : Int) := by omega
   have hi0 : (0 : Int) ≤ (i : Int) := by omega
   have wk1 : IntKind.i64.wrap ((i : Int) + 1) = (i : Int) + 1 := by rw [IntKind.wrap_i64]; omega
   obtain ⟨a, cap, e1, _, _, hr⟩ := hR0.at_ hl
   obtain ⟨rfl, _, rfl⟩ : ao = some a ∧ True ∧ ac = cap := by simpa using e1
   have hn := hr.n
   obtain ⟨sv, g5, g6⟩ := hr.l
   have hF := light_step (l := d.ws) hl hall
   generalize d.ws[i] = F at *
   obtain ⟨N, X, Y, Z, SL⟩ := F
   simp only at hn g5 g6 hF
   have ht := light_any sv SL _ g6 _ rfl
   have HL := Lib.hid hl
   cases c1 : decide ((30 : Int) < (N.size : Int))
   ·cases c2 : decide ((SL.length : Int) ≤ 6)
    ·rw [c2] at ht
     have HF := Lib.hid (hF.2 (by simp only [lightR]; rw [Bool.and_eq_false_iff]; right; rw [← c2]; exact dec_int _))
     clear hall hr hR0 hR1 e1 hl hi hlen0 hlen1 g6 hF
     go_wp2_with fail
     refine (Calls.mono ht ?_)
     rintro _ _ ⟨rfl, rfl⟩
     go_wp2
     go_ret
     exact ⟨by rw [HF.out]; simp, hQ.out⟩
    ·rw [c2] at ht
     have HA := Lib.hid (hF.1 (by simp only [lightR]; rw [Bool.and_eq_true]; exact ⟨by have := of_decide_eq_false c1; exact decide_eq_true (by omega), by have := of_decide_eq_true c2; exact decide_eq_true (by omega)⟩))
     clear hall hr e1 hl hi g6 hF
     go_wp2_with fail
     refine (Calls.mono ht ?_)
     rintro _ _ ⟨rfl, rfl⟩
     go_wp2
     go_roundw
     case rel => exact ⟨i + 1, by have := HL.out; omega, by go_num, HA.out, trivial⟩
     case measure => have := HL.out; simp [intOf]; omega
   ·have HF := Lib.hid (hF.2 (by simp only [lightR]; rw [Bool.and_eq_false_iff]; left; have := of_decide_eq_true c1; exact decide_eq_false (by omega)))
    clear hall hr hR0 hR1 e1 hl hi hlen0 hlen1 g6 hF ht
    go_wp2
    go_ret
    exact ⟨by rw [HF.out]; simp, hQ.out⟩
  ·have hlB : decide ((i : Int) < (d.ws.length : Int)) = false := decide_eq_false (by omega)
   have hyes0 := Lib.hid (light_all (l := d.ws) (fun j hj => hall j hj (by omega)))
   clear hall hR0 hi hlen0
   go_wp2
   go_loopw [4] (fun iv wr => ∃ i : Nat, i ≤ d.ts.length ∧ iv = .int .i64 i ∧ (∀ j (hj : j < d.ts.length), j < i → lightR d.ts[j] = true) ∧ W = wr) (fun iv _ => d.ts.length + 1 - (intOf iv).toNat)
   case atStart => exact ⟨0, Nat.zero_le _, rfl, fun j _ hj => by omega, rfl⟩
   case round =>
    clear hl hlB
    obtain ⟨i, hi, rfl, hall, rfl⟩ := hrel
    by_cases hl : i < d.ts.length
    ·have hlB : decide ((i : Int) < (d.ts.length : Int)) = true := decide_eq_true (by omega)
     have hlI : (i : Int) < (d.ts.length : Int) := by omega
     have hi0 : (0 : Int) ≤ (i : Int) := by omega
     have wk1 : IntKind.i64.wrap ((i : Int) + 1) = (i : Int) + 1 := by rw [IntKind.wrap_i64]; omega
     obtain ⟨a, cap, e1, _, _, hr⟩ := hR1.at_ hl
     obtain ⟨rfl, _, rfl⟩ : bo = some a ∧ True ∧ bc = cap := by simpa using e1
     have hn := hr.n
     obtain ⟨sv, g5, g6⟩ := hr.l
     have hF := light_step (l := d.ts) hl hall
     generalize d.ts[i] = F at *
     obtain ⟨N, X, Y, Z, SL⟩ := F
     simp only at hn g5 g6 hF
     have ht := light_any sv SL _ g6 _ rfl
     have HL := Lib.hid hl
     cases c1 : decide ((30 : Int) < (N.size : Int))
     ·cases c2 : decide ((SL.length : Int) ≤ 6)
      ·rw [c2] at ht
       have HF := Lib.hid (hF.2 (by simp only [lightR]; rw [Bool.and_eq_false_iff]; right; rw [← c2]; exact dec_int _))
       clear hall hr hR1 e1 hl hi hlen1 g6 hF
       go_wp2_with fail
       refine (Calls.mono ht ?_)
       rintro _ _ ⟨rfl, rfl⟩
       go_wp2
       go_ret
       exact ⟨by rw [HF.out]; simp, hQ.out⟩
      ·rw [c2] at ht
       have HA := Lib.hid (hF.1 (by simp only [lightR]; rw [Bool.and_eq_true]; exact ⟨by have := of_decide_eq_false c1; exact decide_eq_true (by omega), by have := of_decide_eq_true c2; exact decide_eq_true (by omega)⟩))
       clear hall hr e1 hl hi g6 hF
       go_wp2_with fail
       refine (Calls.mono ht ?_)
       rintro _ _ ⟨rfl, rfl⟩
       go_wp2
       go_roundw
       case rel => exact ⟨i + 1, by have := HL.out; omega, by go_num, HA.out, trivial⟩
       case measure => have := HL.out; simp [intOf]; omega
     ·have HF := Lib.hid (hF.2 (by simp only [lightR]; rw [Bool.and_eq_false_iff]; left; have := of_decide_eq_true c1; exact decide_eq_false (by omega)))
      clear hall hr hR1 e1 hl hi hlen1 g6 hF ht
      go_wp2
      go_ret
      exact ⟨by rw [HF.out]; simp, hQ.out⟩
    ·have hlB : decide ((i : Int) < (d.ts.length : Int)) = false := decide_eq_false (by omega)
     have hyes := Lib.hid (light_all (l := d.ts) (fun j hj => hall j hj (by omega)))
     clear hall hR1 hi hlen1
     go_wp2
     go_ret
     exact ⟨by rw [hyes0.out, hyes.out]; rfl, hQ.out⟩
end Go.Proofs.YtalnfojaccfcjaaGreatDoor
namespace Go.Proofs.YtalnfojaccfcjaaGreatDoor
open Go.RowKit
theorem secs_at {w : World} {v : Value} {l : List Sec} (h : IsSecs w v l) {i : Nat} {s : Sec} (hs : l[i]? = some s) : ∃ a, (∃ cap, v = .slice (some a) l.length cap) ∧ SecAt w (a.add (i * 6)) s := by
 rcases h with ⟨_, rfl⟩ | ⟨a, cap, h1, _, _, h4⟩
 ·simp at hs
 ·exact ⟨a, ⟨cap, h1⟩, (h4 i s hs).2⟩
theorem secs_len {w : World} {v : Value} {l : List Sec} (h : IsSecs w v l) : l.length ≤ 9223372036854775807 := by
 rcases h with ⟨_, rfl⟩ | ⟨a, cap, _, h2, h3, _⟩
 ·simp
 ·exact len_max h2 h3
theorem fls_at {w : World} {v : Value} {l : List Fl} (h : IsFls w v l) {i : Nat} {s : Fl} (hs : l[i]? = some s) : ∃ a, (∃ cap, v = .slice (some a) l.length cap) ∧ FlAt w (a.add (i * 4)) s := by
 rcases h with ⟨_, rfl⟩ | ⟨a, cap, h1, _, _, h4⟩
 ·simp at hs
 ·exact ⟨a, ⟨cap, h1⟩, h4 i s hs⟩
set_option maxHeartbeats 2000000 in
theorem sections_any (v1 v2 : Value) (l : List Sec) (w : World) (h1 : IsSecs w v1 l) (h2 : IsSecs w v2 l) : Calls Tryz.prog 42 #[v1, v2] w fun e w' => e = .returned (.bool true) ∧ Dr w w' := by
 obtain ⟨ao, ac, rfl⟩ := secs_form h1
 obtain ⟨bo, bc, rfl⟩ := secs_form h2
 have hlen := secs_len h1
 go_enter Tryz.func42, Tryz.ntmps42
 go_wp2
 go_loopw [5] (fun iv wr => ∃ i : Nat, i ≤ l.length ∧ iv = .int .i64 i ∧ Dr w wr) (fun iv _ => l.length + 1 - (intOf iv).toNat)
 case atStart => exact ⟨0, by omega, rfl, Dr.refl _⟩
 case round =>
  obtain ⟨i, hi, rfl, hD⟩ := hrel
  obtain ⟨wo, rfl⟩ : ∃ wo : World, wo = wr := ⟨_, rfl⟩
  by_cases hl : i < l.length
  ·have hlB : decide ((i : Int) < (l.length : Int)) = true := decide_eq_true (by omega)
   have hlI : (i : Int) < (l.length : Int) := by omega
   have hi0 : (0 : Int) ≤ (i : Int) := by omega
   have wk1 : IntKind.i64.wrap ((i : Int) + 1) = (i : Int) + 1 := by rw [IntKind.wrap_i64]; omega
   obtain ⟨F, hF⟩ : ∃ F, l[i]? = some F := ⟨_, List.getElem?_eq_getElem hl⟩
   obtain ⟨a, e1, g1⟩ := secs_at (h1.keepB hD.q.b) hF
   obtain ⟨b, e2, g2⟩ := secs_at (h2.keepB hD.q.b) hF
   obtain ⟨rfl, _⟩ : ao = some a ∧ True := by simpa using e1
   obtain ⟨rfl, _⟩ : bo = some b ∧ True := by simpa using e2
   obtain ⟨a0, a1, a2, a3, a4, a5⟩ := g1
   obtain ⟨b0, b1, b2, b3, b4, b5⟩ := g2
   obtain ⟨x0, x1, x2, x3, x4, x5⟩ := F
   simp only at a0 a1 a2 a3 a4 a5 b0 b1 b2 b3 b4 b5
   have HL := Lib.hid hl
   replace hD := Lib.hid hD
   clear h1 h2 hF e1 e2
   go_wp2_with fail
   go_quiet (fail)
   go_wp2
   go_roundw
   case rel => exact ⟨i + 1, by have := HL.out; omega, by go_num, hD.out.trans ⟨_, rfl⟩⟩
   case measure => have := HL.out; simp [intOf]; omega
  ·have hlB : decide ((i : Int) < (l.length : Int)) = false := decide_eq_false (by omega)
   replace hD := Lib.hid hD
   clear h1 h2
   go_wp2
   go_ret
   exact ⟨rfl, hD.out⟩
set_option maxHeartbeats 2000000 in
theorem fills_any (v1 v2 : Value) (l : List Fl) (w : World) (h1 : IsFls w v1 l) (h2 : IsFls w v2 l) : Calls Tryz.prog 75 #[v1, v2] w fun e w' => e = .returned (.bool true) ∧ Dr w w' := by
 obtain ⟨ao, ac, rfl⟩ := h1.form
 obtain ⟨bo, bc, rfl⟩ := h2.form
 have hlen := h1.len
 go_enter Tryz.func75, Tryz.ntmps75
 go_wp2
 go_loopw [5] (fun iv wr => ∃ i : Nat, i ≤ l.length ∧ iv = .int .i64 i ∧ Dr w wr) (fun iv _ => l.length + 1 - (intOf iv).toNat)
 case atStart => exact ⟨0, by omega, rfl, Dr.refl _⟩
 case round =>
  obtain ⟨i, hi, rfl, hD⟩ := hrel
  obtain ⟨wo, rfl⟩ : ∃ wo : World, wo = wr := ⟨_, rfl⟩
  by_cases hl : i < l.length
  ·have hlB : decide ((i : Int) < (l.length : Int)) = true := decide_eq_true (by omega)
   have hlI : (i : Int) < (l.length : Int) := by omega
   have hi0 : (0 : Int) ≤ (i : Int) := by omega
   have wk1 : IntKind.i64.wrap ((i : Int) + 1) = (i : Int) + 1 := by rw [IntKind.wrap_i64]; omega
   obtain ⟨F, hF⟩ : ∃ F, l[i]? = some F := ⟨_, List.getElem?_eq_getElem hl⟩
   obtain ⟨a, e1, g1⟩ := fls_at (h1.keepB hD.q.b) hF
   obtain ⟨b, e2, g2⟩ := fls_at (h2.keepB hD.q.b) hF
   obtain ⟨rfl, _⟩ : ao = some a ∧ True := by simpa using e1
   obtain ⟨rfl, _⟩ : bo = some b ∧ True := by simpa using e2
   obtain ⟨a0, a1, a2, a3⟩ := g1
   obtain ⟨b0, b1, b2, b3⟩ := g2
   obtain ⟨x0, x1, x2, x3⟩ := F
   simp only at a0 a1 a2 a3 b0 b1 b2 b3
   have HL := Lib.hid hl
   replace hD := Lib.hid hD
   clear h1 h2 hF e1 e2
   go_wp2_with fail
   go_quiet (fail)
   go_wp2
   go_roundw
   case rel => exact ⟨i + 1, by have := HL.out; omega, by go_num, hD.out.trans ⟨_, rfl⟩⟩
   case measure => have := HL.out; simp [intOf]; omega
  ·have hlB : decide ((i : Int) < (l.length : Int)) = false := decide_eq_false (by omega)
   replace hD := Lib.hid hD
   clear h1 h2
   go_wp2
   go_ret
   exact ⟨rfl, hD.out⟩
end Go.Proofs.YtalnfojaccfcjaaGreatDoor
namespace Go.Proofs.YtalnfojaccfcjaaGreatDoor
open Go.RowKit
theorem helptip_any (n : ByteArray) (x y z : Int) (v1 v2 : Value) (l : List Sec) (w : World) (h1 : IsSecs w v1 l) (h2 : IsSecs w v2 l) : Calls Tryz.prog 38 #[.agg #[.string n, .int .i64 x, .int .i64 y, .int .i64 z, v1], .agg #[.string n, .int .i64 x, .int .i64 y, .int .i64 z, v2]] w fun e w' => e = .returned (.bool true) ∧ Q w w' := by
 have q1 := (Q.refl w).alloc #[.string n, .int .i64 x, .int .i64 y, .int .i64 z, v1] 35
 have hQ := q1.alloc #[.string n, .int .i64 x, .int .i64 y, .int .i64 z, v2] 35
 have ht := sections_any v1 v2 l _ (h1.keepB hQ.b) (h2.keepB hQ.b)
 replace hQ := Lib.hid hQ
 clear q1 h1 h2
 go_enter Tryz.func38, Tryz.ntmps38
 go_wp2_with fail
 refine (Calls.mono ht ?_)
 rintro _ w1 ⟨rfl, hD⟩
 go_wp2
 go_ret
 exact ⟨rfl, hQ.out.dr hD⟩
set_option maxHeartbeats 2000000 in
theorem helpdeck_any (wv tv fv wv2 tv2 fv2 : Value) (d : Dk) (w : World) (h1 : IsDk w wv tv fv d) (h2 : IsDk w wv2 tv2 fv2 d) : Calls Tryz.prog 19 #[.agg #[wv, tv, fv], .agg #[wv2, tv2, fv2]] w fun e w' => e = .returned (.bool true) ∧ Q w w' := by
 obtain ⟨ao, ac, bo, bc, co, cc, rfl, rfl, rfl⟩ := h1.forms
 obtain ⟨ao2, ac2, bo2, bc2, co2, cc2, rfl, rfl, rfl⟩ := h2.forms
 have q1 := (Q.refl w).alloc #[.slice ao d.ws.length ac, .slice bo d.ts.length bc, .slice co d.fs.length cc] 26
 have hQ := q1.alloc #[.slice ao2 d.ws.length ac2, .slice bo2 d.ts.length bc2, .slice co2 d.fs.length cc2] 26
 obtain ⟨W, hW⟩ : ∃ W, (w.alloc (.cells #[.slice ao d.ws.length ac, .slice bo d.ts.length bc, .slice co d.fs.length cc] 26)).alloc (.cells #[.slice ao2 d.ws.length ac2, .slice bo2 d.ts.length bc2, .slice co2 d.fs.length cc2] 26) = W := ⟨_, rfl⟩
 have e1 : (w.alloc (.cells #[.slice ao d.ws.length ac, .slice bo d.ts.length bc, .slice co d.fs.length cc] 26)).heap.size = w.heap.size + 1 := by simp
 have k0 : W.cell? ⟨w.heap.size, 0, none⟩ = some (.slice ao d.ws.length ac) := by rw [← hW]; exact ((Q.refl _).alloc _ _).keep (by rw [World.cell?_alloc_new]; rfl)
 have k1 : W.cell? ⟨w.heap.size, 1, none⟩ = some (.slice bo d.ts.length bc) := by rw [← hW]; exact ((Q.refl _).alloc _ _).keep (by rw [World.cell?_alloc_new]; rfl)
 have k2 : W.cell? ⟨w.heap.size, 2, none⟩ = some (.slice co d.fs.length cc) := by rw [← hW]; exact ((Q.refl _).alloc _ _).keep (by rw [World.cell?_alloc_new]; rfl)
 have l0 : W.cell? ⟨w.heap.size + 1, 0, none⟩ = some (.slice ao2 d.ws.length ac2) := by rw [← hW, ← e1, World.cell?_alloc_new]; rfl
 have l1 : W.cell? ⟨w.heap.size + 1, 1, none⟩ = some (.slice bo2 d.ts.length bc2) := by rw [← hW, ← e1, World.cell?_alloc_new]; rfl
 have l2 : W.cell? ⟨w.heap.size + 1, 2, none⟩ = some (.slice co2 d.fs.length cc2) := by rw [← hW, ← e1, World.cell?_alloc_new]; rfl
 rw [hW] at hQ
 have hD1 := h1.keepB hQ.b
 have hD2 := h2.keepB hQ.b
 have hf := fills_any _ _ d.fs W hD1.fs hD2.fs
 have n0 : ((d.ws.length : Int) != (d.ws.length : Int)) = false := by simp
 have n1 : ((d.ts.length : Int) != (d.ts.length : Int)) = false := by simp
 have hlen0 := h1.ws.len
 have hlen1 := h1.ts.len
 replace hQ := Lib.hid hQ
 clear q1 h1 h2 e1
 go_enter Tryz.func19, Tryz.ntmps19
 go_wp2_with fail
 try rw [hW]
 refine (Calls.mono hf ?_)
 rintro _ W1 ⟨rfl, hd⟩
 have hq := hd.q
 replace k0 := hq.keep k0
 replace k1 := hq.keep k1
 replace k2 := hq.keep k2
 replace l0 := hq.keep l0
 replace l1 := hq.keep l1
 replace l2 := hq.keep l2
 replace hD1 := hD1.keepB hq.b
 replace hD2 := hD2.keepB hq.b
 replace hQ := Lib.hid (hQ.out.trans hq)
 clear hq hd hW
 go_wp2
 generalize w.heap.size = H at *
 go_loopw [5] (fun iv wr => ∃ i : Nat, i ≤ d.ws.length ∧ iv = .int .i64 i ∧ Q W1 wr) (fun iv _ => d.ws.length + 1 - (intOf iv).toNat)
 case atStart => exact ⟨0, Nat.zero_le _, rfl, Q.refl _⟩
 case round =>
  obtain ⟨i, hi, rfl, hQi⟩ := hrel
  obtain ⟨wo, rfl⟩ : ∃ wo : World, wo = wr := ⟨_, rfl⟩
  replace k0 := hQi.keep k0
  replace k1 := hQi.keep k1
  replace k2 := hQi.keep k2
  replace l0 := hQi.keep l0
  replace l1 := hQi.keep l1
  replace l2 := hQi.keep l2
  replace hD1 := hD1.keepB hQi.b
  replace hD2 := hD2.keepB hQi.b
  replace hQ := Lib.hid (hQ.out.trans hQi)
  by_cases hl : i < d.ws.length
  ·have hlB : decide ((i : Int) < (d.ws.length : Int)) = true := decide_eq_true (by omega)
   have hlI : (i : Int) < (d.ws.length : Int) := by omega
   have hi0 : (0 : Int) ≤ (i : Int) := by omega
   have wk1 : IntKind.i64.wrap ((i : Int) + 1) = (i : Int) + 1 := by rw [IntKind.wrap_i64]; omega
   obtain ⟨a, cap, e1, _, _, hr⟩ := hD1.ws.at_ hl
   obtain ⟨rfl, _, rfl⟩ : ao = some a ∧ True ∧ ac = cap := by simpa using e1
   obtain ⟨b, cap2, e2, _, _, hs⟩ := hD2.ws.at_ hl
   obtain ⟨rfl, _, rfl⟩ : ao2 = some b ∧ True ∧ ac2 = cap2 := by simpa using e2
   generalize d.ws[i] = F at *
   obtain ⟨N, X, Y, Z, SL⟩ := F
   obtain ⟨a1, a2, a3, a4, sv, a5, a6⟩ := hr
   obtain ⟨b1, b2, b3, b4, su, b5, b6⟩ := hs
   simp only at a1 a2 a3 a4 a5 a6 b1 b2 b3 b4 b5 b6
   obtain ⟨so, sc, rfl⟩ := secs_form a6
   obtain ⟨uo, uc, rfl⟩ := secs_form b6
   obtain ⟨sn, hsn⟩ : ∃ sn, SL.length = sn := ⟨_, rfl⟩
   rw [hsn] at a5 b5
   have HL := Lib.hid hl
   clear e1 e2 hi
   have s0 := World.block_lt_of_cell? _ _ k0
   have s1 := World.block_lt_of_cell? _ _ l0
   have s2 := World.block_lt_of_cell? _ _ a1
   have s3 := World.block_lt_of_cell? _ _ b1
   go_wp2_with fail
   go_region
   ·obtain ⟨W2, hW2⟩ : ∃ W2, ((wo.alloc (.cells #[.string N, .int .i64 X, .int .i64 Y, .int .i64 Z, .slice so sn sc] 33)).alloc (.cells #[.string N, .int .i64 X, .int .i64 Y, .int .i64 Z, .slice uo sn uc] 33)).drew = W2 := ⟨_, rfl⟩
    have z1 : (wo.alloc (.cells #[.string N, .int .i64 X, .int .i64 Y, .int .i64 Z, .slice so sn sc] 33)).heap.size = wo.heap.size + 1 := by simp
    have q2 : Q wo W2 := by rw [← hW2]; exact (((Q.refl wo).alloc #[.string N, .int .i64 X, .int .i64 Y, .int .i64 Z, .slice so sn sc] 33).alloc #[.string N, .int .i64 X, .int .i64 Y, .int .i64 Z, .slice uo sn uc] 33).drew
    have p0 : W2.cell? ⟨wo.heap.size, 0, none⟩ = some (.string N) := by rw [← hW2, World.cell?_drew]; exact ((Q.refl _).alloc _ _).keep (by rw [World.cell?_alloc_new]; rfl)
    have r0 : W2.cell? ⟨wo.heap.size + 1, 0, none⟩ = some (.string N) := by rw [← hW2, World.cell?_drew, ← z1, World.cell?_alloc_new]; rfl
    have p1 : W2.cell? ⟨wo.heap.size, 1, none⟩ = some (.int .i64 X) := by rw [← hW2, World.cell?_drew]; exact ((Q.refl _).alloc _ _).keep (by rw [World.cell?_alloc_new]; rfl)
    have r1 : W2.cell? ⟨wo.heap.size + 1, 1, none⟩ = some (.int .i64 X) := by rw [← hW2, World.cell?_drew, ← z1, World.cell?_alloc_new]; rfl
    have p2 : W2.cell? ⟨wo.heap.size, 2, none⟩ = some (.int .i64 Y) := by rw [← hW2, World.cell?_drew]; exact ((Q.refl _).alloc _ _).keep (by rw [World.cell?_alloc_new]; rfl)
    have r2 : W2.cell? ⟨wo.heap.size + 1, 2, none⟩ = some (.int .i64 Y) := by rw [← hW2, World.cell?_drew, ← z1, World.cell?_alloc_new]; rfl
    have p3 : W2.cell? ⟨wo.heap.size, 3, none⟩ = some (.int .i64 Z) := by rw [← hW2, World.cell?_drew]; exact ((Q.refl _).alloc _ _).keep (by rw [World.cell?_alloc_new]; rfl)
    have r3 : W2.cell? ⟨wo.heap.size + 1, 3, none⟩ = some (.int .i64 Z) := by rw [← hW2, World.cell?_drew, ← z1, World.cell?_alloc_new]; rfl
    have p4 : W2.cell? ⟨wo.heap.size, 4, none⟩ = some (.slice so sn sc) := by rw [← hW2, World.cell?_drew]; exact ((Q.refl _).alloc _ _).keep (by rw [World.cell?_alloc_new]; rfl)
    have r4 : W2.cell? ⟨wo.heap.size + 1, 4, none⟩ = some (.slice uo sn uc) := by rw [← hW2, World.cell?_drew, ← z1, World.cell?_alloc_new]; rfl
    have hs := sections_any _ _ SL W2 (a6.keepB q2.b) (b6.keepB q2.b)
    rw [hsn] at hs
    replace k0 := q2.keep k0
    replace k1 := q2.keep k1
    replace k2 := q2.keep k2
    replace l0 := q2.keep l0
    replace l1 := q2.keep l1
    replace l2 := q2.keep l2
    have HQ := Lib.hid (hQi.trans q2)
    clear a1 a2 a3 a4 a5 a6 b1 b2 b3 b4 b5 b6 s0 s1 s2 s3 hD1 hD2 hQi q2 z1 hl
    rw [hW2]
    clear hW2
    go_wp2_with fail
    refine (Calls.mono hs ?_)
    rintro _ W3 ⟨rfl, hd⟩
    replace HQ := Lib.hid (HQ.out.dr hd)
    go_wp2
    go_roundw
    case rel => exact ⟨i + 1, by have := HL.out; omega, by go_num, HQ.out⟩
    case measure => have := HL.out; simp [intOf]; omega
   ·obtain ⟨W2, hW2⟩ : ∃ W2, ((wo.alloc (.cells #[.string N, .int .i64 X, .int .i64 Y, .int .i64 Z, .slice uo sn uc] 33)).alloc (.cells #[.string N, .int .i64 X, .int .i64 Y, .int .i64 Z, .slice so sn sc] 33)).drew = W2 := ⟨_, rfl⟩
    have z1 : (wo.alloc (.cells #[.string N, .int .i64 X, .int .i64 Y, .int .i64 Z, .slice uo sn uc] 33)).heap.size = wo.heap.size + 1 := by simp
    have q2 : Q wo W2 := by rw [← hW2]; exact (((Q.refl wo).alloc #[.string N, .int .i64 X, .int .i64 Y, .int .i64 Z, .slice uo sn uc] 33).alloc #[.string N, .int .i64 X, .int .i64 Y, .int .i64 Z, .slice so sn sc] 33).drew
    have p0 : W2.cell? ⟨wo.heap.size, 0, none⟩ = some (.string N) := by rw [← hW2, World.cell?_drew]; exact ((Q.refl _).alloc _ _).keep (by rw [World.cell?_alloc_new]; rfl)
    have r0 : W2.cell? ⟨wo.heap.size + 1, 0, none⟩ = some (.string N) := by rw [← hW2, World.cell?_drew, ← z1, World.cell?_alloc_new]; rfl
    have p1 : W2.cell? ⟨wo.heap.size, 1, none⟩ = some (.int .i64 X) := by rw [← hW2, World.cell?_drew]; exact ((Q.refl _).alloc _ _).keep (by rw [World.cell?_alloc_new]; rfl)
    have r1 : W2.cell? ⟨wo.heap.size + 1, 1, none⟩ = some (.int .i64 X) := by rw [← hW2, World.cell?_drew, ← z1, World.cell?_alloc_new]; rfl
    have p2 : W2.cell? ⟨wo.heap.size, 2, none⟩ = some (.int .i64 Y) := by rw [← hW2, World.cell?_drew]; exact ((Q.refl _).alloc _ _).keep (by rw [World.cell?_alloc_new]; rfl)
    have r2 : W2.cell? ⟨wo.heap.size + 1, 2, none⟩ = some (.int .i64 Y) := by rw [← hW2, World.cell?_drew, ← z1, World.cell?_alloc_new]; rfl
    have p3 : W2.cell? ⟨wo.heap.size, 3, none⟩ = some (.int .i64 Z) := by rw [← hW2, World.cell?_drew]; exact ((Q.refl _).alloc _ _).keep (by rw [World.cell?_alloc_new]; rfl)
    have r3 : W2.cell? ⟨wo.heap.size + 1, 3, none⟩ = some (.int .i64 Z) := by rw [← hW2, World.cell?_drew, ← z1, World.cell?_alloc_new]; rfl
    have p4 : W2.cell? ⟨wo.heap.size, 4, none⟩ = some (.slice uo sn uc) := by rw [← hW2, World.cell?_drew]; exact ((Q.refl _).alloc _ _).keep (by rw [World.cell?_alloc_new]; rfl)
    have r4 : W2.cell? ⟨wo.heap.size + 1, 4, none⟩ = some (.slice so sn sc) := by rw [← hW2, World.cell?_drew, ← z1, World.cell?_alloc_new]; rfl
    have hs := sections_any _ _ SL W2 (a6.keepB q2.b) (b6.keepB q2.b)
    rw [hsn] at hs
    replace k0 := q2.keep k0
    replace k1 := q2.keep k1
    replace k2 := q2.keep k2
    replace l0 := q2.keep l0
    replace l1 := q2.keep l1
    replace l2 := q2.keep l2
    have HQ := Lib.hid (hQi.trans q2)
    clear a1 a2 a3 a4 a5 a6 b1 b2 b3 b4 b5 b6 s0 s1 s2 s3 hD1 hD2 hQi q2 z1 hl
    rw [hW2]
    clear hW2
    go_wp2_with fail
    refine (Calls.mono hs ?_)
    rintro _ W3 ⟨rfl, hd⟩
    replace HQ := Lib.hid (HQ.out.dr hd)
    go_wp2
    go_roundw
    case rel => exact ⟨i + 1, by have := HL.out; omega, by go_num, HQ.out⟩
    case measure => have := HL.out; simp [intOf]; omega
  ·have hlB : decide ((i : Int) < (d.ws.length : Int)) = false := decide_eq_false (by omega)
   clear hi hlen0 n0 n1 hQi hf
   go_wp2
   go_loopw [8] (fun iv wr => ∃ i : Nat, i ≤ d.ts.length ∧ iv = .int .i64 i ∧ Q wo wr) (fun iv _ => d.ts.length + 1 - (intOf iv).toNat)
   case atStart => exact ⟨0, Nat.zero_le _, rfl, Q.refl _⟩
   case round =>
    clear hlB hl
    obtain ⟨i, hi, rfl, hQi⟩ := hrel
    obtain ⟨wt, rfl⟩ : ∃ wt : World, wt = wr := ⟨_, rfl⟩
    replace k0 := hQi.keep k0
    replace k1 := hQi.keep k1
    replace k2 := hQi.keep k2
    replace l0 := hQi.keep l0
    replace l1 := hQi.keep l1
    replace l2 := hQi.keep l2
    replace hD1 := hD1.keepB hQi.b
    replace hD2 := hD2.keepB hQi.b
    replace hQ := Lib.hid (hQ.out.trans hQi)
    by_cases hl : i < d.ts.length
    ·have hlB : decide ((i : Int) < (d.ts.length : Int)) = true := decide_eq_true (by omega)
     have hlI : (i : Int) < (d.ts.length : Int) := by omega
     have hi0 : (0 : Int) ≤ (i : Int) := by omega
     have wk1 : IntKind.i64.wrap ((i : Int) + 1) = (i : Int) + 1 := by rw [IntKind.wrap_i64]; omega
     obtain ⟨a, cap, e1, _, _, hr⟩ := hD1.ts.at_ hl
     obtain ⟨rfl, _, rfl⟩ : bo = some a ∧ True ∧ bc = cap := by simpa using e1
     obtain ⟨b, cap2, e2, _, _, hs⟩ := hD2.ts.at_ hl
     obtain ⟨rfl, _, rfl⟩ : bo2 = some b ∧ True ∧ bc2 = cap2 := by simpa using e2
     generalize d.ts[i] = F at *
     obtain ⟨N, X, Y, Z, SL⟩ := F
     obtain ⟨a1, a2, a3, a4, sv, a5, a6⟩ := hr
     obtain ⟨b1, b2, b3, b4, su, b5, b6⟩ := hs
     simp only at a1 a2 a3 a4 a5 a6 b1 b2 b3 b4 b5 b6
     have ht := helptip_any N X Y Z sv su SL wt.drew (a6.keepB ((Q.refl wt).drew).b) (b6.keepB ((Q.refl wt).drew).b)
     have HL := Lib.hid hl
     have HQ := Lib.hid hQi
     clear e1 e2 hi hl hD1 hD2 hQi
     go_wp2_with fail
     go_region_with (go_at_call 38; refine (Calls.mono ht ?_); rintro _ w3 ⟨rfl, hd⟩)
     all_goals
      have HQ2 := Lib.hid ((HQ.out.drew).trans hd)
      go_wp2
      go_roundw
      case rel => exact ⟨i + 1, by have := HL.out; omega, by go_num, HQ2.out⟩
      case measure => have := HL.out; simp [intOf]; omega
    ·have hlB : decide ((i : Int) < (d.ts.length : Int)) = false := decide_eq_false (by omega)
     clear hi hlen1 hD1 hD2 hQi
     go_wp2
     go_ret
     exact ⟨rfl, hQ.out⟩
end Go.Proofs.YtalnfojaccfcjaaGreatDoor
namespace Go.Proofs.YtalnfojaccfcjaaGreatDoor
open Go.RowKit
theorem tab_info : ∃ j, Tryz.prog.info? 174 = some j ∧ j.size ≠ 0 := by
 have h : (Tryz.prog.info? 174).map (fun i => decide (i.size = 0)) = some false := by kernel_rfl
 cases e : Tryz.prog.info? 174 with
 | none => rw [e] at h; cases h
 | some j => rw [e] at h; exact ⟨j, rfl, by simpa using h⟩
theorem ptr_eq (x : Nat) (w : World) : (binOp .eql 72 (.pointer (some ⟨x, 0, none⟩)) (.pointer (some ⟨x, 0, none⟩))).run Tryz.prog w = .ok (.bool true) w := by
 obtain ⟨j, hj, _⟩ := tab_info
 exact run_eql_ptr_same w _ Tryz.underlying72 hj
theorem ptr_ne {x y : Nat} {w : World} {cs ct : Array Value} {t u : TypeId} (h : x ≠ y) (hx : w.heap[x]? = some (.cells cs t (0, 0))) (hy : w.heap[y]? = some (.cells ct u (0, 0))) :
  (binOp .eql 72 (.pointer (some ⟨x, 0, none⟩)) (.pointer (some ⟨y, 0, none⟩))).run Tryz.prog w = .ok (.bool false) w := by
 obtain ⟨j, hj, hs⟩ := tab_info
 exact run_eql_ptr_other w Tryz.underlying72 hj hs (fun e => h (congrArg Addr.block e)) hx hy
theorem ptr_neq_same (x : Nat) (w : World) : (binOp .neq 72 (.pointer (some ⟨x, 0, none⟩)) (.pointer (some ⟨x, 0, none⟩))).run Tryz.prog w = .ok (.bool false) w := by
 obtain ⟨j, hj, _⟩ := tab_info
 have h : ∀ d : Nat, (Op.equalIn (d + 1) 72 (.pointer (some ⟨x, 0, none⟩)) (.pointer (some ⟨x, 0, none⟩))).run Tryz.prog w = .ok true w := fun d => by
  simp [Op.equalIn, run_underlying Tryz.underlying72, sizeOf, typeInfo, hj, run_sameAddr_same]
 simp only [binOp]
 simp [Op.equal, Op.maxDepth, h 9999]
theorem ptr_neq_other {x y : Nat} {w : World} {cs ct : Array Value} {t u : TypeId} (h : x ≠ y) (hx : w.heap[x]? = some (.cells cs t (0, 0))) (hy : w.heap[y]? = some (.cells ct u (0, 0))) :
  (binOp .neq 72 (.pointer (some ⟨x, 0, none⟩)) (.pointer (some ⟨y, 0, none⟩))).run Tryz.prog w = .ok (.bool true) w := by
 obtain ⟨j, hj, hs⟩ := tab_info
 have h' : ∀ d : Nat, (Op.equalIn (d + 1) 72 (.pointer (some ⟨x, 0, none⟩)) (.pointer (some ⟨y, 0, none⟩))).run Tryz.prog w = .ok false w := fun d => by
  simp [Op.equalIn, run_underlying Tryz.underlying72, sizeOf, typeInfo, hj, hs, run_sameAddr_other w (a := ⟨x, 0, none⟩) (b := ⟨y, 0, none⟩) (fun e => h (congrArg Addr.block e)) hx hy]
 simp only [binOp]
 simp [Op.equal, Op.maxDepth, h' 9999]
theorem ents_ne {T : World → Value → List (Int × Int) → Prop} {w : World} {c bm base n m k : Nat} {F : List Sec → DataW Unit} {E : List Ent} (h : CacheM T w c bm base n m k F E) {a b : Ent} (ha : a ∈ E) (hb : b ∈ E) (hl : a.l ≠ b.l) {x y : Nat} (hx : a.p = .pointer (some ⟨x, 0, none⟩)) (hy : b.p = .pointer (some ⟨y, 0, none⟩)) : x ≠ y := by
 intro e
 subst e
 have key : ∀ E : List Ent, E.Pairwise (fun a b => a.l ≠ b.l ∧ a.hi ≤ b.b) → (∀ e ∈ E, EntAt T base w e) → a ∈ E → b ∈ E → False := by
  intro E
  induction E with
  | nil => intro _ _ h; cases h
  | cons z E ih =>
   intro hp he ha hb
   rw [List.pairwise_cons] at hp
   rcases List.mem_cons.1 ha with rfl | ha' <;> rcases List.mem_cons.1 hb with rfl | hb'
   ·exact hl rfl
   ·exact ent_ne (he a ha) (he b hb) (hp.1 b hb').2 (hx.trans hy.symm)
   ·exact ent_ne (he b hb) (he a ha) (hp.1 a ha').2 (hy.trans hx.symm)
   ·exact ih hp.2 (fun e h => he e (List.mem_cons_of_mem _ h)) ha' hb'
 exact key E h.apart h.ents ha hb
end Go.Proofs.YtalnfojaccfcjaaGreatDoor
