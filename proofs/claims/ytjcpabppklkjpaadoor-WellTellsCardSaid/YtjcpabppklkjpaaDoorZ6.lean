/-
  The code's wells: Text; Contract of the document's number of wells; The code's wells: how many there are; The statements' shapes of a number; Sections in memory that a call owns: facts for walks; The statements' outer shapes of a tip, of a number; The statements' decks of numbers, without fills; What becomes of the world where blocks of known kinds may turn, from a base on. No program is named here; A deck that grows: rows inside of rows, all the call's own.
-/
import Derived.Deep.QuietTactic
import Derived.BigQuiet
import Derived.OwnWalk
import Derived.Laws.OwnMore
import Derived.Deep.AppendLies
import Derived.KernelRfl
import Derived.Test.YtjcpabppklkjpaaDoorChecked
import Derived.Test.YtjcpabppklkjpaaDoorZ1
import Derived.Test.YtjcpabppklkjpaaDoorZ2
import Derived.Test.YtjcpabppklkjpaaDoorZ3
import Derived.Test.YtjcpabppklkjpaaDoorZ4
import Derived.Test.YtjcpabppklkjpaaDoorZ5
namespace Go.Proofs.YtjcpabppklkjpaaDoor
open Go.RowKit
set_option linter.unusedVariables false
theorem rune_letter {r : Int} (h0 : 0 ≤ r) (h8 : r < 8) : Utf8.encode (65 + r) = strB [UInt8.ofNat (65 + r.toNat)] := by
  have : r = 0 ∨ r = 1 ∨ r = 2 ∨ r = 3 ∨ r = 4 ∨ r = 5 ∨ r = 6 ∨ r = 7 := by omega
  rcases this with rfl | rfl | rfl | rfl | rfl | rfl | rfl | rfl <;> rfl
set_option maxHeartbeats 2000000 in
theorem wtext_any (n : ByteArray) (r c : Int) (hr : I64 r) (hc : I64 c) (w : World) : Calls Tryd.prog 12 #[.agg #[.string n, .int .i64 r, .int .i64 c]] w fun e w' => e = .returned (.string (strB (wellT n r c))) ∧ B w w' := by
  have cw := fun w => written_any n r c w
  have u3 : IntKind.i64.wrap r = r := by rw [IntKind.wrap_i64]; unfold I64 at hr; omega
  have u4 : IntKind.i64.wrap c = c := by rw [IntKind.wrap_i64]; unfold I64 at hc; omega
  have q1 := (B.refl w).alloc #[.string n, .int .i64 r, .int .i64 c] 23
  cases hw : wrB n r c
  · have HE : wellT n r c = [] := by
      unfold wellT
      rw [if_neg]
      intro h
      rw [wrB_iff.2 h] at hw
      cases hw
    rw [HE]
    rw [hw] at cw
    clear hw HE
    go_enter Tryd.func12, Tryd.ntmps12
    go_wp2_with fail
    refine (cw _).mono ?_
    rintro _ w2 ⟨rfl, q2⟩
    go_wp2
    go_ret
    exact ⟨rfl, q1.trans q2⟩
  · rw [hw] at cw
    obtain ⟨hn, h0, h8, k0, k12⟩ := wrB_iff.1 hw
    have HE : wellT n r c = n.data.toList ++ [46, UInt8.ofNat (65 + r.toNat)] ++ decI (c + 1) := by unfold wellT; rw [if_pos ⟨hn, by omega, by omega, by omega, by omega⟩]
    have hz : n.size ≤ 1000 := name_size hn
    obtain ⟨k, rfl⟩ := Int.eq_ofNat_of_zero_le (by omega : 0 ≤ c)
    have cd : ∀ w, Calls Tryd.prog 25 #[.int .i64 ((k : Int) + 1)] w fun e w' => e = .returned (.string (decS (k + 1))) ∧ w' = w := fun w => by
      have := Tryd.strconv_Itoa_small (k + 1) (by omega) w
      rw [show (((k + 1 : Nat) : Int)) = (k : Int) + 1 by omega] at this
      exact this
    have v1 := decS_size (n := k + 1) (by omega)
    have hdS : decS (k + 1) = strB (decI ((k : Int) + 1)) := by rw [decS_strB]; rfl
    have wr : IntKind.i64.wrap (65 + r) = 65 + r := by rw [IntKind.wrap_i64]; omega
    have wr32 : IntKind.i32.wrap (65 + r) = 65 + r := by unfold IntKind.wrap; simp [IntKind.bits, IntKind.signed]; omega
    have wc : IntKind.i64.wrap ((k : Int) + 1) = (k : Int) + 1 := by rw [IntKind.wrap_i64]; omega
    have sl := rune_letter h0 h8
    obtain ⟨L, hL⟩ : ∃ L, strB [UInt8.ofNat (65 + r.toNat)] = L := ⟨_, rfl⟩
    have hL1 : L.size = 1 := by rw [← hL]; rfl
    obtain ⟨D, hD⟩ : ∃ D, decS (k + 1) = D := ⟨_, rfl⟩
    rw [hD] at v1 cd hdS
    rw [hL] at sl
    obtain ⟨s1, j1⟩ : ∃ x, n ++ ({ data := #[46] } : ByteArray) = x := ⟨_, rfl⟩
    have n1 : ¬ 9223372036854775807 < n.size + 1 := by omega
    have m1 : ¬ 9223372036854775807 < n.size + ({ data := #[46] } : ByteArray).size := n1
    have z1 : s1.size = n.size + 1 := by rw [← j1, ByteArray.size_append]; rfl
    obtain ⟨s2, j2⟩ : ∃ x, s1 ++ L = x := ⟨_, rfl⟩
    have n2 : ¬ 9223372036854775807 < s1.size + L.size := by omega
    have z2 : s2.size = s1.size + L.size := by rw [← j2, ByteArray.size_append]
    obtain ⟨s3, j3⟩ : ∃ x, s2 ++ D = x := ⟨_, rfl⟩
    have n3 : ¬ 9223372036854775807 < s2.size + D.size := by omega
    have HS : Hid (strB (wellT n r (k : Int)) = s3) := Lib.hid (by
      rw [HE, ← j3, ← j2, ← j1, ← hL, hdS, show n = strB n.data.toList from rfl, show ({ data := #[46] } : ByteArray) = strB [46] from rfl]
      simp only [strB_app]
      congr 1
      simp [strB, List.append_assoc])
    clear HE hz z1 z2 hL1 v1 hL hD hdS hw
    go_enter Tryd.func12, Tryd.ntmps12
    go_wp2_with fail
    refine (cw _).mono ?_
    rintro _ w2 ⟨rfl, q2⟩
    have oR := q2.obj (obj_new w (.cells #[.string n, .int .i64 r, .int .i64 (k : Int)] 23))
    have hB := q1.trans q2
    have p0 : w2.cell? ⟨w.heap.size, 0, none⟩ = some (.string n) := obj_cell oR 0
    have p1 : w2.cell? ⟨w.heap.size, 1, none⟩ = some (.int .i64 r) := obj_cell oR 1
    have p2 : w2.cell? ⟨w.heap.size, 2, none⟩ = some (.int .i64 (k : Int)) := obj_cell oR 2
    go_wp2_with fail
    have HB := Lib.hid hB.drew
    have p0' : w2.drew.cell? ⟨w.heap.size, 0, none⟩ = some (.string n) := p0
    have p1' : w2.drew.cell? ⟨w.heap.size, 1, none⟩ = some (.int .i64 r) := p1
    have p2' : w2.drew.cell? ⟨w.heap.size, 2, none⟩ = some (.int .i64 (k : Int)) := p2
    clear cw q1 q2 oR hB h0 h8 k0 k12
    generalize w.heap.size = H at *
    go_region_with (go_at_call 25; with_reducible refine (cd _).mono ?_; rintro _ _ ⟨rfl, rfl⟩)
    all_goals
      go_wp2
      go_ret
      exact ⟨by rw [HS.out]; rfl, HB.out⟩
end Go.Proofs.YtjcpabppklkjpaaDoor

namespace Go.Proofs.YtjcpabppklkjpaaDoor
open Go.RowKit
set_option linter.unusedVariables false
/-- How many wells there are. -/
def countW : List Wr → Int
  | [] => 0
  | w :: ws => w.x * w.y + countW ws
theorem count_take {ws : List Wr} {i : Nat} {F : Wr} (h : ws[i]? = some F) : countW (ws.take (i + 1)) = countW (ws.take i) + F.x * F.y := by
  have e : ∀ (l : List Wr) (r : Wr), countW (l ++ [r]) = countW l + r.x * r.y := fun l r => by
    induction l with
    | nil => simp [countW]
    | cons x l ih => show x.x * x.y + countW (l ++ [r]) = x.x * x.y + countW l + _; rw [ih]; omega
  rw [List.take_add_one, h]
  exact e _ _
set_option maxRecDepth 100000 in
set_option maxHeartbeats 2000000 in
theorem r8count_any (wv tv fv : Value) (d : Dk) (w : World) (h : IsDk w wv tv fv d) (hb : ∀ x ∈ d.ws, wareB x) (h100 : d.ws.length ≤ 100) : Calls Tryd.prog 15 #[.agg #[wv, tv, fv]] w fun e w' => e = .returned (.int .i64 (countW d.ws)) ∧ B w w' := by
  obtain ⟨ao, ac, bo, bc, co, cc, rfl, rfl, rfl⟩ := h.forms
  have hQ := (B.refl w).alloc #[.slice ao d.ws.length ac, .slice bo d.ts.length bc, .slice co d.fs.length cc] 37
  have hR := h.ws.keepB hQ
  have oD := obj_new w (.cells #[.slice ao d.ws.length ac, .slice bo d.ts.length bc, .slice co d.fs.length cc] 37)
  obtain ⟨W, hW⟩ : ∃ W, w.alloc (.cells #[.slice ao d.ws.length ac, .slice bo d.ts.length bc, .slice co d.fs.length cc] 37) = W := ⟨_, rfl⟩
  rw [hW] at hR hQ oD
  clear h
  go_enter Tryd.func15, Tryd.ntmps15
  go_wp2_with fail
  try rw [hW]
  clear hW
  generalize w.heap.size = H at *
  go_loopw [3, 4] (fun nv iv wr => ∃ (i : Nat) (K : Int), i ≤ d.ws.length ∧ iv = .int .i64 i ∧ nv = .int .i64 K ∧ 0 ≤ K ∧ K ≤ 96 * (i : Int) ∧ K = countW (d.ws.take i) ∧ Dr W wr) (fun _ iv _ => d.ws.length + 1 - (intOf iv).toNat)
  case atStart => exact ⟨0, 0, Nat.zero_le _, rfl, rfl, by omega, by omega, rfl, Dr.refl _⟩
  case round =>
    obtain ⟨i, K, hi, rfl, rfl, hK0, hK1, hKe, n, rfl⟩ := hrel
    have k0 : (W.drewN n).cell? ⟨H, 0, none⟩ = some (.slice ao d.ws.length ac) := obj_cell (w := W.drewN n) oD 0
    by_cases hl : i < d.ws.length
    · have hlB : decide ((i : Int) < (d.ws.length : Int)) = true := decide_eq_true (by omega)
      have hlI : (i : Int) < (d.ws.length : Int) := by omega
      have hi0 : (0 : Int) ≤ (i : Int) := by omega
      have wk1 : IntKind.i64.wrap ((i : Int) + 1) = (i : Int) + 1 := by rw [IntKind.wrap_i64]; omega
      obtain ⟨a, cap, e1, _, _, hr⟩ := hR.at_ hl
      obtain ⟨rfl, _, rfl⟩ : ao = some a ∧ True ∧ ac = cap := by simpa using e1
      have hbi := hb _ (List.getElem_mem hl)
      have hT := count_take (ws := d.ws) (i := i) (List.getElem?_eq_getElem hl)
      obtain ⟨F, hF⟩ : ∃ F, d.ws[i] = F := ⟨_, rfl⟩
      rw [hF] at hr hbi hT
      obtain ⟨b1, b2, b3, b4⟩ := hbi
      obtain ⟨g1, g2, g3, _⟩ := hr
      obtain ⟨N, X, Y, Z, SL⟩ := F
      simp only at g2 g3 b1 b2 b3 b4 hT
      have g2' : ∀ m, (W.drewN m).cell? _ = _ := fun m => g2
      have g3' : ∀ m, (W.drewN m).cell? _ = _ := fun m => g3
      have hxy := mul_small (a := X) (b := Y) (by omega) b2 (by omega) b4
      rw [← hKe] at hT
      obtain ⟨P, hP⟩ : ∃ P, X * Y = P := ⟨_, rfl⟩
      rw [hP] at hxy hT
      have w1 : IntKind.i64.wrap (X * Y) = P := by rw [hP, IntKind.wrap_i64]; omega
      have w2 : IntKind.i64.wrap (K + P) = K + P := by rw [IntKind.wrap_i64]; omega
      have k0' : ∀ m, (W.drewN m).cell? ⟨H, 0, none⟩ = some (.slice (some a) d.ws.length ac) := fun m => k0
      have HX := Lib.hid (And.intro hT (And.intro (show 0 ≤ K + P ∧ K + P ≤ 96 * ((i : Int) + 1) by omega) hl))
      clear hT hKe hb hF e1 hP hxy hl hi
      go_wp2_with fail
      go_quiet (fail)
      go_wp2
      go_roundw
      case rel =>
        obtain ⟨h1, ⟨h2, h3⟩, h4⟩ := HX.out
        exact ⟨i + 1, K + P, by omega, by go_num, rfl, h2, by omega, h1.symm, _, rfl⟩
      case measure => have := HX.out; simp [intOf]; omega
    · have hlB : decide ((i : Int) < (d.ws.length : Int)) = false := decide_eq_false (by omega)
      have hlN : decide (i < d.ws.length) = false := decide_eq_false hl
      rw [List.take_of_length_le (by omega)] at hKe
      have HX := Lib.hid (And.intro hKe (hQ.drewN n))
      clear hKe hl
      go_wp2
      go_ret
      exact ⟨by rw [← HX.out.1]; rfl, HX.out.2⟩
end Go.Proofs.YtjcpabppklkjpaaDoor

namespace Go.Proofs.YtjcpabppklkjpaaDoor
open Go.RowKit
set_option linter.unusedVariables false
set_option maxRecDepth 100000 in
set_option maxHeartbeats 2000000 in
theorem wcount_any (wv tv fv : Value) (d : Dk) (w : World) (h : IsDk w wv tv fv d) (hb : ∀ x ∈ d.ws, wareB x) (h100 : d.ws.length ≤ 100) : Calls Tryd.prog 14 #[.agg #[wv, tv, fv]] w fun e w' => e = .returned (.int .i64 (countW d.ws)) ∧ Q w w' := by
  obtain ⟨ao, ac, bo, bc, co, cc, rfl, rfl, rfl⟩ := h.forms
  have hQ := (Q.refl w).alloc #[.slice ao d.ws.length ac, .slice bo d.ts.length bc, .slice co d.fs.length cc] 37
  have hR := h.ws.keepB hQ.b
  have oD := obj_new w (.cells #[.slice ao d.ws.length ac, .slice bo d.ts.length bc, .slice co d.fs.length cc] 37)
  obtain ⟨W, hW⟩ : ∃ W, w.alloc (.cells #[.slice ao d.ws.length ac, .slice bo d.ts.length bc, .slice co d.fs.length cc] 37) = W := ⟨_, rfl⟩
  rw [hW] at hR hQ oD
  have k0 : W.cell? ⟨w.heap.size, 0, none⟩ = some (.slice ao d.ws.length ac) := obj_cell oD 0
  clear h oD
  go_enter Tryd.func14, Tryd.ntmps14
  go_wp2_with fail
  try rw [hW]
  go_wp2_with fail
  clear hW k0
  generalize w.heap.size = H at *
  go_loopw [3, 9] (fun nv iv wr => ∃ (i : Nat) (K : Int), i ≤ d.ws.length ∧ iv = .int .i64 i ∧ nv = .int .i64 K ∧ 0 ≤ K ∧ K ≤ 96 * (i : Int) ∧ K = countW (d.ws.take i) ∧ Q W wr) (fun _ iv _ => d.ws.length + 1 - (intOf iv).toNat)
  case atStart => exact ⟨0, 0, Nat.zero_le _, rfl, rfl, by omega, by omega, rfl, Q.refl _⟩
  case round =>
    obtain ⟨i, K, hi, rfl, rfl, hK0, hK1, hKe, hQi⟩ := hrel
    obtain ⟨wo, rfl⟩ : ∃ wo : World, wo = wr := ⟨_, rfl⟩
    by_cases hl : i < d.ws.length
    · have hlB : decide ((i : Int) < (d.ws.length : Int)) = true := decide_eq_true (by omega)
      have hlI : (i : Int) < (d.ws.length : Int) := by omega
      have hi0 : (0 : Int) ≤ (i : Int) := by omega
      have wk1 : IntKind.i64.wrap ((i : Int) + 1) = (i : Int) + 1 := by rw [IntKind.wrap_i64]; omega
      obtain ⟨a, cap, e1, _, _, hr⟩ := (hR.keepB hQi.b).at_ hl
      obtain ⟨rfl, _, rfl⟩ : ao = some a ∧ True ∧ ac = cap := by simpa using e1
      have hbi := hb _ (List.getElem_mem hl)
      have hT := count_take (ws := d.ws) (i := i) (List.getElem?_eq_getElem hl)
      obtain ⟨F, hF⟩ : ∃ F, d.ws[i] = F := ⟨_, rfl⟩
      rw [hF] at hr hbi hT
      obtain ⟨g1, g2, g3, g4, sv, g5, g6⟩ := hr
      obtain ⟨so, sc, rfl⟩ := secs_form g6
      obtain ⟨sn, hsn⟩ : ∃ sn, F.l.length = sn := ⟨_, rfl⟩
      rw [hsn] at g5 g6
      clear hsn
      obtain ⟨N, X, Y, Z, SL⟩ := F
      have cs := fun w => wsize_any N X Y Z _ so sn sc rfl hbi w
      obtain ⟨b1, b2, b3, b4⟩ := hbi
      simp only at g1 g2 g3 g4 g5 b1 b2 b3 b4 hT
      have hxy := mul_small (a := X) (b := Y) (by omega) b2 (by omega) b4
      rw [← hKe] at hT
      generalize X * Y = P at *
      have w2 : IntKind.i64.wrap (K + P) = K + P := by rw [IntKind.wrap_i64]; omega
      have q1 := (Q.refl wo).alloc #[.string N, .int .i64 X, .int .i64 Y, .int .i64 Z, .slice so sn sc] 58
      have HX := Lib.hid (And.intro hT (And.intro (show 0 ≤ K + P ∧ K + P ≤ 96 * ((i : Int) + 1) by omega) (And.intro hl (hQi.trans q1))))
      obtain ⟨W1, hW1⟩ : ∃ W1, wo.alloc (.cells #[.string N, .int .i64 X, .int .i64 Y, .int .i64 Z, .slice so sn sc] 58) = W1 := ⟨_, rfl⟩
      have oW := obj_new wo (.cells #[.string N, .int .i64 X, .int .i64 Y, .int .i64 Z, .slice so sn sc] 58)
      rw [hW1] at HX oW
      have p0 : W1.cell? ⟨wo.heap.size, 0, none⟩ = some (.string N) := obj_cell oW 0
      have p1 : W1.cell? ⟨wo.heap.size, 1, none⟩ = some (.int .i64 X) := obj_cell oW 1
      have p2 : W1.cell? ⟨wo.heap.size, 2, none⟩ = some (.int .i64 Y) := obj_cell oW 2
      have p3 : W1.cell? ⟨wo.heap.size, 3, none⟩ = some (.int .i64 Z) := obj_cell oW 3
      have p4 : W1.cell? ⟨wo.heap.size, 4, none⟩ = some (.slice so sn sc) := obj_cell oW 4
      clear oW hT hKe hb hF e1 hl hi q1 g6
      go_wp2_with fail
      refine (cs _).mono ?_
      rintro _ w2 ⟨rfl, q2⟩
      go_wp2
      go_roundw
      case rel =>
        obtain ⟨h1, ⟨h2, h3⟩, h4, h5⟩ := HX.out
        exact ⟨i + 1, K + P, by omega, by go_num, rfl, h2, by omega, h1.symm, h5.trans q2⟩
      case measure => have := HX.out; simp [intOf]; omega
    · have hlB : decide ((i : Int) < (d.ws.length : Int)) = false := decide_eq_false (by omega)
      have hlN : decide (i < d.ws.length) = false := decide_eq_false hl
      rw [List.take_of_length_le (by omega)] at hKe
      have HX := Lib.hid (And.intro hKe (hQ.trans hQi))
      clear hKe hl
      go_wp2
      go_ret
      exact ⟨by rw [← HX.out.1]; rfl, HX.out.2⟩
end Go.Proofs.YtjcpabppklkjpaaDoor

namespace Go.Proofs.YtjcpabppklkjpaaDoor
open Go.RowKit
/-- The shape of a number. -/
def shapeOf : Nat → List Sec
  | 0 => [⟨true, 10000, 7000, 0, 7000, 0⟩]
  | 1 => [⟨true, 3000, 0, 0, 6000, 0⟩, ⟨true, 9000, 6000, 0, 6500, 0⟩]
  | 2 => [⟨false, 20000, 8000, 8000, 8400, 8400⟩]
  | 3 => [⟨false, 4000, 7000, 0, 7000, 7000⟩, ⟨false, 8000, 7000, 7000, 7000, 7000⟩]
  | 4 => [⟨true, 1800, 5000, 0, 5000, 0⟩]
  | _ => [⟨true, 2000, 1000, 0, 5200, 0⟩, ⟨true, 500, 5200, 0, 4800, 0⟩, ⟨true, 11500, 4800, 0, 7000, 0⟩]
/-- A shape is answered, in new memory. -/
def Shaped (l : List Sec) (w : World) (e : Ending) (w' : World) : Prop := ∃ v, e = .returned v ∧ IsSecs w' v l ∧ Q w w'
/-- Its numbers fit. -/
def fitsB (l : List Sec) : Bool := l.all fun s => decide (I64 s.h) && decide (I64 s.a0) && decide (I64 s.b0) && decide (I64 s.a1) && decide (I64 s.b1)
theorem fitsB_I {l : List Sec} (h : fitsB l = true) : ∀ s ∈ l, s.I := by
  intro s hs
  have := List.all_eq_true.1 h s hs
  simp only [Bool.and_eq_true, decide_eq_true_eq] at this
  exact ⟨this.1.1.1.1, this.1.1.1.2, this.1.1.2, this.1.2, this.2⟩
theorem shape_pick (w : World) (m : Nat) (h : m < 6) : ∃ V, [Value.slice (some ⟨w.heap.size, 0, none⟩) 1 1, Value.slice (some ⟨w.heap.size + 1, 0, none⟩) 2 2, Value.slice (some ⟨w.heap.size + 1 + 1, 0, none⟩) 1 1, Value.slice (some ⟨w.heap.size + 1 + 1 + 1, 0, none⟩) 2 2, Value.slice (some ⟨w.heap.size + 1 + 1 + 1 + 1, 0, none⟩) 1 1, Value.slice (some ⟨w.heap.size + 1 + 1 + 1 + 1 + 1, 0, none⟩) 3 3][m]? = some V := by
  match m, h with
  | 0, _ => exact ⟨_, rfl⟩
  | 1, _ => exact ⟨_, rfl⟩
  | 2, _ => exact ⟨_, rfl⟩
  | 3, _ => exact ⟨_, rfl⟩
  | 4, _ => exact ⟨_, rfl⟩
  | 5, _ => exact ⟨_, rfl⟩
set_option maxHeartbeats 4000000 in
theorem shape_any (k : Int) (h1 : 0 ≤ k) (h2 : k ≤ 255) (w : World) :
    Calls Tryd.prog 26 #[.int .u8 k] w (Shaped (shapeOf (k % 6).toNat) w) := by
  obtain ⟨V, hp⟩ := shape_pick w (k % 6).toNat (by omega)
  have HP := Lib.hid hp
  have hm : (k % 6).toNat < 6 := by omega
  have HM := Lib.hid hm
  clear hm
  go_enter Tryd.func26, Tryd.ntmps26
  go_wp2
  go_ret
  refine ⟨V, rfl, ?_, ?_⟩
  · clear hp h1 h2
    have hp := HP.out
    have hm := HM.out
    clear HP HM
    generalize (k % 6).toNat = m at *
    match m, hm with
    | 0, _ =>
      obtain rfl : Value.slice (some ⟨w.heap.size, 0, none⟩) 1 1 = V := Option.some.inj hp
      exact (isSecs_new (l := shapeOf 0) rfl (by simp) (fitsB_I (by decide)) (by decide) (by decide)).keep (((((((Q.refl _).alloc _ _).alloc _ _).alloc _ _).alloc _ _).alloc _ _).alloc _ _)
    | 1, _ =>
      obtain rfl : Value.slice (some ⟨w.heap.size + 1, 0, none⟩) 2 2 = V := Option.some.inj hp
      exact (isSecs_new (l := shapeOf 1) rfl (by simp) (fitsB_I (by decide)) (by decide) (by decide)).keep ((((((Q.refl _).alloc _ _).alloc _ _).alloc _ _).alloc _ _).alloc _ _)
    | 2, _ =>
      obtain rfl : Value.slice (some ⟨w.heap.size + 1 + 1, 0, none⟩) 1 1 = V := Option.some.inj hp
      exact (isSecs_new (l := shapeOf 2) rfl (by simp) (fitsB_I (by decide)) (by decide) (by decide)).keep (((((Q.refl _).alloc _ _).alloc _ _).alloc _ _).alloc _ _)
    | 3, _ =>
      obtain rfl : Value.slice (some ⟨w.heap.size + 1 + 1 + 1, 0, none⟩) 2 2 = V := Option.some.inj hp
      exact (isSecs_new (l := shapeOf 3) rfl (by simp) (fitsB_I (by decide)) (by decide) (by decide)).keep ((((Q.refl _).alloc _ _).alloc _ _).alloc _ _)
    | 4, _ =>
      obtain rfl : Value.slice (some ⟨w.heap.size + 1 + 1 + 1 + 1, 0, none⟩) 1 1 = V := Option.some.inj hp
      exact (isSecs_new (l := shapeOf 4) rfl (by simp) (fitsB_I (by decide)) (by decide) (by decide)).keep (((Q.refl _).alloc _ _).alloc _ _)
    | 5, _ =>
      obtain rfl : Value.slice (some ⟨w.heap.size + 1 + 1 + 1 + 1 + 1, 0, none⟩) 3 3 = V := Option.some.inj hp
      exact (isSecs_new (l := shapeOf 5) rfl (by simp) (fitsB_I (by decide)) (by decide) (by decide)).keep ((Q.refl _).alloc _ _)
  · exact ((((((((Q.refl _).alloc _ _).alloc _ _).alloc _ _).alloc _ _).alloc _ _).alloc _ _).alloc _ _)
end Go.Proofs.YtjcpabppklkjpaaDoor

namespace Go.Proofs.YtjcpabppklkjpaaDoor
open Go.RowKit
theorem u8_wf {k : Int} (w : (Lit.int .u8 k).wf = true) : 0 ≤ k ∧ k ≤ 255 := by
  simp [Lit.wf, IntKind.min, IntKind.max, IntKind.signed, IntKind.bits] at w
  omega
theorem IsSecs.form {w : World} {v : Value} {l : List Sec} (h : IsSecs w v l) : ∃ ao n cap, v = .slice ao n cap := by
  rcases h with ⟨rfl, rfl⟩ | ⟨a, cap, rfl, _⟩
  · exact ⟨_, _, _, rfl⟩
  · exact ⟨_, _, _, rfl⟩
theorem news_plain {w : World} {cs : Array Value} {t : TypeId} {H : Nat} (hH : w.heap.size = H) : ∀ j u, cs.toList[j]? = some u → (w.alloc (.cells cs t)).cell? ((⟨H, 0, none⟩ : Addr).add j) = some u := by
  intro j u h
  rw [add0]
  subst hH
  rw [World.cell?_alloc_new]
  simpa using h
/-- Two right shapes stand in a block. -/
def TwoS (w : World) (b : Nat) : Prop := ∀ m : Nat, m < 2 → ∃ v l, w.cell? ⟨b, m, none⟩ = some v ∧ IsSecs w v l ∧ rightS l = true
theorem TwoS.keep {w w' : World} {b : Nat} (h : TwoS w b) (q : B w w') : TwoS w' b := fun m hm => by
  obtain ⟨v, l, h1, h2, h3⟩ := h m hm
  exact ⟨v, l, q.keep h1, h2.keepB q, h3⟩
theorem u16_wf {k : Int} (w : (Lit.int .u16 k).wf = true) : 0 ≤ k ∧ k ≤ 65535 := by
  simp [Lit.wf, IntKind.min, IntKind.max, IntKind.signed, IntKind.bits] at w
  omega
end Go.Proofs.YtjcpabppklkjpaaDoor

namespace Go.Proofs.YtjcpabppklkjpaaDoor
open Go.RowKit
/-- The outer shape of a number. -/
def outerOf : Nat → List Sec
  | 0 => [⟨true, 5000, 500, 0, 800, 0⟩, ⟨true, 30000, 800, 0, 1500, 0⟩]
  | 1 => [⟨true, 20000, 700, 0, 2500, 0⟩]
  | _ => [⟨true, 900, 300, 0, 600, 0⟩]
theorem outer_len : ∀ m : Nat, 1 ≤ (outerOf m).length
  | 0 => by decide
  | 1 => by decide
  | n + 2 => by rw [show outerOf (n + 2) = outerOf 2 from rfl]; decide
theorem outer_pick (w : World) (m : Nat) (h : m < 3) : ∃ V, [Value.slice (some ⟨w.heap.size, 0, none⟩) 2 2, Value.slice (some ⟨w.heap.size + 1, 0, none⟩) 1 1, Value.slice (some ⟨w.heap.size + 1 + 1, 0, none⟩) 1 1][m]? = some V := by
  match m, h with
  | 0, _ => exact ⟨_, rfl⟩
  | 1, _ => exact ⟨_, rfl⟩
  | 2, _ => exact ⟨_, rfl⟩
theorem outer_blocks (w : World) (m : Nat) (V : Value) (hm : m < 3) (h : [Value.slice (some ⟨w.heap.size, 0, none⟩) 2 2, Value.slice (some ⟨w.heap.size + 1, 0, none⟩) 1 1, Value.slice (some ⟨w.heap.size + 1 + 1, 0, none⟩) 1 1][m]? = some V) : ∀ g, V.ownBlock = some g → w.heap.size ≤ g := by
  intro g hg
  match m, hm with
  | 0, _ => obtain rfl := Option.some.inj h; have e := Option.some.inj hg; simp at e; omega
  | 1, _ => obtain rfl := Option.some.inj h; have e := Option.some.inj hg; simp at e; omega
  | 2, _ => obtain rfl := Option.some.inj h; have e := Option.some.inj hg; simp at e; omega
set_option maxHeartbeats 4000000 in
theorem outer_new (k : Int) (h1 : 0 ≤ k) (h2 : k ≤ 255) (w : World) :
    Calls Tryd.prog 27 #[.int .u8 k] w fun e w' => ∃ v, e = .returned v ∧ IsSecs w' v (outerOf (k % 3).toNat) ∧ Q w w' ∧ ∀ g, v.ownBlock = some g → w.heap.size ≤ g := by
  obtain ⟨V, hp⟩ := outer_pick w (k % 3).toNat (by omega)
  have HP := Lib.hid hp
  have hm : (k % 3).toNat < 3 := by omega
  have HM := Lib.hid hm
  clear hm
  go_enter Tryd.func27, Tryd.ntmps27
  go_wp2
  go_ret
  refine ⟨V, rfl, ?_, ?_, outer_blocks w _ V HM.out HP.out⟩
  · clear hp h1 h2
    have hp := HP.out
    have hm := HM.out
    clear HP HM
    generalize (k % 3).toNat = m at *
    match m, hm with
    | 0, _ =>
      obtain rfl : Value.slice (some ⟨w.heap.size, 0, none⟩) 2 2 = V := Option.some.inj hp
      exact (isSecs_new (l := outerOf 0) rfl (by simp) (fitsB_I (by decide)) (by decide) (by decide)).keep ((((Q.refl _).alloc _ _).alloc _ _).alloc _ _)
    | 1, _ =>
      obtain rfl : Value.slice (some ⟨w.heap.size + 1, 0, none⟩) 1 1 = V := Option.some.inj hp
      exact (isSecs_new (l := outerOf 1) rfl (by simp) (fitsB_I (by decide)) (by decide) (by decide)).keep (((Q.refl _).alloc _ _).alloc _ _)
    | 2, _ =>
      obtain rfl : Value.slice (some ⟨w.heap.size + 1 + 1, 0, none⟩) 1 1 = V := Option.some.inj hp
      exact (isSecs_new (l := outerOf 2) rfl (by simp) (fitsB_I (by decide)) (by decide) (by decide)).keep ((Q.refl _).alloc _ _)
  · exact ((((((Q.refl _).alloc _ _).alloc _ _).alloc _ _).alloc _ _))
end Go.Proofs.YtjcpabppklkjpaaDoor

namespace Go.Proofs.YtjcpabppklkjpaaDoor
open Go.RowKit
def nameT1 : ByteArray := ⟨#[116, 49]⟩
def nameT2 : ByteArray := ⟨#[116, 50]⟩
def namePlate : ByteArray := ⟨#[112, 108, 97, 116, 101]⟩
def nameTube : ByteArray := ⟨#[116, 117, 98, 101]⟩
/-- What stands on it. -/
def wares7 (a b c d : Int) : List Rec := [⟨namePlate, a / 6 % 3 + 1, b / 6 % 4 + 2, c % 4 * 500, shapeOf (a % 6).toNat⟩, ⟨nameTube, 1, c / 4 % 3 + 2, d % 3 * 300, shapeOf (b % 6).toNat⟩]
def cap7 (c : Int) : Int := if c % 3 = 0 then 200000 else if c % 3 = 1 then 30000 else 5000
def filt7 (d : Int) : Int := if d % 2 = 0 then 60000 else 15000
def err7 (d : Int) : Int := if d / 2 % 3 = 0 then 0 else if d / 2 % 3 = 1 then 20 else 100
def tips7 (c d : Int) : List Rec := ⟨nameT1, cap7 c, filt7 d, err7 d, outerOf (c % 3).toNat⟩ :: if d % 5 = 0 then [] else [⟨nameT2, 50000, 40000, d % 30, outerOf (d % 3).toNat⟩]
theorem tipInfo : (Tryd.prog.info? 61).map (fun i => (i.zero, i.size, i.bytes)) = some (some (.agg #[.string ⟨#[]⟩, .int .i64 0, .int .i64 0, .int .i64 0, .slice none 0 0]), 5, 64) := by kernel_rfl
end Go.Proofs.YtjcpabppklkjpaaDoor

namespace Go.Proofs.YtjcpabppklkjpaaDoor
open Go.RowKit
/-- What a block is: cells of a type, or a map. -/
def kindO : Obj → Option (Option TypeId)
  | .cells _ t (0, 0) => some (some t)
  | .map _ _ => some none
  | _ => none
/-- Of what was there nothing turns but blocks from the base on, of known kinds; and they stay what they are. -/
structure Tn (K : List (Option TypeId)) (base : Nat) (w w' : World) : Prop where
  os : w'.os = w.os
  tape : w'.tape = w.tape
  output : w'.output = w.output
  size : w.heap.size ≤ w'.heap.size
  block : ∀ i, i < w.heap.size → w'.heap[i]? = w.heap[i]? ∨ (base ≤ i ∧ ∃ k o, k ∈ K ∧ w.heap[i]? = some o ∧ kindO o = some k)
section
variable {K : List (Option TypeId)} {base : Nat} {a b c w w' : World}
theorem Tn.refl (K : List (Option TypeId)) (base : Nat) (w : World) : Tn K base w w := ⟨rfl, rfl, rfl, Nat.le_refl _, fun _ _ => .inl rfl⟩
theorem Tn.trans (h : Tn K base a b) (k : Tn K base b c) : Tn K base a c := by
  refine ⟨k.os.trans h.os, k.tape.trans h.tape, k.output.trans h.output, Nat.le_trans h.size k.size, fun i hi => ?_⟩
  rcases h.block i hi with h1 | h1
  · rcases k.block i (Nat.lt_of_lt_of_le hi h.size) with k1 | ⟨k1, q', p, hq', k2, k3⟩
    · exact .inl (k1.trans h1)
    · exact .inr ⟨k1, q', p, hq', h1 ▸ k2, k3⟩
  · exact .inr h1
theorem Tn.mono {K' : List (Option TypeId)} {base' : Nat} (h : Tn K base a b) (hK : ∀ k ∈ K, k ∈ K') (hb : base' ≤ base) : Tn K' base' a b :=
  ⟨h.os, h.tape, h.output, h.size, fun i hi => (h.block i hi).imp id fun ⟨h1, k, o, h2, h3⟩ => ⟨by omega, k, o, hK k h2, h3⟩⟩
theorem B.tn (h : B a b) (K : List (Option TypeId)) (base : Nat) : Tn K base a b := ⟨h.below.os, h.below.tape, h.below.output, h.below.size, fun i hi => .inl (h.below.block i hi)⟩
theorem Tn.below (h : Tn K base a b) {B0 : Nat} (hb : B0 ≤ base) (hs : B0 ≤ a.heap.size) : Below B0 a b :=
  ⟨h.os, h.tape, h.output, h.size, fun k hk => (h.block k (by omega)).elim id fun ⟨h1, _⟩ => by omega⟩
/-- A block of another kind stays. -/
theorem Tn.obj (h : Tn K base a b) {i : Nat} {o : Obj} (ho : a.heap[i]? = some o) (hk : ∀ k ∈ K, kindO o ≠ some k) : b.heap[i]? = some o := by
  rcases h.block i (Array.getElem?_eq_some_iff.1 ho).1 with h1 | ⟨_, k, p, h1, h2, h3⟩
  · exact h1.trans ho
  · obtain rfl : p = o := Option.some.inj (h2.symm.trans ho)
    exact absurd h3 (hk k h1)
theorem Tn.objc (h : Tn K base a b) {i : Nat} {cs : Array Value} {t : TypeId} (ho : a.heap[i]? = some (.cells cs t (0, 0))) (hK : some t ∉ K) : b.heap[i]? = some (.cells cs t (0, 0)) :=
  h.obj ho fun k hk e => by
    have : some t = k := Option.some.inj e
    exact hK (this ▸ hk)
theorem Tn.dr (h : Tn K base a b) (k : Dr b c) : Tn K base a c := by
  obtain ⟨n, rfl⟩ := k
  exact ⟨h.os, h.tape, h.output, h.size, h.block⟩
theorem Tn.drew (h : Tn K base a b) : Tn K base a b.drew := ⟨h.os, h.tape, h.output, h.size, h.block⟩
theorem Tn.drewN (h : Tn K base a b) (n : Nat) : Tn K base a (b.drewN n) := h.trans (((B.refl b).drewN n).tn K base)
theorem Tn.alloc (h : Tn K base a b) (cs : Array Value) (t : TypeId) : Tn K base a (b.alloc (.cells cs t)) := h.trans (((B.refl b).alloc cs t).tn K base)
theorem Tn.set (h : Tn K base a b) {p : Addr} {cs : Array Value} {t : TypeId} (ho : b.heap[p.block]? = some (.cells cs t (0, 0))) (hK : some t ∈ K) (hb : base ≤ p.block) (v : Value) : Tn K base a (b.setCell p v) := by
  refine h.trans ⟨rfl, rfl, rfl, by simp [World.setCell], fun i hi => ?_⟩
  by_cases e : i = p.block
  · subst e
    exact .inr ⟨hb, some t, .cells cs t (0, 0), hK, ho, rfl⟩
  · exact .inl (Below.heap_setCell _ _ _ _ e)
/-- The object of an own row. -/
theorem ownsRow_obj {base : Nat} {e : TypeId} {size n : Nat} {v : Value} {xs : List Value} (h : w.ownsRow base e size v n xs) {i : Nat} (hi : v.ownBlock = some i) : base ≤ i ∧ ∃ cs, w.heap[i]? = some (.cells cs e (0, 0)) := by
  rcases h.2 with ⟨rfl, _⟩ | ⟨g, cap, cur, rfl, hb, hg, _⟩
  · simp [Value.ownBlock] at hi
  · obtain rfl : g = i := by simpa [Value.ownBlock] using hi
    exact ⟨hb, cur, hg⟩
theorem obj_apart {b2 : Nat} {e2 : TypeId} {s2 n2 : Nat} {v2 : Value} {x2 : List Value} {i : Nat} {o : Obj} (ho : w.heap[i]? = some o) (h2 : w.ownsRow b2 e2 s2 v2 n2 x2) (he : kindO o ≠ some (some e2)) : v2.ownBlock ≠ some i := by
  intro e
  obtain ⟨_, cs', h4⟩ := ownsRow_obj h2 e
  rw [ho] at h4
  cases h4
  exact he rfl
theorem obj_grown {row : Option Nat} (g : w.grownBy w' row) {i : Nat} {o : Obj} (ho : w.heap[i]? = some o) (hr : row ≠ some i) : w'.heap[i]? = some o :=
  (g.block i (Array.getElem?_eq_some_iff.1 ho).1 (fun e => hr e.symm)).trans ho
end
end Go.Proofs.YtjcpabppklkjpaaDoor

namespace Go.Proofs.YtjcpabppklkjpaaDoor
open Go.RowKit
set_option linter.unusedVariables false
def Fl.cells (f : Fl) : List Value := [.string f.n, .int .i64 f.r, .int .i64 f.c, .int .i64 f.v]
def flatF (L : List Fl) : List Value := L.flatMap Fl.cells
theorem flatF_get : ∀ (L : List Fl) (i j : Nat) (r : Fl), L[i]? = some r → j < 4 → (flatF L)[i * 4 + j]? = r.cells[j]?
  | [], _, _, _, h, _ => by simp at h
  | r :: L, 0, j, r', h, hj => by
    simp at h
    subst h
    rw [Nat.zero_mul, Nat.zero_add]
    show (r.cells ++ flatF L)[j]? = _
    rw [List.getElem?_append_left (by simpa [Fl.cells] using hj)]
  | r :: L, i + 1, j, r', h, hj => by
    show (r.cells ++ flatF L)[(i + 1) * 4 + j]? = _
    rw [List.getElem?_append_right (by simp [Fl.cells]; omega), show (i + 1) * 4 + j - r.cells.length = i * 4 + j by simp [Fl.cells]; omega]
    exact flatF_get L i j r' (by simpa using h) hj
theorem flatF_snoc (L : List Fl) (f : Fl) : flatF (L ++ [f]) = flatF L ++ f.cells := by simp [flatF]
def ownL (ss tt : List Value) : Bool × Nat → Option Nat
  | (true, i) => (ss[i]?).bind Value.ownBlock
  | (false, i) => (tt[i]?).bind Value.ownBlock
structure Rows (w : World) (base : Nat) (wv tv fv : Value) (d : Dk) (ss tt : List Value) : Prop where
  ws : w.ownsRow base 58 5 wv d.ws.length (flatR d.ws ss)
  ts : w.ownsRow base 61 5 tv d.ts.length (flatR d.ts tt)
  fs : w.ownsRow base 64 4 fv d.fs.length (flatF d.fs)
  sl : ss.length = d.ws.length
  tl : tt.length = d.ts.length
  sh : ∀ (i : Nat) r v, d.ws[i]? = some r → ss[i]? = some v → w.ownsRow base 71 6 v r.l.length (flat r.l)
  th : ∀ (i : Nat) r v, d.ts[i]? = some r → tt[i]? = some v → w.ownsRow base 71 6 v r.l.length (flat r.l)
  wi : ∀ r ∈ d.ws, ∀ s ∈ r.l, s.I
  ti : ∀ r ∈ d.ts, ∀ s ∈ r.l, s.I
  apart : ∀ x y k, ownL ss tt x = some k → ownL ss tt y = some k → x = y
theorem Rows.start (w : World) (base : Nat) : Rows w base (.slice none 0 0) (.slice none 0 0) (.slice none 0 0) dk0 [] [] :=
  ⟨World.ownsRow_nil _ _ _ _, World.ownsRow_nil _ _ _ _, World.ownsRow_nil _ _ _ _, rfl, rfl, fun i r v h => by simp [dk0] at h, fun i r v h => by simp [dk0] at h, fun r h => by simp [dk0] at h, fun r h => by simp [dk0] at h,
    fun x y k h => by obtain ⟨b, i⟩ := x; cases b <;> simp [ownL] at h⟩
theorem isFls_own {w : World} {base : Nat} {e : TypeId} {v : Value} {L : List Fl} (h : w.ownsRow base e 4 v L.length (flatF L)) : IsFls w v L := by
  have hh := h
  rcases hh.2 with ⟨rfl, h0⟩ | ⟨g, cap, cur, rfl, _, _, h1, h2, _⟩
  · exact .inl ⟨rfl, List.length_eq_zero_iff.1 h0⟩
  · refine .inr ⟨_, cap, rfl, h1, h2, fun i f hf => ?_⟩
    have hc := fun j u hj => h.cells (g := g) rfl j u hj
    have k := fun j (hj : j < 4) u (hu : f.cells[j]? = some u) => hc (i * 4 + j) u ((flatF_get L i j f hf hj).trans hu)
    simp only [add0] at k
    rw [add0]
    exact ⟨k 0 (by omega) _ rfl, k 1 (by omega) _ rfl, k 2 (by omega) _ rfl, k 3 (by omega) _ rfl⟩
section
variable {w w' : World} {base : Nat} {wv tv fv : Value} {d : Dk} {ss tt : List Value}
/-- All stays where no block of these kinds turns. -/
theorem Rows.keep (h : Rows w base wv tv fv d ss tt) (hk : ∀ i, base ≤ i → ∀ cs e, (e = 58 ∨ e = 61 ∨ e = 64 ∨ e = 71) → w.heap[i]? = some (.cells cs e (0, 0)) → w'.heap[i]? = w.heap[i]?) : Rows w' base wv tv fv d ss tt := by
  have own : ∀ {e size n : Nat} {v : Value} {xs : List Value}, (e = 58 ∨ e = 61 ∨ e = 64 ∨ e = 71) → w.ownsRow base e size v n xs → w'.ownsRow base e size v n xs := fun {e size n v xs} he h => by
    refine ⟨h.1, ?_⟩
    rcases h.2 with hn | ⟨g, cap, cur, rfl, hb, hg, rest⟩
    · exact .inl hn
    · exact .inr ⟨g, cap, cur, rfl, hb, (hk g hb cur e he hg).trans hg, rest⟩
  exact ⟨own (by simp) h.ws, own (by simp) h.ts, own (by simp) h.fs, h.sl, h.tl, fun i r v h1 h2 => own (by simp) (h.sh i r v h1 h2), fun i r v h1 h2 => own (by simp) (h.th i r v h1 h2), h.wi, h.ti, h.apart⟩
theorem Rows.tn {K : List (Option TypeId)} {b : Nat} (h : Rows w base wv tv fv d ss tt) (t : Tn K b w w') (h1 : some 58 ∉ K) (h2 : some 61 ∉ K) (h3 : some 64 ∉ K) (h4 : some 71 ∉ K) : Rows w' base wv tv fv d ss tt :=
  h.keep fun i _ cs e he ho => by rcases he with rfl | rfl | rfl | rfl <;> exact (t.objc ho (by assumption)).trans ho.symm
theorem Rows.b (h : Rows w base wv tv fv d ss tt) (q : B w w') : Rows w' base wv tv fv d ss tt :=
  h.keep fun i _ cs e he ho => q.below.block i (obj_lt ho)
end
end Go.Proofs.YtjcpabppklkjpaaDoor
