/-
 Contracts and what they rest on.
-/
import Derived.Deep.AppendLies
import Derived.OwnWalk
import Derived.Test.YthlileddhgglnaaGreatDoorChecked
import Derived.Lib.Hide
import Derived.KernelRfl
import Derived.Deep.QuietTactic
import Derived.BigQuiet
import Derived.Laws.Strings2
import Derived.Laws.Slices
import Derived.Test.YthlileddhgglnaaGreatDoorY17
namespace Go.Proofs.YthlileddhgglnaaGreatDoor
open Go.RowKit
set_option linter.unusedVariables false
def indexC : List Wr → Int → ByteArray → Int → Int → Option Int
 | [], _, _, _, _ => none
 | w :: ws, k, n, r, c => if hasB w.n w.x w.y n r c then some (k + (r * w.y + c)) else indexC ws (k + w.x * w.y) n r c
theorem indexC_cons {ws : List Wr} {i : Nat} (hi : i < ws.length) (K : Int) (n : ByteArray) (r c : Int) : indexC (ws.drop i) K n r c = (if hasB (ws[i]).n (ws[i]).x (ws[i]).y n r c then some (K + (r * (ws[i]).y + c)) else indexC (ws.drop (i + 1)) (K + (ws[i]).x * (ws[i]).y) n r c) := by
 rw [List.drop_eq_getElem_cons hi]
 rfl
theorem hasB_in {N : ByteArray} {X Y : Int} {n : ByteArray} {r c : Int} (h : hasB N X Y n r c = true) : 0 ≤ r ∧ r < X ∧ 0 ≤ c ∧ c < Y := by
 unfold hasB at h
 simp only [Bool.and_eq_true, decide_eq_true_eq] at h
 omega
set_option maxRecDepth 100000 in
set_option maxHeartbeats 2000000 in
theorem windex_any (wv tv fv : Value) (d : Dk) (n : ByteArray) (r c : Int) (hr : I64 r) (hc : I64 c) (w : World) (h : IsDk w wv tv fv d) (hb : ∀ x ∈ d.ws, wareB x) (h100 : d.ws.length ≤ 100) : Calls Tryz.prog 73 #[.agg #[wv, tv, fv], .agg #[.string n, .int .i64 r, .int .i64 c]] w fun e w' => e = .returned (.tuple #[.int .i64 ((indexC d.ws 0 n r c).getD 0), .bool (indexC d.ws 0 n r c).isSome]) ∧ Q w w' := by
 obtain ⟨ao, ac, bo, bc, co, cc, rfl, rfl, rfl⟩ := h.forms
 have hQ := ((Q.refl w).alloc #[.slice ao d.ws.length ac, .slice bo d.ts.length bc, .slice co d.fs.length cc] 26).alloc #[.string n, .int .i64 r, .int .i64 c] 39
 have hR := h.ws.keepB hQ.b
 have e1 : (w.alloc (.cells #[.slice ao d.ws.length ac, .slice bo d.ts.length bc, .slice co d.fs.length cc] 26)).heap.size = w.heap.size + 1 := by simp
 have oD := ((B.refl _).alloc #[.string n, .int .i64 r, .int .i64 c] 39).obj (obj_new w (.cells #[.slice ao d.ws.length ac, .slice bo d.ts.length bc, .slice co d.fs.length cc] 26))
 have oE := obj_new (w.alloc (.cells #[.slice ao d.ws.length ac, .slice bo d.ts.length bc, .slice co d.fs.length cc] 26)) (.cells #[.string n, .int .i64 r, .int .i64 c] 39)
 rw [e1] at oE
 obtain ⟨W, hW⟩ : ∃ W, (w.alloc (.cells #[.slice ao d.ws.length ac, .slice bo d.ts.length bc, .slice co d.fs.length cc] 26)).alloc (.cells #[.string n, .int .i64 r, .int .i64 c] 39) = W := ⟨_, rfl⟩
 rw [hW] at hR hQ oD oE
 have k0 : W.cell? ⟨w.heap.size, 0, none⟩ = some (.slice ao d.ws.length ac) := obj_cell oD 0
 replace hQ := Lib.hid hQ
 clear h e1
 obtain ⟨R, hRR⟩ : ∃ R, indexC d.ws 0 n r c = R := ⟨_, rfl⟩
 rw [hRR]
 go_enter Tryz.func73, Tryz.ntmps73
 go_wp2_with fail
 try rw [hW]
 go_wp2_with fail
 clear hW k0 oD
 obtain ⟨E, hE⟩ : ∃ E, w.heap.size + 1 = E := ⟨_, rfl⟩
 rw [hE] at oE ⊢
 clear hE
 generalize w.heap.size = H at *
 go_loopw [6, 12] (fun nv iv wr => ∃ (i : Nat) (K : Int), i ≤ d.ws.length ∧ iv = .int .i64 i ∧ nv = .int .i64 K ∧ 0 ≤ K ∧ K ≤ 96 * (i : Int) ∧ R = indexC (d.ws.drop i) K n r c ∧ Q W wr) (fun _ iv _ => d.ws.length + 1 - (intOf iv).toNat)
 case atStart => exact ⟨0, 0, Nat.zero_le _, rfl, rfl, by omega, by omega, hRR.symm, Q.refl _⟩
 case round =>
  obtain ⟨i, K, hi, rfl, rfl, hK0, hK1, hRi, hQi⟩ := hrel
  obtain ⟨wo, rfl⟩ : ∃ wo : World, wo = wr := ⟨_, rfl⟩
  clear hRR
  have oE1 := hQi.b.obj oE
  by_cases hl : i < d.ws.length
  ·have hlB : decide ((i : Int) < (d.ws.length : Int)) = true := decide_eq_true (by omega)
   have hlI : (i : Int) < (d.ws.length : Int) := by omega
   have hi0 : (0 : Int) ≤ (i : Int) := by omega
   have wk1 : IntKind.i64.wrap ((i : Int) + 1) = (i : Int) + 1 := by rw [IntKind.wrap_i64]; omega
   obtain ⟨a, cap, e1, _, _, hrec⟩ := (hR.keepB hQi.b).at_ hl
   obtain ⟨rfl, _, rfl⟩ : ao = some a ∧ True ∧ ac = cap := by simpa using e1
   have hbi := hb _ (List.getElem_mem hl)
   rw [indexC_cons hl] at hRi
   obtain ⟨F, hF⟩ : ∃ F, d.ws[i] = F := ⟨_, rfl⟩
   rw [hF] at hrec hRi hbi
   obtain ⟨g1, g2, g3, g4, sv, g5, g6⟩ := hrec
   obtain ⟨so, sc, rfl⟩ := secs_form g6
   obtain ⟨sn, hsn⟩ : ∃ sn, F.l.length = sn := ⟨_, rfl⟩
   rw [hsn] at g5 g6
   clear hsn
   obtain ⟨N, X, Y, Z, SL⟩ := F
   have cs := fun w => wsize_any N X Y Z _ so sn sc rfl hbi w
   obtain ⟨b1, b2, b3, b4⟩ := hbi
   simp only at g1 g2 g3 g4 g5 hRi b1 b2 b3 b4
   have ch := fun w => whas_any N X Y Z _ so sn sc rfl n r c (by unfold I64; omega) (by unfold I64; omega) hr hc w
   have q1 := (Q.refl wo).alloc #[.string N, .int .i64 X, .int .i64 Y, .int .i64 Z, .slice so sn sc] 33
   have oE2 := q1.b.obj oE1
   have oW := obj_new wo (.cells #[.string N, .int .i64 X, .int .i64 Y, .int .i64 Z, .slice so sn sc] 33)
   have HL := Lib.hid hl
   have hQ1 := hQi.trans q1
   obtain ⟨W1, hW1⟩ : ∃ W1, wo.alloc (.cells #[.string N, .int .i64 X, .int .i64 Y, .int .i64 Z, .slice so sn sc] 33) = W1 := ⟨_, rfl⟩
   rw [hW1] at hQ1 oW oE2
   have p0 : W1.cell? ⟨wo.heap.size, 0, none⟩ = some (.string N) := obj_cell oW 0
   have p1 : W1.cell? ⟨wo.heap.size, 1, none⟩ = some (.int .i64 X) := obj_cell oW 1
   have p2 : W1.cell? ⟨wo.heap.size, 2, none⟩ = some (.int .i64 Y) := obj_cell oW 2
   have p3 : W1.cell? ⟨wo.heap.size, 3, none⟩ = some (.int .i64 Z) := obj_cell oW 3
   have p4 : W1.cell? ⟨wo.heap.size, 4, none⟩ = some (.slice so sn sc) := obj_cell oW 4
   have r0 : W1.cell? ⟨E, 0, none⟩ = some (.string n) := obj_cell oE2 0
   have r1 : W1.cell? ⟨E, 1, none⟩ = some (.int .i64 r) := obj_cell oE2 1
   have r2 : W1.cell? ⟨E, 2, none⟩ = some (.int .i64 c) := obj_cell oE2 2
   have hEw : ¬ E = wo.heap.size := by have := obj_lt oE1; omega
   have hwE : ¬ wo.heap.size = E := by omega
   clear hF e1 g6 q1 hb hl hR oE1 oE hQi
   cases hB : hasB N X Y n r c
   ·rw [hB] at ch hRi
    rw [if_neg (by decide)] at hRi
    have hxy := mul_small (a := X) (b := Y) (by omega) b2 (by omega) b4
    generalize X * Y = P at *
    have w2 : IntKind.i64.wrap (K + P) = K + P := by rw [IntKind.wrap_i64]; omega
    have HX := Lib.hid (And.intro hRi (And.intro (show 0 ≤ K + P ∧ K + P ≤ 96 * ((i : Int) + 1) by omega) hQ1))
    clear hRi hxy hB hQ1 b1 b2 b3 b4
    go_wp2_with fail
    try rw [hW1]
    go_wp2_with fail
    refine (ch _).mono ?_
    rintro _ w2 ⟨rfl, q2⟩
    replace p0 := q2.keep p0
    replace p1 := q2.keep p1
    replace p2 := q2.keep p2
    replace p3 := q2.keep p3
    replace p4 := q2.keep p4
    go_wp2_with fail
    refine (cs _).mono ?_
    rintro _ w3 ⟨rfl, q3⟩
    go_wp2
    go_roundw
    case rel =>
     obtain ⟨h1, ⟨h2, h3⟩, h5⟩ := HX.out
     have hl := HL.out
     exact ⟨i + 1, K + P, by omega, by go_num, rfl, h2, by omega, h1, (h5.trans q2).trans q3⟩
    case measure => have := HL.out; simp [intOf]; omega
   ·rw [hB] at ch hRi
    rw [if_pos rfl] at hRi
    obtain ⟨i1, i2, i3, i4⟩ := hasB_in hB
    have hxy := mul_small (a := r) (b := Y) i1 (by omega) (by omega) b4
    obtain ⟨P, hP⟩ : ∃ P, r * Y = P := ⟨_, rfl⟩
    rw [hP] at hxy hRi
    have w1 : IntKind.i64.wrap (r * Y) = P := by rw [hP, IntKind.wrap_i64]; omega
    obtain ⟨K1, hK1'⟩ : ∃ K1, K + P = K1 := ⟨_, rfl⟩
    obtain ⟨K2, hK2⟩ : ∃ K2, K1 + c = K2 := ⟨_, rfl⟩
    have w2 : IntKind.i64.wrap (K + P) = K1 := by rw [hK1', IntKind.wrap_i64]; omega
    have w3 : IntKind.i64.wrap (K1 + c) = K2 := by rw [hK2, IntKind.wrap_i64]; omega
    have e2 : K + (P + c) = K2 := by omega
    rw [e2] at hRi
    subst hRi
    have HX := Lib.hid hQ1
    clear hP hxy hK1' hK2 e2 hK0 hK1 b1 b2 b3 b4 i1 i2 i3 i4 hB hQ1
    go_wp2_with fail
    try rw [hW1]
    go_wp2_with fail
    refine (ch _).mono ?_
    rintro _ w2 ⟨rfl, q2⟩
    replace p2 := q2.keep p2
    replace r1 := q2.keep r1
    replace r2 := q2.keep r2
    go_wp2
    go_ret2
    exact ⟨rfl, (hQ.out.trans HX.out).trans q2⟩
  ·have hlB : decide ((i : Int) < (d.ws.length : Int)) = false := decide_eq_false (by omega)
   have hlN : decide (i < d.ws.length) = false := decide_eq_false hl
   rw [List.drop_eq_nil_of_le (by omega)] at hRi
   have hRn : R = none := hRi
   subst hRn
   have HQ := Lib.hid (hQ.out.trans hQi)
   clear hRi hR hQi hi hK0 hK1 hl
   go_wp2
   go_ret2
   exact ⟨rfl, HQ.out⟩
end Go.Proofs.YthlileddhgglnaaGreatDoor
namespace Go.Proofs.YthlileddhgglnaaGreatDoor
open Go.RowKit Go.Maps Go.WideMaps
set_option linter.unusedVariables false
theorem Ext.low {B0 B1 : Nat} {E E' : List Ent} {l : List Sec} {e0 : Ent} (h : Ext B1 E E' l e0) (hb : B0 ≤ B1) : Ext B0 E E' l e0 := by
 obtain ⟨h1, h2, h3⟩ := h
 refine ⟨h1, h2, ?_⟩
 rcases h3 with h3 | ⟨h3, h4, h5⟩
 ·exact .inl h3
 ·exact .inr ⟨h3, Nat.le_trans hb h4, h5⟩
theorem thing_zero (w : World) : (zeroValue 138).run Tryz.prog w = .ok (.pointer none) w := by kernel_rfl
theorem look_th {w : World} {m b : Nat} {ns : List ByteArray} {bs : List Nat} {s : ByteArray} (hs : s.size ≤ maxLen) (h : ThMap w m ns bs) (ha : thD ns bs s = .lit (.int .i64 b)) :
  (Instr.lookup 135 (.map (some m)) (.string s) false).run Tryz.prog w = .ok (.pointer (some ⟨b, 0, none⟩)) w := by
 obtain ⟨D, hD, _, hA, _⟩ := h
 obtain ⟨v, ps, h1, h2⟩ := hD.lookup str_law Tryz.underlying135 (thing_zero w) (zd := .nil) (zp := []) rfl (key9 s hs)
 rw [hA, ha] at h2
 rw [h1, ptrElem_lit h2]
theorem look_thk {w : World} {m : Nat} {ns : List ByteArray} {bs : List Nat} {s : ByteArray} {v : Value} (hs : s.size ≤ maxLen) (h : ThMap w m ns bs) (ha : ∀ u ps, ptrElem u = some (thD ns bs s, ps) → u = v) :
  (Instr.lookup 135 (.map (some m)) (.string s) true).run Tryz.prog w = .ok (.tuple #[v, .bool (namedL ns s)]) w := by
 obtain ⟨D, hD, _, hA, hH⟩ := h
 obtain ⟨u, ps, h1, h2⟩ := hD.look_ok str_law Tryz.underlying135 (thing_zero w) (zd := .nil) (zp := []) rfl (key9 s hs)
 rw [hA] at h2
 rw [h1, ha u ps h2, hH]
theorem ba_eq {a b : ByteArray} (h : a.toList = b.toList) : a = b := by
 rw [Go.Lib.toList_data, Go.Lib.toList_data] at h
 exact ByteArray.ext (Array.toList_inj.1 h)
theorem named_at {ok : Wr → Bool} {ws : List Wr} (hA : apartW ok ws = true) {n : ByteArray} (h : namedL (ws.map (·.n)) n = true) (bs : List Nat) (hl : bs.length = ws.length) :
  ∃ (i : Nat) (rc : Wr) (b : Nat), ws[i]? = some rc ∧ rc.n = n ∧ bs[i]? = some b ∧ thD (ws.map (·.n)) bs n = .lit (.int .i64 b) := by
 obtain ⟨m, hm, he⟩ := List.any_eq_true.1 h
 obtain ⟨rc, hrc, rfl⟩ := List.mem_map.1 hm
 obtain ⟨i, hi⟩ := List.getElem?_of_mem hrc
 have hil := (List.getElem?_eq_some_iff.1 hi).1
 have hn : rc.n = n := ba_eq (by simpa using he)
 obtain ⟨b, hb⟩ : ∃ b, bs[i]? = some b := ⟨_, List.getElem?_eq_getElem (by omega)⟩
 refine ⟨i, rc, b, hi, hn, hb, ?_⟩
 subst hn
 refine thD_at _ _ i rc.n b (by rw [List.getElem?_map, hi]; rfl) hb (fun j m hj hjm => ?_)
 rw [List.getElem?_map] at hjm
 cases hw : ws[j]? with
 | none => rw [hw] at hjm; cases hjm
 | some y =>
  rw [hw] at hjm
  obtain rfl : y.n = m := Option.some.inj hjm
  have hap := (apart_at hA hi).2
  unfold namedW at hap
  rw [List.any_eq_false] at hap
  have := hap y (List.mem_of_getElem? (show (ws.take i)[j]? = some y by rw [List.getElem?_take, if_pos hj]; exact hw))
  simpa using this
theorem indexC_named : ∀ (ws : List Wr) (K : Int) (n : ByteArray) (r c : Int), (indexC ws K n r c).isSome = true → namedL (ws.map (·.n)) n = true
 | [], _, _, _, _, h => by cases h
 | w :: ws, K, n, r, c, h => by
  simp only [List.map_cons, namedL, List.any_cons, Bool.or_eq_true]
  cases hb : hasB w.n w.x w.y n r c with
  | true =>
   unfold hasB at hb
   simp only [Bool.and_eq_true] at hb
   exact .inl hb.1.1
  | false =>
   unfold indexC at h
   rw [hb] at h
   exact .inr (indexC_named ws _ n r c (by simpa using h))
section
variable {P : Bp} {m9 : Nat} {E : List Ent} {X : List Th}
set_option maxRecDepth 100000 in
set_option maxHeartbeats 2000000 in
theorem dwell_no (W0 w : World) (hW : B W0 w) (hp : Pow10 W0) (hbm : W0.heap.size ≤ P.bm) (h : BoardM P w m9 E X) (n : ByteArray) (r c : Int) (hns : n.size ≤ maxLen) (hr : I64 r) (hc : I64 c) (hidx : indexC P.d.ws 0 n r c = none) :
  Calls Tryz.prog 23 #[.pointer (some ⟨P.b, 0, none⟩), .agg #[.string n, .int .i64 r, .int .i64 c]] w fun e w' => e = .returned (.tuple #[.pointer none, .int .i64 26]) ∧ BoardM P w' m9 E X ∧ B w w' := by
 have qa : B w (w.alloc (.cells #[.string n, .int .i64 r, .int .i64 c] 39)) := (B.refl w).alloc _ _
 have oW := obj_new w (.cells #[.string n, .int .i64 r, .int .i64 c] 39)
 have hM := h.keepB qa
 obtain ⟨p8, _, pW, _⟩ := right_parts9 h.right
 have cI0 : ∀ w', B (w.alloc (.cells #[.string n, .int .i64 r, .int .i64 c] 39)) w' → Calls Tryz.prog 73 #[.agg #[P.wv, P.tv, P.fv], .agg #[.string n, .int .i64 r, .int .i64 c]] w' fun e w'' => e = .returned (.tuple #[.int .i64 ((indexC P.d.ws 0 n r c).getD 0), .bool (indexC P.d.ws 0 n r c).isSome]) ∧ B w' w'' := fun w' q => (windex_any P.wv P.tv P.fv P.d n r c hr hc w' (hM.dk.keepB q).now (wares_in pW) (by omega)).mono fun _ _ h => ⟨h.1, h.2.b⟩
 rw [hidx] at cI0
 have oB := hM.obj
 obtain ⟨ao, ac, bo, bc, co, cc, e1, e2, e3⟩ := hM.dk.now.forms
 rw [e1, e2, e3] at oB cI0
 obtain ⟨an, han⟩ : ∃ an, P.d.ws.length = an := ⟨_, rfl⟩
 obtain ⟨bn, hbn⟩ : ∃ bn, P.d.ts.length = bn := ⟨_, rfl⟩
 obtain ⟨cn, hcn⟩ : ∃ cn, P.d.fs.length = cn := ⟨_, rfl⟩
 rw [han, hbn, hcn] at oB cI0
 clear han hbn hcn e1 e2 e3 pW p8
 simp only [Option.isSome_none, Option.getD_none] at cI0
 have k0 := obj_cell oB 0
 have k1 := obj_cell oB 1
 have k2 := obj_cell oB 2
 have g0 := obj_cell oW 0
 have g1 := obj_cell oW 1
 have g2 := obj_cell oW 2
 have HM := Lib.hid (And.intro hM qa)
 have hnot : ∀ (x : Bool) (w : World), (Op.unary .not (.bool x)).run Tryz.prog w = .ok (.bool (!x)) w := fun _ _ => rfl
 clear oB oW hM qa
 generalize hb9 : P.b = b at *
 go_enter Tryz.func23, Tryz.ntmps23
 go_wp2_with fail
 generalize w.alloc (.cells #[.string n, .int .i64 r, .int .i64 c] 39) = w1 at *
 generalize w.heap.size = Wb at *
 have cI := cI0
 clear cI0
 have qd : B w1 w1.drew := (B.refl _).drew
 refine wp_region_noPanic ?_
 refine wp_region_seq (S := fun w' => w'.cell? ⟨b, 0, none⟩ = some (.slice ao an ac) ∧ w'.cell? ⟨b, 1, none⟩ = some (.slice bo bn bc) ∧ w'.cell? ⟨b, 2, none⟩ = some (.slice co cn cc) ∧ w'.cell? ⟨Wb, 0, none⟩ = some (.string n) ∧ w'.cell? ⟨Wb, 1, none⟩ = some (.int .i64 r) ∧ w'.cell? ⟨Wb, 2, none⟩ = some (.int .i64 c) ∧ B w1 w') [(0, 0), (1, 0), (2, 0), (3, 0), (4, 0), (5, 2), (6, 0), (7, 0), (8, 0), (9, 0), (10, 0)] [0, 1, 2, 4, 0, 24, 32, 64, 64, 255, 1023] [0, 1, 2, 4, 0, 24, 32, 64, 64, 128, 256] (by kernel_rfl) (by kernel_rfl) (fun _ _ _ _ _ h => h) ?_ (fun hH => ?_)
 ·exact ⟨qd.keep k0, qd.keep k1, qd.keep k2, qd.keep g0, qd.keep g1, qd.keep g2, qd⟩
 refine wpSeq_take (d := 9) rfl rfl (by kernel_rfl) (fun w hS => by go_simp <;> with_reducible rfl) ?_
 dsimp only [sZ, sS]
 refine wpSeq_take (d := 10) rfl rfl (by kernel_rfl) (fun w hS => by go_simp <;> with_reducible rfl) ?_
 dsimp only [sZ, sS]
 refine wpSeq_take (d := 11) rfl rfl (by kernel_rfl) (fun w hS => by go_simp <;> with_reducible rfl) ?_
 dsimp only [sZ, sS]
 refine wpSeq_take (d := 12) rfl rfl (by kernel_rfl) (fun w hS => by go_simp <;> with_reducible rfl) ?_
 dsimp only [sZ, sS]
 refine wpSeq_take (d := 13) rfl rfl (by kernel_rfl) (fun w hS => by go_simp <;> with_reducible rfl) ?_
 dsimp only [sZ, sS]
 refine wpSeq_call rfl (by kernel_rfl) (fun K hK => ?_)
 go_simp
 (with_reducible refine (cI _ hH.2.2.2.2.2.2).mono ?_)
 rintro e w' ⟨rfl, hq⟩
 refine hK.out _ _ ?_ (fun hH => ?_)
 ·exact ⟨hq.keep (hH.1), hq.keep (hH.2.1), hq.keep (hH.2.2.1), hq.keep (hH.2.2.2.1), hq.keep (hH.2.2.2.2.1), hq.keep (hH.2.2.2.2.2.1), (hH.2.2.2.2.2.2).trans hq⟩
 clear hK
 refine wpSeq_take (d := 8) rfl rfl (by kernel_rfl) (fun w hS => by go_simp <;> with_reducible rfl) ?_
 dsimp only [sZ, sS]
 refine wpSeq_take (d := 15) rfl rfl (by kernel_rfl) (fun w hS => by go_simp <;> with_reducible rfl) ?_
 dsimp only [sZ, sS]
 refine wpSeq_take (d := 16) rfl rfl (by kernel_rfl) (fun w hS => by go_simp <;> with_reducible rfl) ?_
 dsimp only [sZ, sS]
 refine wpSeq_take (d := 6) rfl rfl (by kernel_rfl) (fun w hS => by go_simp <;> with_reducible rfl) ?_
 dsimp only [sZ, sS]
 refine wpSeq_take (d := 7) rfl rfl (by kernel_rfl) (fun w hS => by go_simp <;> with_reducible rfl) ?_
 dsimp only [sZ, sS]
 refine wpSeq_done ?_
 refine NoPanic.normal ?_
 obtain ⟨w2, rfl⟩ : ∃ w2 : World, w2 = w' := ⟨_, rfl⟩
 have hB2 : B w1 w2 := hH.2.2.2.2.2.2
 have HZ := Lib.hid (And.intro (HM.out.1.keepB hB2) (HM.out.2.trans hB2))
 clear hH cI k0 k1 k2 g1 g2 HM qd
 go_wp2
 go_ret2
 exact ⟨rfl, HZ.out.1, HZ.out.2⟩
set_option maxRecDepth 100000 in
set_option maxHeartbeats 2000000 in
theorem dwell_yes (W0 w : World) (hW : B W0 w) (hp : Pow10 W0) (hbm : W0.heap.size ≤ P.bm) (h : BoardM P w m9 E X) (n : ByteArray) (r c : Int) (hns : n.size ≤ maxLen) (hr : I64 r) (hc : I64 c) (k : Int) (hidx : indexC P.d.ws 0 n r c = some k) :
  Calls Tryz.prog 23 #[.pointer (some ⟨P.b, 0, none⟩), .agg #[.string n, .int .i64 r, .int .i64 c]] w fun e w' => ∃ (i : Nat) (rc : Wr) (p : Nat) (e0 : Ent) (n' : Nat) (E' : List Ent) (X' : List Th), P.d.ws[i]? = some rc ∧ rc.n = n ∧ e = .returned (.tuple #[.pointer (some ⟨p, 0, none⟩), .int .i64 0]) ∧ e0.p = .pointer (some ⟨p, 0, none⟩) ∧ Ext w.heap.size E E' rc.l e0 ∧ BoardM P w' n' E' X' ∧ G P.S w w' := by
 have qa : B w (w.alloc (.cells #[.string n, .int .i64 r, .int .i64 c] 39)) := (B.refl w).alloc _ _
 have oW := obj_new w (.cells #[.string n, .int .i64 r, .int .i64 c] 39)
 have hM := h.keepB qa
 obtain ⟨p8, _, pW, _⟩ := right_parts9 h.right
 have cI0 : ∀ w', B (w.alloc (.cells #[.string n, .int .i64 r, .int .i64 c] 39)) w' → Calls Tryz.prog 73 #[.agg #[P.wv, P.tv, P.fv], .agg #[.string n, .int .i64 r, .int .i64 c]] w' fun e w'' => e = .returned (.tuple #[.int .i64 ((indexC P.d.ws 0 n r c).getD 0), .bool (indexC P.d.ws 0 n r c).isSome]) ∧ B w' w'' := fun w' q => (windex_any P.wv P.tv P.fv P.d n r c hr hc w' (hM.dk.keepB q).now (wares_in pW) (by omega)).mono fun _ _ h => ⟨h.1, h.2.b⟩
 rw [hidx] at cI0
 have oB := hM.obj
 obtain ⟨ao, ac, bo, bc, co, cc, e1, e2, e3⟩ := hM.dk.now.forms
 rw [e1, e2, e3] at oB cI0
 obtain ⟨an, han⟩ : ∃ an, P.d.ws.length = an := ⟨_, rfl⟩
 obtain ⟨bn, hbn⟩ : ∃ bn, P.d.ts.length = bn := ⟨_, rfl⟩
 obtain ⟨cn, hcn⟩ : ∃ cn, P.d.fs.length = cn := ⟨_, rfl⟩
 rw [han, hbn, hcn] at oB cI0
 clear han hbn hcn e1 e2 e3 pW p8
 simp only [Option.isSome_some, Option.getD_some] at cI0
 have k0 := obj_cell oB 0
 have k1 := obj_cell oB 1
 have k2 := obj_cell oB 2
 have g0 := obj_cell oW 0
 have g1 := obj_cell oW 1
 have g2 := obj_cell oW 2
 have HM := Lib.hid (And.intro hM qa)
 have hnot : ∀ (x : Bool) (w : World), (Op.unary .not (.bool x)).run Tryz.prog w = .ok (.bool (!x)) w := fun _ _ => rfl
 clear oB oW hM qa
 generalize hb9 : P.b = b at *
 go_enter Tryz.func23, Tryz.ntmps23
 go_wp2_with fail
 generalize w.alloc (.cells #[.string n, .int .i64 r, .int .i64 c] 39) = w1 at *
 generalize w.heap.size = Wb at *
 have cI := cI0
 clear cI0
 have qd : B w1 w1.drew := (B.refl _).drew
 refine wp_region_noPanic ?_
 refine wp_region_seq (S := fun w' => w'.cell? ⟨b, 0, none⟩ = some (.slice ao an ac) ∧ w'.cell? ⟨b, 1, none⟩ = some (.slice bo bn bc) ∧ w'.cell? ⟨b, 2, none⟩ = some (.slice co cn cc) ∧ w'.cell? ⟨Wb, 0, none⟩ = some (.string n) ∧ w'.cell? ⟨Wb, 1, none⟩ = some (.int .i64 r) ∧ w'.cell? ⟨Wb, 2, none⟩ = some (.int .i64 c) ∧ B w1 w') [(0, 0), (1, 0), (2, 0), (3, 0), (4, 0), (5, 2), (6, 0), (7, 0), (8, 0), (9, 0), (10, 0)] [0, 1, 2, 4, 0, 24, 32, 64, 64, 255, 1023] [0, 1, 2, 4, 0, 24, 32, 64, 64, 128, 256] (by kernel_rfl) (by kernel_rfl) (fun _ _ _ _ _ h => h) ?_ (fun hH => ?_)
 ·exact ⟨qd.keep k0, qd.keep k1, qd.keep k2, qd.keep g0, qd.keep g1, qd.keep g2, qd⟩
 refine wpSeq_take (d := 9) rfl rfl (by kernel_rfl) (fun w hS => by go_simp <;> with_reducible rfl) ?_
 dsimp only [sZ, sS]
 refine wpSeq_take (d := 10) rfl rfl (by kernel_rfl) (fun w hS => by go_simp <;> with_reducible rfl) ?_
 dsimp only [sZ, sS]
 refine wpSeq_take (d := 11) rfl rfl (by kernel_rfl) (fun w hS => by go_simp <;> with_reducible rfl) ?_
 dsimp only [sZ, sS]
 refine wpSeq_take (d := 12) rfl rfl (by kernel_rfl) (fun w hS => by go_simp <;> with_reducible rfl) ?_
 dsimp only [sZ, sS]
 refine wpSeq_take (d := 13) rfl rfl (by kernel_rfl) (fun w hS => by go_simp <;> with_reducible rfl) ?_
 dsimp only [sZ, sS]
 refine wpSeq_call rfl (by kernel_rfl) (fun K hK => ?_)
 go_simp
 (with_reducible refine (cI _ hH.2.2.2.2.2.2).mono ?_)
 rintro e w' ⟨rfl, hq⟩
 refine hK.out _ _ ?_ (fun hH => ?_)
 ·exact ⟨hq.keep (hH.1), hq.keep (hH.2.1), hq.keep (hH.2.2.1), hq.keep (hH.2.2.2.1), hq.keep (hH.2.2.2.2.1), hq.keep (hH.2.2.2.2.2.1), (hH.2.2.2.2.2.2).trans hq⟩
 clear hK
 refine wpSeq_take (d := 8) rfl rfl (by kernel_rfl) (fun w hS => by go_simp <;> with_reducible rfl) ?_
 dsimp only [sZ, sS]
 refine wpSeq_take (d := 15) rfl rfl (by kernel_rfl) (fun w hS => by go_simp <;> with_reducible rfl) ?_
 dsimp only [sZ, sS]
 refine wpSeq_take (d := 16) rfl rfl (by kernel_rfl) (fun w hS => by go_simp <;> with_reducible rfl) ?_
 dsimp only [sZ, sS]
 refine wpSeq_take (d := 6) rfl rfl (by kernel_rfl) (fun w hS => by go_simp <;> with_reducible rfl) ?_
 dsimp only [sZ, sS]
 refine wpSeq_take (d := 7) rfl rfl (by kernel_rfl) (fun w hS => by go_simp <;> with_reducible rfl) ?_
 dsimp only [sZ, sS]
 refine wpSeq_done ?_
 refine NoPanic.normal ?_
 obtain ⟨w2, rfl⟩ : ∃ w2 : World, w2 = w' := ⟨_, rfl⟩
 have hB2 : B w1 w2 := hH.2.2.2.2.2.2
 have HZ := Lib.hid (And.intro (HM.out.1.keepB hB2) (HM.out.2.trans hB2))
 clear hH cI k0 k1 k2 g1 g2 HM qd
 have hnd := indexC_named P.d.ws 0 n r c (by rw [hidx]; rfl)
 obtain ⟨pp8, _, pW, _⟩ := right_parts9 h.right
 obtain ⟨i, rc, xb, hi, hrn, hxb, htd⟩ := named_at pW hnd P.bw h.wl
 obtain ⟨x, hx, hxi, hxl⟩ := h.xw i rc hi
 have hxbb : x.b = xb := by
  have e := congrArg (fun l => l[i]?) h.bX
  simp only [List.getElem?_map, hx] at e
  rw [List.getElem?_append_left (List.getElem?_eq_some_iff.1 hxb).1, hxb] at e
  exact Option.some.inj e
 obtain ⟨hM2, b02⟩ := HZ.out
 have hTM := hM2.wm
 have k4 := obj_cell hM2.obj 4
 have k3 := obj_cell hM2.obj 3
 rw [hb9] at k3 k4
 replace g0 := hB2.keep g0
 have qd : B w2 w2.drew := (B.refl _).drew
 have hWw2 := hW.trans b02
 have cT0 := fun w' (q : B w2 w') => thtab_any W0 w' (hWw2.trans q) hp hbm (hM2.keepB q) i x hx
 rw [hxbb] at cT0
 have cL := fun (w : World) (hE : ThMap w P.mw (P.d.ws.map (·.n)) P.bw) => look_th hns hE htd
 have HI := Lib.hid (And.intro hi (And.intro hrn hxl))
 obtain ⟨hlo, hwl⟩ : True ∧ w.heap.size ≤ w2.heap.size := ⟨trivial, b02.below.size⟩
 have cT : ∀ w', B w2 w' → Calls Tryz.prog 76 #[.pointer (some ⟨xb, 0, none⟩), .pointer (some ⟨P.c, 0, none⟩)] w' fun r w'' => ∃ (p : Nat) (e0 : Ent) (n' : Nat) (E' : List Ent) (X' : List Th), r = .returned (.pointer (some ⟨p, 0, none⟩)) ∧ e0.p = .pointer (some ⟨p, 0, none⟩) ∧
   Ext w.heap.size E E' x.l e0 ∧ BoardM P w'' n' E' X' ∧ G P.S w w'' := fun w' q => (cT0 w' q).mono fun e w'' ⟨p, e0, n', E', X', h1, h2, h3, h4, h5⟩ => ⟨p, e0, n', E', X', h1, h2, h3.low (Nat.le_trans hwl q.below.size), h4, ((b02.trans q).g _).trans h5⟩
 rw [hxl] at cT
 clear cT0 hx hxi hxbb hxb htd hnd pW hM2 h HZ hi hrn hxl hp hbm hWw2 hB2 b02 hW hidx
 generalize P.c = cb at *
 generalize P.mw = mw at *
 generalize P.bw = bw at *
 generalize P.d.ws.map (·.n) = ns at *
 go_wp2_with fail
 refine wp_region_noPanic ?_
 refine wp_region_gate (S := fun w' => w'.cell? ⟨b, 4, none⟩ = some (.map (some mw)) ∧ w'.cell? ⟨b, 3, none⟩ = some (.pointer (some ⟨cb, 0, none⟩)) ∧ w'.cell? ⟨Wb, 0, none⟩ = some (.string n) ∧ ThMap w' mw ns bw ∧ B w2 w') 11 [(0, 3), (1, 3), (2, 3), (3, 0), (4, 3), (5, 0), (6, 0), (7, 3), (8, 3), (9, 3), (10, 0), (11, 4), (12, 3), (13, 3)] [0, 1, 2, 4, 0, 16, 40, 0, 128, 256, 512, 1088, 4095, 8191] [0, 1, 2, 4, 0, 16, 40, 0, 128, 256, 512, 1088, 2048, 0] [0, 0, 0, 14408, 0, 14432, 14400, 0, 0, 0, 15360, 0, 0, 0] (by kernel_rfl) (by kernel_rfl) (fun _ _ _ _ _ h => h) ?_ (fun hH => ?_)
 ·exact ⟨qd.keep k4, qd.keep k3, qd.keep g0, hTM.same rfl, qd⟩
 refine wpSeqG_free (d := 19) (v := ?_) rfl rfl (by kernel_rfl) (fun w => ?_) ?_
 rotate_left
 ·go_simp <;> with_reducible rfl
 dsimp only [sZ, sS]
 refine wpSeqG_free (d := 20) (v := ?_) rfl rfl (by kernel_rfl) (fun w => ?_) ?_
 rotate_left
 ·go_simp <;> with_reducible rfl
 dsimp only [sZ, sS]
 refine wpSeqG_free (d := 21) (v := ?_) rfl rfl (by kernel_rfl) (fun w => ?_) ?_
 rotate_left
 ·go_simp <;> with_reducible rfl
 dsimp only [sZ, sS]
 refine wpSeqG_take (d := 22) (v := ?_) rfl rfl (by kernel_rfl) (fun w hS => ?_) ?_
 rotate_left
 ·go_simp <;> with_reducible rfl
 dsimp only [sZ, sS]
 refine wpSeqG_free (d := 23) (v := ?_) rfl rfl (by kernel_rfl) (fun w => ?_) ?_
 rotate_left
 ·go_simp <;> with_reducible rfl
 dsimp only [sZ, sS]
 refine wpSeqG_take (d := 24) (v := ?_) rfl rfl (by kernel_rfl) (fun w hS => ?_) ?_
 rotate_left
 ·go_simp <;> with_reducible rfl
 dsimp only [sZ, sS]
 refine wpSeqG_take (d := 25) (v := .pointer (some ⟨xb, 0, none⟩)) rfl rfl (by kernel_rfl) (fun w hS => ?_) ?_
 ·have e := cL w hS.2.2.2.1; go_simp
 dsimp only [sZ, sS]
 refine wpSeqG_free (d := 26) (v := ?_) rfl rfl (by kernel_rfl) (fun w => ?_) ?_
 rotate_left
 ·go_simp <;> with_reducible rfl
 dsimp only [sZ, sS]
 refine wpSeqG_free (d := 27) (v := ?_) rfl rfl (by kernel_rfl) (fun w => ?_) ?_
 rotate_left
 ·go_simp <;> with_reducible rfl
 dsimp only [sZ, sS]
 refine wpSeqG_free (d := 28) (v := ?_) rfl rfl (by kernel_rfl) (fun w => ?_) ?_
 rotate_left
 ·go_simp <;> with_reducible rfl
 dsimp only [sZ, sS]
 refine wpSeqG_take (d := 29) (v := ?_) rfl rfl (by kernel_rfl) (fun w hS => ?_) ?_
 rotate_left
 ·go_simp <;> with_reducible rfl
 dsimp only [sZ, sS]
 refine wpSeqG_gate rfl (by kernel_rfl) (fun K hK => ?_)
 go_simp
 (with_reducible refine (cT _ hH.2.2.2.2).mono ?_)
 rintro e w3 ⟨p, e0, n', E', X', rfl, hpp, hE, hM3, hg⟩
 refine hK.out _ _ ?_
 clear hK
 refine wpSeqG_free (d := 4) (v := ?_) rfl rfl (by kernel_rfl) (fun w => ?_) ?_
 rotate_left
 ·go_simp <;> with_reducible rfl
 dsimp only [sZ, sS]
 refine wpSeqG_free (d := 5) (v := ?_) rfl rfl (by kernel_rfl) (fun w => ?_) ?_
 rotate_left
 ·go_simp <;> with_reducible rfl
 dsimp only [sZ, sS]
 refine wpSeqG_done ?_
 refine NoPanic.normal ?_
 all_goals
  have HY := Lib.hid (And.intro hpp (And.intro hE (And.intro hM3 hg)))
  clear hpp hE hM3 hg cT cL hTM hH
  go_wp2
  go_ret2
  exact ⟨i, rc, p, e0, n', E', X', HI.out.1, HI.out.2.1, rfl, HY.out.1, HY.out.2.1, HY.out.2.2.1, HY.out.2.2.2⟩
end
end Go.Proofs.YthlileddhgglnaaGreatDoor
namespace Go.Proofs.YthlileddhgglnaaGreatDoor
open Go.RowKit
set_option linter.unusedVariables false
def countW : List Wr → Int
 | [] => 0
 | w :: ws => w.x * w.y + countW ws
theorem count_take {ws : List Wr} {i : Nat} {F : Wr} (h : ws[i]? = some F) : countW (ws.take (i + 1)) = countW (ws.take i) + F.x * F.y := by
 have e : ∀ (l : List Wr) (r : Wr), countW (l ++ [r]) = countW l + r.x * r.y := fun l r => by
  induction l with
  | nil => simp [countW]
  | cons x l ih => show x.x * x.y + countW (l ++ [r]) = x.x * x.y + countW l + _; rw [ih]; omega
 rw [List.take_add_one, h]
 exact e _ _
set_option maxRecDepth 100000 in
set_option maxHeartbeats 2000000 in
theorem r8count_any (wv tv fv : Value) (d : Dk) (w : World) (h : IsDk w wv tv fv d) (hb : ∀ x ∈ d.ws, wareB x) (h100 : d.ws.length ≤ 100) : Calls Tryz.prog 74 #[.agg #[wv, tv, fv]] w fun e w' => e = .returned (.int .i64 (countW d.ws)) ∧ B w w' := by
 obtain ⟨ao, ac, bo, bc, co, cc, rfl, rfl, rfl⟩ := h.forms
 have hQ := (B.refl w).alloc #[.slice ao d.ws.length ac, .slice bo d.ts.length bc, .slice co d.fs.length cc] 26
 have hR := h.ws.keepB hQ
 have oD := obj_new w (.cells #[.slice ao d.ws.length ac, .slice bo d.ts.length bc, .slice co d.fs.length cc] 26)
 obtain ⟨W, hW⟩ : ∃ W, w.alloc (.cells #[.slice ao d.ws.length ac, .slice bo d.ts.length bc, .slice co d.fs.length cc] 26) = W := ⟨_, rfl⟩
 rw [hW] at hR hQ oD
 clear h
 go_enter Tryz.func74, Tryz.ntmps74
 go_wp2_with fail
 try rw [hW]
 clear hW
 generalize w.heap.size = H at *
 go_loopw [3, 4] (fun nv iv wr => ∃ (i : Nat) (K : Int), i ≤ d.ws.length ∧ iv = .int .i64 i ∧ nv = .int .i64 K ∧ 0 ≤ K ∧ K ≤ 96 * (i : Int) ∧ K = countW (d.ws.take i) ∧ Dr W wr) (fun _ iv _ => d.ws.length + 1 - (intOf iv).toNat)
 case atStart => exact ⟨0, 0, Nat.zero_le _, rfl, rfl, by omega, by omega, rfl, Dr.refl _⟩
 case round =>
  obtain ⟨i, K, hi, rfl, rfl, hK0, hK1, hKe, n, rfl⟩ := hrel
  have k0 : (W.drewN n).cell? ⟨H, 0, none⟩ = some (.slice ao d.ws.length ac) := obj_cell (w := W.drewN n) oD 0
  by_cases hl : i < d.ws.length
  ·have hlB : decide ((i : Int) < (d.ws.length : Int)) = true := decide_eq_true (by omega)
   have hlI : (i : Int) < (d.ws.length : Int) := by omega
   have hi0 : (0 : Int) ≤ (i : Int) := by omega
   have wk1 : IntKind.i64.wrap ((i : Int) + 1) = (i : Int) + 1 := by rw [IntKind.wrap_i64]; omega
   obtain ⟨a, cap, e1, _, _, hr⟩ := hR.at_ hl
   obtain ⟨rfl, _, rfl⟩ : ao = some a ∧ True ∧ ac = cap := by simpa using e1
   have hbi := hb _ (List.getElem_mem hl)
   have hT := count_take (ws := d.ws) (i := i) (List.getElem?_eq_getElem hl)
   obtain ⟨F, hF⟩ : ∃ F, d.ws[i] = F := ⟨_, rfl⟩
   rw [hF] at hr hbi hT
   obtain ⟨b1, b2, b3, b4⟩ := hbi
   obtain ⟨g1, g2, g3, _⟩ := hr
   obtain ⟨N, X, Y, Z, SL⟩ := F
   simp only at g2 g3 b1 b2 b3 b4 hT
   have g2' : ∀ m, (W.drewN m).cell? _ = _ := fun m => g2
   have g3' : ∀ m, (W.drewN m).cell? _ = _ := fun m => g3
   have hxy := mul_small (a := X) (b := Y) (by omega) b2 (by omega) b4
   rw [← hKe] at hT
   obtain ⟨P, hP⟩ : ∃ P, X * Y = P := ⟨_, rfl⟩
   rw [hP] at hxy hT
   have w1 : IntKind.i64.wrap (X * Y) = P := by rw [hP, IntKind.wrap_i64]; omega
   have w2 : IntKind.i64.wrap (K + P) = K + P := by rw [IntKind.wrap_i64]; omega
   have k0' : ∀ m, (W.drewN m).cell? ⟨H, 0, none⟩ = some (.slice (some a) d.ws.length ac) := fun m => k0
   have HX := Lib.hid (And.intro hT (And.intro (show 0 ≤ K + P ∧ K + P ≤ 96 * ((i : Int) + 1) by omega) hl))
   clear hT hKe hb hF e1 hP hxy hl hi
   go_wp2_with fail
   go_quiet (fail)
   go_wp2
   go_roundw
   case rel =>
    obtain ⟨h1, ⟨h2, h3⟩, h4⟩ := HX.out
    exact ⟨i + 1, K + P, by omega, by go_num, rfl, h2, by omega, h1.symm, _, rfl⟩
   case measure => have := HX.out; simp [intOf]; omega
  ·have hlB : decide ((i : Int) < (d.ws.length : Int)) = false := decide_eq_false (by omega)
   have hlN : decide (i < d.ws.length) = false := decide_eq_false hl
   rw [List.take_of_length_le (by omega)] at hKe
   have HX := Lib.hid (And.intro hKe (hQ.drewN n))
   clear hKe hl
   go_wp2
   go_ret
   exact ⟨by rw [← HX.out.1]; rfl, HX.out.2⟩
end Go.Proofs.YthlileddhgglnaaGreatDoor
namespace Go.Proofs.YthlileddhgglnaaGreatDoor
open Go.RowKit
set_option linter.unusedVariables false
set_option maxRecDepth 100000 in
set_option maxHeartbeats 2000000 in
theorem wcount_any (wv tv fv : Value) (d : Dk) (w : World) (h : IsDk w wv tv fv d) (hb : ∀ x ∈ d.ws, wareB x) (h100 : d.ws.length ≤ 100) : Calls Tryz.prog 72 #[.agg #[wv, tv, fv]] w fun e w' => e = .returned (.int .i64 (countW d.ws)) ∧ Q w w' := by
 obtain ⟨ao, ac, bo, bc, co, cc, rfl, rfl, rfl⟩ := h.forms
 have hQ := (Q.refl w).alloc #[.slice ao d.ws.length ac, .slice bo d.ts.length bc, .slice co d.fs.length cc] 26
 have hR := h.ws.keepB hQ.b
 have oD := obj_new w (.cells #[.slice ao d.ws.length ac, .slice bo d.ts.length bc, .slice co d.fs.length cc] 26)
 obtain ⟨W, hW⟩ : ∃ W, w.alloc (.cells #[.slice ao d.ws.length ac, .slice bo d.ts.length bc, .slice co d.fs.length cc] 26) = W := ⟨_, rfl⟩
 rw [hW] at hR hQ oD
 have k0 : W.cell? ⟨w.heap.size, 0, none⟩ = some (.slice ao d.ws.length ac) := obj_cell oD 0
 clear h oD
 go_enter Tryz.func72, Tryz.ntmps72
 go_wp2_with fail
 try rw [hW]
 go_wp2_with fail
 clear hW k0
 generalize w.heap.size = H at *
 go_loopw [3, 9] (fun nv iv wr => ∃ (i : Nat) (K : Int), i ≤ d.ws.length ∧ iv = .int .i64 i ∧ nv = .int .i64 K ∧ 0 ≤ K ∧ K ≤ 96 * (i : Int) ∧ K = countW (d.ws.take i) ∧ Q W wr) (fun _ iv _ => d.ws.length + 1 - (intOf iv).toNat)
 case atStart => exact ⟨0, 0, Nat.zero_le _, rfl, rfl, by omega, by omega, rfl, Q.refl _⟩
 case round =>
  obtain ⟨i, K, hi, rfl, rfl, hK0, hK1, hKe, hQi⟩ := hrel
  obtain ⟨wo, rfl⟩ : ∃ wo : World, wo = wr := ⟨_, rfl⟩
  by_cases hl : i < d.ws.length
  ·have hlB : decide ((i : Int) < (d.ws.length : Int)) = true := decide_eq_true (by omega)
   have hlI : (i : Int) < (d.ws.length : Int) := by omega
   have hi0 : (0 : Int) ≤ (i : Int) := by omega
   have wk1 : IntKind.i64.wrap ((i : Int) + 1) = (i : Int) + 1 := by rw [IntKind.wrap_i64]; omega
   obtain ⟨a, cap, e1, _, _, hr⟩ := (hR.keepB hQi.b).at_ hl
   obtain ⟨rfl, _, rfl⟩ : ao = some a ∧ True ∧ ac = cap := by simpa using e1
   have hbi := hb _ (List.getElem_mem hl)
   have hT := count_take (ws := d.ws) (i := i) (List.getElem?_eq_getElem hl)
   obtain ⟨F, hF⟩ : ∃ F, d.ws[i] = F := ⟨_, rfl⟩
   rw [hF] at hr hbi hT
   obtain ⟨g1, g2, g3, g4, sv, g5, g6⟩ := hr
   obtain ⟨so, sc, rfl⟩ := secs_form g6
   obtain ⟨sn, hsn⟩ : ∃ sn, F.l.length = sn := ⟨_, rfl⟩
   rw [hsn] at g5 g6
   clear hsn
   obtain ⟨N, X, Y, Z, SL⟩ := F
   have cs := fun w => wsize_any N X Y Z _ so sn sc rfl hbi w
   obtain ⟨b1, b2, b3, b4⟩ := hbi
   simp only at g1 g2 g3 g4 g5 b1 b2 b3 b4 hT
   have hxy := mul_small (a := X) (b := Y) (by omega) b2 (by omega) b4
   rw [← hKe] at hT
   generalize X * Y = P at *
   have w2 : IntKind.i64.wrap (K + P) = K + P := by rw [IntKind.wrap_i64]; omega
   have q1 := (Q.refl wo).alloc #[.string N, .int .i64 X, .int .i64 Y, .int .i64 Z, .slice so sn sc] 33
   have HX := Lib.hid (And.intro hT (And.intro (show 0 ≤ K + P ∧ K + P ≤ 96 * ((i : Int) + 1) by omega) (And.intro hl (hQi.trans q1))))
   obtain ⟨W1, hW1⟩ : ∃ W1, wo.alloc (.cells #[.string N, .int .i64 X, .int .i64 Y, .int .i64 Z, .slice so sn sc] 33) = W1 := ⟨_, rfl⟩
   have oW := obj_new wo (.cells #[.string N, .int .i64 X, .int .i64 Y, .int .i64 Z, .slice so sn sc] 33)
   rw [hW1] at HX oW
   have p0 : W1.cell? ⟨wo.heap.size, 0, none⟩ = some (.string N) := obj_cell oW 0
   have p1 : W1.cell? ⟨wo.heap.size, 1, none⟩ = some (.int .i64 X) := obj_cell oW 1
   have p2 : W1.cell? ⟨wo.heap.size, 2, none⟩ = some (.int .i64 Y) := obj_cell oW 2
   have p3 : W1.cell? ⟨wo.heap.size, 3, none⟩ = some (.int .i64 Z) := obj_cell oW 3
   have p4 : W1.cell? ⟨wo.heap.size, 4, none⟩ = some (.slice so sn sc) := obj_cell oW 4
   clear oW hT hKe hb hF e1 hl hi q1 g6
   go_wp2_with fail
   refine (cs _).mono ?_
   rintro _ w2 ⟨rfl, q2⟩
   go_wp2
   go_roundw
   case rel =>
    obtain ⟨h1, ⟨h2, h3⟩, h4, h5⟩ := HX.out
    exact ⟨i + 1, K + P, by omega, by go_num, rfl, h2, by omega, h1.symm, h5.trans q2⟩
   case measure => have := HX.out; simp [intOf]; omega
  ·have hlB : decide ((i : Int) < (d.ws.length : Int)) = false := decide_eq_false (by omega)
   have hlN : decide (i < d.ws.length) = false := decide_eq_false hl
   rw [List.take_of_length_le (by omega)] at hKe
   have HX := Lib.hid (And.intro hKe (hQ.trans hQi))
   clear hKe hl
   go_wp2
   go_ret
   exact ⟨by rw [← HX.out.1]; rfl, HX.out.2⟩
end Go.Proofs.YthlileddhgglnaaGreatDoor
namespace Go.Proofs.YthlileddhgglnaaGreatDoor
open Go.RowKit
def outerOf : Nat → List Sec
 | 0 => [⟨true, 5000, 500, 0, 800, 0⟩, ⟨true, 30000, 800, 0, 1500, 0⟩]
 | 1 => [⟨true, 20000, 700, 0, 2500, 0⟩]
 | _ => [⟨true, 900, 300, 0, 600, 0⟩]
theorem outer_right : ∀ m : Nat, rightS (outerOf m) = true
 | 0 => by decide
 | 1 => by decide
 | n + 2 => by rw [show outerOf (n + 2) = outerOf 2 from rfl]; decide
theorem outer_len : ∀ m : Nat, 1 ≤ (outerOf m).length
 | 0 => by decide
 | 1 => by decide
 | n + 2 => by rw [show outerOf (n + 2) = outerOf 2 from rfl]; decide
theorem outer_pick (w : World) (m : Nat) (h : m < 3) : ∃ V, [Value.slice (some ⟨w.heap.size, 0, none⟩) 2 2, Value.slice (some ⟨w.heap.size + 1, 0, none⟩) 1 1, Value.slice (some ⟨w.heap.size + 1 + 1, 0, none⟩) 1 1][m]? = some V := by
 match m, h with
 | 0, _ => exact ⟨_, rfl⟩
 | 1, _ => exact ⟨_, rfl⟩
 | 2, _ => exact ⟨_, rfl⟩
theorem outer_blocks (w : World) (m : Nat) (V : Value) (hm : m < 3) (h : [Value.slice (some ⟨w.heap.size, 0, none⟩) 2 2, Value.slice (some ⟨w.heap.size + 1, 0, none⟩) 1 1, Value.slice (some ⟨w.heap.size + 1 + 1, 0, none⟩) 1 1][m]? = some V) : ∀ g, V.ownBlock = some g → w.heap.size ≤ g := by
 intro g hg
 match m, hm with
 | 0, _ => obtain rfl := Option.some.inj h; have e := Option.some.inj hg; simp at e; omega
 | 1, _ => obtain rfl := Option.some.inj h; have e := Option.some.inj hg; simp at e; omega
 | 2, _ => obtain rfl := Option.some.inj h; have e := Option.some.inj hg; simp at e; omega
set_option maxHeartbeats 4000000 in
theorem outer_new (k : Int) (h1 : 0 ≤ k) (h2 : k ≤ 255) (w : World) :
  Calls Tryz.prog 37 #[.int .u8 k] w fun e w' => ∃ v, e = .returned v ∧ IsSecs w' v (outerOf (k % 3).toNat) ∧ Q w w' ∧ ∀ g, v.ownBlock = some g → w.heap.size ≤ g := by
 obtain ⟨V, hp⟩ := outer_pick w (k % 3).toNat (by omega)
 have HP := Lib.hid hp
 have hm : (k % 3).toNat < 3 := by omega
 have HM := Lib.hid hm
 clear hm
 go_enter Tryz.func37, Tryz.ntmps37
 go_wp2
 go_ret
 refine ⟨V, rfl, ?_, ?_, outer_blocks w _ V HM.out HP.out⟩
 ·clear hp h1 h2
  have hp := HP.out
  have hm := HM.out
  clear HP HM
  generalize (k % 3).toNat = m at *
  match m, hm with
  | 0, _ =>
   obtain rfl : Value.slice (some ⟨w.heap.size, 0, none⟩) 2 2 = V := Option.some.inj hp
   exact (isSecs_new (l := outerOf 0) rfl (by simp) (fitsB_I (by decide)) (by decide) (by decide)).keep ((((Q.refl _).alloc _ _).alloc _ _).alloc _ _)
  | 1, _ =>
   obtain rfl : Value.slice (some ⟨w.heap.size + 1, 0, none⟩) 1 1 = V := Option.some.inj hp
   exact (isSecs_new (l := outerOf 1) rfl (by simp) (fitsB_I (by decide)) (by decide) (by decide)).keep (((Q.refl _).alloc _ _).alloc _ _)
  | 2, _ =>
   obtain rfl : Value.slice (some ⟨w.heap.size + 1 + 1, 0, none⟩) 1 1 = V := Option.some.inj hp
   exact (isSecs_new (l := outerOf 2) rfl (by simp) (fitsB_I (by decide)) (by decide) (by decide)).keep ((Q.refl _).alloc _ _)
 ·exact ((((((Q.refl _).alloc _ _).alloc _ _).alloc _ _).alloc _ _))
end Go.Proofs.YthlileddhgglnaaGreatDoor
namespace Go.Proofs.YthlileddhgglnaaGreatDoor
open Go.RowKit
def nameT1 : ByteArray := ⟨#[116, 49]⟩
def nameT2 : ByteArray := ⟨#[116, 50]⟩
def namePlate : ByteArray := ⟨#[112, 108, 97, 116, 101]⟩
def nameTube : ByteArray := ⟨#[116, 117, 98, 101]⟩
def wares7 (a b c d : Int) : List Rec := [⟨namePlate, a / 6 % 3 + 1, b / 6 % 4 + 2, c % 4 * 500, shapeOf (a % 6).toNat⟩, ⟨nameTube, 1, c / 4 % 3 + 2, d % 3 * 300, shapeOf (b % 6).toNat⟩]
def cap7 (c : Int) : Int := if c % 3 = 0 then 200000 else if c % 3 = 1 then 30000 else 5000
def filt7 (d : Int) : Int := if d % 2 = 0 then 60000 else 15000
def err7 (d : Int) : Int := if d / 2 % 3 = 0 then 0 else if d / 2 % 3 = 1 then 20 else 100
def tips7 (c d : Int) : List Rec := ⟨nameT1, cap7 c, filt7 d, err7 d, outerOf (c % 3).toNat⟩ :: if d % 5 = 0 then [] else [⟨nameT2, 50000, 40000, d % 30, outerOf (d % 3).toNat⟩]
theorem tipInfo : (Tryz.prog.info? 35).map (fun i => (i.zero, i.size, i.bytes)) = some (some (.agg #[.string ⟨#[]⟩, .int .i64 0, .int .i64 0, .int .i64 0, .slice none 0 0]), 5, 64) := by kernel_rfl
end Go.Proofs.YthlileddhgglnaaGreatDoor
namespace Go.Proofs.YthlileddhgglnaaGreatDoor
open Go.RowKit
def IsU8s (w : World) (v : Value) (bs : List UInt8) : Prop := ∃ ao cap b o, v = .slice ao bs.length cap ∧ IsB w ao cap b o bs
theorem spot_int {w : World} {p : Addr} {k : IntKind} {x : Int} (h : w.cell? p = some (.int k x)) : p.spot = none := by
 cases hsp : p.spot with
 | none => rfl
 | some x =>
  unfold World.cell? at h
  split at h
  ·simp [hsp] at h
  ·cases h
theorem IsU8s.keep {w w' : World} {v : Value} {bs : List UInt8} (h : IsU8s w v bs) (q : B w w') : IsU8s w' v bs := by
 obtain ⟨ao, cap, b, o, h1, h2⟩ := h
 exact ⟨ao, cap, b, o, h1, h2.keep q⟩
end Go.Proofs.YthlileddhgglnaaGreatDoor
namespace Go.Proofs.YthlileddhgglnaaGreatDoor
open Go.RowKit
def IsU32s (w : World) (v : Value) (l : List Nat) : Prop := ∃ ao cap, v = .slice ao l.length cap ∧ l.length ≤ 9223372036854775807 ∧ ∀ (i x : Nat), l[i]? = some x → x < 4294967296 ∧ ∃ b o, ao = some ⟨b, o, none⟩ ∧ w.cell? ⟨b, o + i, none⟩ = some (.int .u32 (x : Int))
theorem isU32s_nil (w : World) : IsU32s w (.slice none 0 0) [] := ⟨none, 0, rfl, by simp, fun i x h => by simp at h⟩
theorem isU32s_of {w : World} {a : Addr} {len cap : Nat} {zs : List Int} (h1 : len ≤ cap) (h2 : cap ≤ maxLen) (hz : zs.length = cap) (hc : ∀ i, i < zs.length → w.cell? (a.add i) = some (.int .u32 (zs.getD i 0))) (hw : ∀ n ∈ zs, (Lit.int .u32 n).wf = true) :
  IsU32s w (.slice (some a) len cap) ((zs.take len).map fun z => z.toNat) := by
 have hl : ((zs.take len).map fun z => z.toNat).length = len := by rw [List.length_map, List.length_take]; omega
 refine ⟨some a, cap, by rw [hl], by rw [hl]; unfold maxLen at h2; omega, fun i x hi => ?_⟩
 have hlt : i < len := by have := (List.getElem?_eq_some_iff.1 hi).1; omega
 have hlt' : i < zs.length := by omega
 have e : zs.getD i 0 = zs[i] := by rw [List.getD_eq_getElem?_getD, List.getElem?_eq_getElem hlt']; rfl
 have hm := hw _ (List.getElem_mem hlt')
 simp [Lit.wf, IntKind.min, IntKind.max, IntKind.signed, IntKind.bits] at hm
 have hcc := hc i hlt'
 rw [e] at hcc
 rw [List.getElem?_map, List.getElem?_take, if_pos hlt, List.getElem?_eq_getElem hlt'] at hi
 obtain rfl : (zs[i]).toNat = x := by simpa using hi
 have h0 := hc 0 (by omega)
 have hsp : a.spot = none := spot_int (k := .u32) (x := zs.getD 0 0) (by have e0 : a.add 0 = a := by unfold Addr.add; simp
                                                                         rw [← e0]; exact h0)
 have ea : a.add i = ⟨a.block, a.off + i, none⟩ := by
  unfold Addr.add
  split
  ·rename_i h; subst h; rw [Nat.add_zero, ← hsp]
  ·rfl
 rw [ea] at hcc
 refine ⟨by omega, a.block, a.off, by rw [← hsp], ?_⟩
 rw [hcc]
 congr 2
 omega
theorem IsU32s.keep {w w' : World} {v : Value} {l : List Nat} (h : IsU32s w v l) (q : B w w') : IsU32s w' v l := by
 obtain ⟨ao, cap, h1, h2, h3⟩ := h
 exact ⟨ao, cap, h1, h2, fun i x hi => let ⟨k1, b, o, k2, k3⟩ := h3 i x hi; ⟨k1, b, o, k2, q.keep k3⟩⟩
theorem IsU32s.form {w : World} {v : Value} {l : List Nat} (h : IsU32s w v l) : ∃ ao cap, v = .slice ao l.length cap := let ⟨ao, cap, h1, _⟩ := h; ⟨ao, cap, h1⟩
end Go.Proofs.YthlileddhgglnaaGreatDoor
