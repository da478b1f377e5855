/-
 Contracts and what they rest on.
-/
import Derived.OwnWalk
import Derived.Laws.OwnMore
import Derived.Lib.Hide
import Derived.Test.YthlileddhgglnaaDoorChecked
import Derived.Test.YthlileddhgglnaaDoorY6
namespace Go.Proofs.YthlileddhgglnaaDoor
open Go.RowKit
set_option linter.unusedVariables false
def ReadRes (had : Nat) (ws : List Wd) (w : World) (e : Ending) (w' : World) : Prop :=
 (∃ s wv, lineP had ws = .ok s ∧ e = .returned (.tuple #[.agg #[.int .i64 s.k, .string s.n, wv, .int .i64 s.v, .int .i64 s.m], .int .i64 0, .int .i64 0]) ∧ w'.ownsRow w.heap.size 49 3 wv s.w.length (flatWp s.w) ∧ B w w') ∨
 (∃ p n : Nat, lineP had ws = .error (p, n) ∧ e = .returned (.tuple #[.agg #[.int .i64 0, .string ⟨#[]⟩, .slice none 0 0, .int .i64 0, .int .i64 0], .int .i64 (p : Int), .int .i64 (n : Int)]) ∧ B w w')
theorem StepU.drew {w : World} {base b : Nat} {s : Sp} {wv : Value} (h : StepU w base b s wv) : StepU w.drew base b s wv := ⟨(B.refl w).drew.obj h.obj, World.ownsRow.drew h.row⟩
theorem takeP_len (s : Sp) (c : Nat) (t : List UInt8) : (takeP s c t).1.w.length ≤ s.w.length + 1 := by
 unfold takeP
 repeat' split
 all_goals simp
theorem readP_step {k i : Nat} {s : Sp} {ws : List Wd} {x : Wd} (h : ws[i]? = some x) (j : Nat) : readP k j s (ws.drop i) = if (takeP s (toldP k j) x.2).2 = 0 then readP k (j + 1) (takeP s (toldP k j) x.2).1 (ws.drop (i + 1)) else .error (x.1, (takeP s (toldP k j) x.2).2) := by
 have hi : i < ws.length := (List.getElem?_eq_some_iff.1 h).1
 rw [List.drop_eq_getElem_cons hi, show ws[i] = x by rw [List.getElem?_eq_getElem hi] at h; simpa using h, readP]
theorem enough_two {k n : Nat} (h : enoughP k n = true) : 2 ≤ n := by
 unfold enoughP at h
 split at h
 ·simp at h; omega
 ·split at h <;> simp at h <;> omega
set_option maxRecDepth 100000 in
set_option maxHeartbeats 2000000 in
theorem pread_any (v : Value) (x : Wd) (ws : List Wd) (had : Nat) (hh : had ≤ 200) (w : World) (h : IsWords w v (x :: ws)) (hz : ws.length ≤ 65536) (ht : ∀ y ∈ ws, y.2.length ≤ 65536) : Calls Tryd.prog 38 #[v, .bool (decide (had = 200))] w (ReadRes had (x :: ws) w) := by
 obtain ⟨g, lc, rfl, hle, hm, hlt, z⟩ := h.full (by simp)
 have q0 : B w (w.alloc (.cells #[.int .i64 0, .string ⟨#[]⟩, .slice none 0 0, .int .i64 0, .int .i64 0] 47)) := (B.refl _).alloc _ _
 have oR := obj_new w (.cells #[.int .i64 0, .string ⟨#[]⟩, .slice none 0 0, .int .i64 0, .int .i64 0] 47)
 have cK := pkind_any _ x ws _ (h.keep q0) hz
 unfold KindRes at cK
 obtain ⟨n, hn⟩ : ∃ n, (x :: ws).length = n := ⟨_, rfl⟩
 obtain ⟨m, hm'⟩ : ∃ m, ws.length = m := ⟨_, rfl⟩
 have hnm' : n = m + 1 := by rw [← hn, ← hm']; simp
 have hn0 : (0 : Int) < (n : Int) := by omega
 have hmn : (n : Int) - 1 = (m : Int) := by omega
 have hnm := Lib.hid hnm'
 clear hnm'
 obtain ⟨XA, hXA⟩ : ∃ XA, x.1 = XA := ⟨_, rfl⟩
 have z0 := (z 0 x rfl).1
 rw [Nat.zero_mul, hXA] at z0
 have HZ := Lib.hid z
 have k0 := q0.keep z0
 rw [hn] at cK hle ⊢
 clear h z hlt z0
 go_enter Tryd.func38, Tryd.ntmps38
 go_wp2_with fail
 generalize w.alloc (.cells #[.int .i64 0, .string ⟨#[]⟩, .slice none 0 0, .int .i64 0, .int .i64 0] 47) = W0 at *
 generalize hRb : w.heap.size = R at *
 refine (Calls.mono cK ?_)
 rintro e w2 ⟨k, rfl, hk, hk6, q2⟩
 have oR2 := q2.obj oR
 have q02 := q0.trans q2
 clear cK k0 oR q0 q2
 cases hhd : headP (x :: ws) with
 | none =>
  have HE : Hid (lineP had (x :: ws) = .error (XA, 24)) := Lib.hid (by unfold lineP; simp only [hhd, hXA])
  clear hhd hk hm
  have b0 := obj_cell oR2 0
  have f0 := obj_free oR2 0
  have b1 := obj_cell oR2 1
  have f1 := obj_free oR2 1
  have b2 := obj_cell oR2 2
  have f2 := obj_free oR2 2
  have b3 := obj_cell oR2 3
  have f3 := obj_free oR2 3
  have b4 := obj_cell oR2 4
  have f4 := obj_free oR2 4
  simp only [List.getElem?_toArray, List.getElem?_cons_zero, List.getElem?_cons_succ] at b0 b1 b2 b3 b4
  go_wp2_with fail
  go_wp2
  have ob6 := obj_five oR2 (.int .i64 0) (.string ⟨#[]⟩) (.slice none 0 0) (.int .i64 0) (.int .i64 0)
  have B6 := b_five q02 (Nat.le_of_eq hRb) (.int .i64 0) (.string ⟨#[]⟩) (.slice none 0 0) (.int .i64 0) (.int .i64 0)
  generalize (((((w2.setCell ⟨R, 0, none⟩ (.int .i64 0)).setCell ⟨R, 1, none⟩ (.string ⟨#[]⟩)).setCell ⟨R, 2, none⟩ (.slice none 0 0)).setCell ⟨R, 3, none⟩ (.int .i64 0)).setCell ⟨R, 4, none⟩ (.int .i64 0)) = W6 at *
  have d0 := obj_cell ob6 0
  have d1 := obj_cell ob6 1
  have d2 := obj_cell ob6 2
  have d3 := obj_cell ob6 3
  have d4 := obj_cell ob6 4
  simp only [List.getElem?_toArray, List.getElem?_cons_zero, List.getElem?_cons_succ] at d0 d1 d2 d3 d4
  exact bodyPost_ret (v := .tuple #[.agg #[.int .i64 0, .string ⟨#[]⟩, .slice none 0 0, .int .i64 0, .int .i64 0], .int .i64 (XA : Int), .int .i64 24]) (by simp [results, Tryd.results38, go_sem, d0, d1, d2, d3, d4]) rfl (.inr ⟨XA, 24, HE.out, rfl, B6⟩)
 | some j =>
  obtain rfl := hk j hhd
  obtain ⟨hkk, hen, _⟩ := headP_kind hhd
  have hn2 := enough_two hen
  rw [hm', ← hnm.out] at hn2
  have hL : lineP had (x :: ws) = if 200 ≤ had ∨ 98 < n then .error (XA, 27) else readP k 1 (sp0 k) ws := by
   show (match headP (x :: ws) with | none => _ | some k => if 200 ≤ had ∨ 98 < (x :: ws).length then _ else _) = _
   rw [hhd, hn, hXA]
  obtain ⟨m2, hm2⟩ : ∃ m2 : Nat, n = m2 + 2 := ⟨n - 2, by omega⟩
  have wm2 : IntKind.i64.wrap ((n : Int) - 2) = (m2 : Int) := by rw [IntKind.wrap_i64]; omega
  have hmm := Lib.hid hm2
  clear hhd hk hkk hen hm2
  by_cases hfull : had = 200
  ·have hB : decide (had = 200) = true := decide_eq_true hfull
   have HE : Hid (lineP had (x :: ws) = .error (XA, 27)) := Lib.hid (by rw [hL, if_pos (.inl (by omega))])
   rw [hB]
   clear hL hfull hm
   have b0 := obj_cell oR2 0
   have f0 := obj_free oR2 0
   have b1 := obj_cell oR2 1
   have f1 := obj_free oR2 1
   have b2 := obj_cell oR2 2
   have f2 := obj_free oR2 2
   have b3 := obj_cell oR2 3
   have f3 := obj_free oR2 3
   have b4 := obj_cell oR2 4
   have f4 := obj_free oR2 4
   simp only [List.getElem?_toArray, List.getElem?_cons_zero, List.getElem?_cons_succ] at b0 b1 b2 b3 b4
   go_wp2_with fail
   go_wp2
   have ob6 := obj_five oR2 (.int .i64 0) (.string ⟨#[]⟩) (.slice none 0 0) (.int .i64 0) (.int .i64 0)
   have B6 := b_five q02 (Nat.le_of_eq hRb) (.int .i64 0) (.string ⟨#[]⟩) (.slice none 0 0) (.int .i64 0) (.int .i64 0)
   generalize (((((w2.setCell ⟨R, 0, none⟩ (.int .i64 0)).setCell ⟨R, 1, none⟩ (.string ⟨#[]⟩)).setCell ⟨R, 2, none⟩ (.slice none 0 0)).setCell ⟨R, 3, none⟩ (.int .i64 0)).setCell ⟨R, 4, none⟩ (.int .i64 0)) = W6 at *
   have d0 := obj_cell ob6 0
   have d1 := obj_cell ob6 1
   have d2 := obj_cell ob6 2
   have d3 := obj_cell ob6 3
   have d4 := obj_cell ob6 4
   simp only [List.getElem?_toArray, List.getElem?_cons_zero, List.getElem?_cons_succ] at d0 d1 d2 d3 d4
   exact bodyPost_ret (v := .tuple #[.agg #[.int .i64 0, .string ⟨#[]⟩, .slice none 0 0, .int .i64 0, .int .i64 0], .int .i64 (XA : Int), .int .i64 27]) (by simp [results, Tryd.results38, go_sem, d0, d1, d2, d3, d4]) rfl (.inr ⟨XA, 27, HE.out, rfl, B6⟩)
  have hB : decide (had = 200) = false := decide_eq_false hfull
  rw [hB]
  by_cases hbig : 98 < n
  ·have h96 : decide ((96 : Int) < (m2 : Int)) = true := decide_eq_true (by have := hmm.out; omega)
   have h96N : decide (96 < m2) = true := decide_eq_true (by have := hmm.out; omega)
   have HE : Hid (lineP had (x :: ws) = .error (XA, 27)) := Lib.hid (by rw [hL, if_pos (.inr hbig)])
   clear hL hfull hm hbig
   have b0 := obj_cell oR2 0
   have f0 := obj_free oR2 0
   have b1 := obj_cell oR2 1
   have f1 := obj_free oR2 1
   have b2 := obj_cell oR2 2
   have f2 := obj_free oR2 2
   have b3 := obj_cell oR2 3
   have f3 := obj_free oR2 3
   have b4 := obj_cell oR2 4
   have f4 := obj_free oR2 4
   simp only [List.getElem?_toArray, List.getElem?_cons_zero, List.getElem?_cons_succ] at b0 b1 b2 b3 b4
   go_wp2_with fail
   go_wp2
   have ob6 := obj_five oR2 (.int .i64 0) (.string ⟨#[]⟩) (.slice none 0 0) (.int .i64 0) (.int .i64 0)
   have B6 := b_five q02 (Nat.le_of_eq hRb) (.int .i64 0) (.string ⟨#[]⟩) (.slice none 0 0) (.int .i64 0) (.int .i64 0)
   generalize (((((w2.setCell ⟨R, 0, none⟩ (.int .i64 0)).setCell ⟨R, 1, none⟩ (.string ⟨#[]⟩)).setCell ⟨R, 2, none⟩ (.slice none 0 0)).setCell ⟨R, 3, none⟩ (.int .i64 0)).setCell ⟨R, 4, none⟩ (.int .i64 0)) = W6 at *
   have d0 := obj_cell ob6 0
   have d1 := obj_cell ob6 1
   have d2 := obj_cell ob6 2
   have d3 := obj_cell ob6 3
   have d4 := obj_cell ob6 4
   simp only [List.getElem?_toArray, List.getElem?_cons_zero, List.getElem?_cons_succ] at d0 d1 d2 d3 d4
   exact bodyPost_ret (v := .tuple #[.agg #[.int .i64 0, .string ⟨#[]⟩, .slice none 0 0, .int .i64 0, .int .i64 0], .int .i64 (XA : Int), .int .i64 27]) (by simp [results, Tryd.results38, go_sem, d0, d1, d2, d3, d4]) rfl (.inr ⟨XA, 27, HE.out, rfl, B6⟩)
  have h96 : decide ((96 : Int) < (m2 : Int)) = false := decide_eq_false (by have := hmm.out; omega)
  have h96N : decide (96 < m2) = false := decide_eq_false (by have := hmm.out; omega)
  rw [if_neg (by omega)] at hL
  replace hL := Lib.hid hL
  have qS : B w2 (w2.alloc (.cells #[.int .i64 (k : Int), .string ⟨#[]⟩, .slice none 0 0, .int .i64 0, .int .i64 0] 47)) := (B.refl _).alloc _ _
  have oS := obj_new w2 (.cells #[.int .i64 (k : Int), .string ⟨#[]⟩, .slice none 0 0, .int .i64 0, .int .i64 0] 47)
  have oR3 := qS.obj oR2
  have q03 := q02.trans qS
  have hRS : R ≠ w2.heap.size := fun e => by have := obj_lt oR2; omega
  have hwS : w.heap.size ≤ w2.heap.size := q02.below.size
  have hlc : ¬ lc = 1 := by omega
  clear qS oR2 q02
  go_wp2_with fail
  generalize w2.alloc (.cells #[.int .i64 (k : Int), .string ⟨#[]⟩, .slice none 0 0, .int .i64 0, .int .i64 0] 47) = W3 at *
  generalize hSb : w2.heap.size = S at *
  rw [show n - 1 = m from by have := hnm.out; omega]
  generalize lc - 1 = lc1 at *
  have hU0 : StepU W3 R S (sp0 k) (.slice none 0 0) := ⟨oS, World.ownsRow_nil _ _ _ _⟩
  go_loopw [41] (fun iv wr => ∃ (i : Nat) (s : Sp) (wv : Value), i ≤ m ∧ iv = .int .i64 i ∧ readP k (i + 1) s (ws.drop i) = readP k 1 (sp0 k) ws ∧ s.w.length ≤ i ∧ StepU wr R S s wv ∧ B w wr ∧ wr.heap[R]? = some (.cells #[.int .i64 0, .string ⟨#[]⟩, .slice none 0 0, .int .i64 0, .int .i64 0] 47 (0, 0))) (fun iv _ => m + 1 - (intOf iv).toNat)
  case atStart => exact ⟨0, sp0 k, _, Nat.zero_le _, rfl, rfl, Nat.le_refl _, hU0, q03, oR3⟩
  case round =>
   clear hU0 q03 oR3 oS
   obtain ⟨i, s, wv, hi, rfl, hread, hlen, hU, q, oRi⟩ := hrel
   obtain ⟨wi, rfl⟩ : ∃ wi : World, wi = wr := ⟨_, rfl⟩
   by_cases hl : i < m
   ·have hlB : decide ((i : Int) < (m : Int)) = true := decide_eq_true (by omega)
    have hlN : decide (i < m) = true := decide_eq_true hl
    have hlI : (i : Int) < (m : Int) := by omega
    have hi0' : (0 : Int) ≤ (i : Int) := by omega
    obtain ⟨i1, hi1⟩ : ∃ i1, i + 1 = i1 := ⟨_, rfl⟩
    have wk1 : IntKind.i64.wrap ((i : Int) + 1) = (i1 : Int) := by rw [IntKind.wrap_i64]; omega
    obtain ⟨y, hy⟩ : ∃ y, ws[i]? = some y := ⟨_, List.getElem?_eq_getElem (by omega)⟩
    obtain ⟨z1, z2⟩ := HZ.out (i + 1) y (by simpa using hy)
    have hyt := ht y (List.mem_of_getElem? hy)
    have hstep := readP_step (k := k) (s := s) hy (i + 1)
    rw [hi1] at hread hstep
    obtain ⟨E, hE⟩ : ∃ E, (takeP s (toldP k i1) y.2).2 = E := ⟨_, rfl⟩
    obtain ⟨s', hs'⟩ : ∃ s', (takeP s (toldP k i1) y.2).1 = s' := ⟨_, rfl⟩
    have hslen := takeP_len s (toldP k i1) y.2
    rw [hs'] at hslen
    rw [hE, hs'] at hstep
    have e2 : (i + 1) * 2 = 2 + i * 2 := by omega
    rw [e2] at z1 z2
    replace z1 := q.keep z1
    replace z2 := q.keep z2
    obtain ⟨YA, hYA⟩ : ∃ YA, y.1 = YA := ⟨_, rfl⟩
    rw [hYA] at z1 hstep
    have htold : toldP k i1 ≤ 4 := by unfold toldP; repeat' split
                                      all_goals omega
    have cT := fun wB' (q' : B wi wB') => take_any w wB' (q.trans q') S (by rw [hRb]; omega) s wv (toldP k i1) htold y.2 hyt (by rw [hRb]; exact hU.keep q') (by omega)
    rw [hE, hs', hRb] at cT
    obtain ⟨YS, hYS⟩ : ∃ YS, strB y.2 = YS := ⟨_, rfl⟩
    rw [hYS] at z2 cT
    have qb : B wi (wi.alloc (.cells #[.int .i64 (YA : Int), .string YS] 105)) := (B.refl _).alloc _ _
    have oB := obj_new wi (.cells #[.int .i64 (YA : Int), .string YS] 105)
    have oRB := qb.obj oRi
    have q2 := q.trans qb
    replace cT := fun wB' (q' : B (wi.alloc (.cells #[.int .i64 (YA : Int), .string YS] 105)) wB') => cT wB' (qb.trans q')
    have HH := Lib.hid (And.intro hread (And.intro hstep (And.intro hlen (And.intro hslen (And.intro hl hi1)))))
    have hU2 := hU.keep qb
    have hRB : ¬ R = wi.heap.size := by have := obj_lt oRi; omega
    have hBR : ¬ wi.heap.size = R := fun e => hRB e.symm
    clear hread hstep hlen hslen hl hi hE hs' hYA hYS hy hyt e2 q oRi hU htold qb
    go_wp2_with fail
    generalize (wi.alloc (.cells #[.int .i64 (YA : Int), .string YS] 105)) = wB at *
    generalize wi.heap.size = BB at *
    have y1 : wB.cell? ⟨BB, 1, none⟩ = some (.string YS) := obj_cell oB 1
    have qd : B wB wB.drew := (B.refl _).drew
    clear z1 z2
    by_cases hE0 : E = 0
    ·have hEB : ((E : Int) != 0) = false := by simp; omega
     refine wp_region_noPanic ?_
     refine wp_region_gate (S := fun w' => w'.cell? ⟨BB, 1, none⟩ = some (.string YS) ∧ B wB w') 6 [(0, 3), (1, 3), (2, 3), (4, 3), (5, 0), (3, 2), (6, 4), (7, 3)] [0, 0, 2, 5, 0, 16, 40, 127] [0, 0, 2, 5, 0, 16, 40, 64] [0, 0, 0, 0, 0, 224, 0, 0] (by kernel_rfl) (by kernel_rfl) (fun _ _ _ _ _ h => h) ?_ (fun hH => ?_)
     ·exact ⟨qd.keep y1, qd⟩
     refine wpSeqG_free (d := 46) (v := ?_) rfl rfl (by kernel_rfl) (fun w => ?_) ?_
     rotate_left
     ·go_simp <;> with_reducible rfl
     dsimp only [sZ, sS]
     refine wpSeqG_free (d := 47) (v := ?_) rfl rfl (by kernel_rfl) (fun w => ?_) ?_
     rotate_left
     ·go_simp <;> with_reducible rfl
     dsimp only [sZ, sS]
     refine wpSeqG_free (d := 48) (v := ?_) rfl rfl (by kernel_rfl) (fun w => ?_) ?_
     rotate_left
     ·go_simp <;> with_reducible rfl
     dsimp only [sZ, sS]
     refine wpSeqG_free (d := 50) (v := ?_) rfl rfl (by kernel_rfl) (fun w => ?_) ?_
     rotate_left
     ·go_simp <;> with_reducible rfl
     dsimp only [sZ, sS]
     refine wpSeqG_take (d := 51) (v := ?_) rfl rfl (by kernel_rfl) (fun w hS => ?_) ?_
     rotate_left
     ·go_simp <;> with_reducible rfl
     dsimp only [sZ, sS]
     refine wpSeqG_call rfl (by kernel_rfl) (fun K hK => ?_)
     go_simp
     (with_reducible refine (told_any k i1 hk6 _).mono ?_)
     rintro e w' ⟨rfl, rfl⟩
     refine hK.out _ _ hH fun hH => ?_
     clear hK
     refine wpSeqG_gate rfl (by kernel_rfl) (fun K hK => ?_)
     go_simp
     (with_reducible refine (cT _ hH.2).mono ?_)
     rintro e w' ⟨rfl, hq⟩
     refine hK.out _ _ ?_
     clear hK
     refine wpSeqG_free (d := 13) (v := ?_) rfl rfl (by kernel_rfl) (fun w => ?_) ?_
     rotate_left
     ·go_simp <;> with_reducible rfl
     dsimp only [sZ, sS]
     refine wpSeqG_done ?_
     refine NoPanic.normal ?_
     clear cT
     obtain ⟨wv', hU7⟩ := hq.1 hE0
     have HN := Lib.hid (And.intro hU7 (And.intro (hq.2.1.toB q2.drew (Nat.le_of_eq hRb)) (And.intro (hq.2.2 _ _ hRS oRB) hE0)))
     clear hq hU7 oRB oB y1 q2 qd hU2 hH hE0
     go_wp2
     go_roundw
     case rel => exact ⟨i + 1, s', wv', by have := HH.out.2.2.2.2.1; omega, by rw [HH.out.2.2.2.2.2], by rw [← HH.out.1, HH.out.2.1, if_pos HN.out.2.2.2, HH.out.2.2.2.2.2], by have h1 := HH.out.2.2.1; have h2 := HH.out.2.2.2.1; omega, HN.out.1, HN.out.2.1, HN.out.2.2.1⟩
     case measure => have h1 := HH.out.2.2.2.2.1; have h2 := HH.out.2.2.2.2.2; simp [intOf]; omega
    ·have hEB : ((E : Int) != 0) = true := by simp; omega
     have HE : Hid (lineP had (x :: ws) = .error (YA, E)) := Lib.hid (by rw [hL.out, ← HH.out.1, HH.out.2.1, if_neg hE0])
     clear hE0
     refine wp_region_noPanic ?_
     refine wp_region_gate (S := fun w' => w'.cell? ⟨BB, 1, none⟩ = some (.string YS) ∧ B wB w') 6 [(0, 3), (1, 3), (2, 3), (4, 3), (5, 0), (3, 2), (6, 4), (7, 3)] [0, 0, 2, 5, 0, 16, 40, 127] [0, 0, 2, 5, 0, 16, 40, 64] [0, 0, 0, 0, 0, 224, 0, 0] (by kernel_rfl) (by kernel_rfl) (fun _ _ _ _ _ h => h) ?_ (fun hH => ?_)
     ·exact ⟨qd.keep y1, qd⟩
     refine wpSeqG_free (d := 46) (v := ?_) rfl rfl (by kernel_rfl) (fun w => ?_) ?_
     rotate_left
     ·go_simp <;> with_reducible rfl
     dsimp only [sZ, sS]
     refine wpSeqG_free (d := 47) (v := ?_) rfl rfl (by kernel_rfl) (fun w => ?_) ?_
     rotate_left
     ·go_simp <;> with_reducible rfl
     dsimp only [sZ, sS]
     refine wpSeqG_free (d := 48) (v := ?_) rfl rfl (by kernel_rfl) (fun w => ?_) ?_
     rotate_left
     ·go_simp <;> with_reducible rfl
     dsimp only [sZ, sS]
     refine wpSeqG_free (d := 50) (v := ?_) rfl rfl (by kernel_rfl) (fun w => ?_) ?_
     rotate_left
     ·go_simp <;> with_reducible rfl
     dsimp only [sZ, sS]
     refine wpSeqG_take (d := 51) (v := ?_) rfl rfl (by kernel_rfl) (fun w hS => ?_) ?_
     rotate_left
     ·go_simp <;> with_reducible rfl
     dsimp only [sZ, sS]
     refine wpSeqG_call rfl (by kernel_rfl) (fun K hK => ?_)
     go_simp
     (with_reducible refine (told_any k i1 hk6 _).mono ?_)
     rintro e w' ⟨rfl, rfl⟩
     refine hK.out _ _ hH fun hH => ?_
     clear hK
     refine wpSeqG_gate rfl (by kernel_rfl) (fun K hK => ?_)
     go_simp
     (with_reducible refine (cT _ hH.2).mono ?_)
     rintro e w' ⟨rfl, hq⟩
     refine hK.out _ _ ?_
     clear hK
     refine wpSeqG_free (d := 13) (v := ?_) rfl rfl (by kernel_rfl) (fun w => ?_) ?_
     rotate_left
     ·go_simp <;> with_reducible rfl
     dsimp only [sZ, sS]
     refine wpSeqG_done ?_
     refine NoPanic.normal ?_
     clear cT
     have oR7 := hq.2.2 _ _ hRS oRB
     have oB7 := hq.2.1.objc oB (by decide)
     have q7 := hq.2.1.toB q2.drew (Nat.le_of_eq hRb)
     have y0 : w'.cell? ⟨BB, 0, none⟩ = some (.int .i64 (YA : Int)) := obj_cell oB7 0
     have b0 := obj_cell oR7 0
     have f0 := obj_free oR7 0
     have b1 := obj_cell oR7 1
     have f1 := obj_free oR7 1
     have b2 := obj_cell oR7 2
     have f2 := obj_free oR7 2
     have b3 := obj_cell oR7 3
     have f3 := obj_free oR7 3
     have b4 := obj_cell oR7 4
     have f4 := obj_free oR7 4
     simp only [List.getElem?_toArray, List.getElem?_cons_zero, List.getElem?_cons_succ] at b0 b1 b2 b3 b4
     clear hq oB7 y1 oRB oB qd hU2 q2 hH
     go_wp2_with fail
     go_region
     go_wp2
     have ob6 := obj_five oR7 (.int .i64 0) (.string ⟨#[]⟩) (.slice none 0 0) (.int .i64 0) (.int .i64 0)
     have B6 := b_five q7 (Nat.le_of_eq hRb) (.int .i64 0) (.string ⟨#[]⟩) (.slice none 0 0) (.int .i64 0) (.int .i64 0)
     generalize (((((w'.setCell ⟨R, 0, none⟩ (.int .i64 0)).setCell ⟨R, 1, none⟩ (.string ⟨#[]⟩)).setCell ⟨R, 2, none⟩ (.slice none 0 0)).setCell ⟨R, 3, none⟩ (.int .i64 0)).setCell ⟨R, 4, none⟩ (.int .i64 0)) = W6 at *
     have d0 := obj_cell ob6 0
     have d1 := obj_cell ob6 1
     have d2 := obj_cell ob6 2
     have d3 := obj_cell ob6 3
     have d4 := obj_cell ob6 4
     simp only [List.getElem?_toArray, List.getElem?_cons_zero, List.getElem?_cons_succ] at d0 d1 d2 d3 d4
     exact bodyPost_ret (v := .tuple #[.agg #[.int .i64 0, .string ⟨#[]⟩, .slice none 0 0, .int .i64 0, .int .i64 0], .int .i64 (YA : Int), .int .i64 (E : Int)]) (by simp [results, Tryd.results38, go_sem, d0, d1, d2, d3, d4]) rfl (.inr ⟨YA, E, HE.out, rfl, B6.drew⟩)
   ·have hlB : decide ((i : Int) < (m : Int)) = false := decide_eq_false (by omega)
    have hlN : decide (i < m) = false := decide_eq_false hl
    have HE : Hid (lineP had (x :: ws) = .ok s) := Lib.hid (by rw [hL.out, ← hread, List.drop_eq_nil_of_le (by omega)]; rfl)
    obtain ⟨K, N, WS, V, M⟩ := s
    obtain ⟨oSi, hrow⟩ := hU
    simp only at oSi hrow
    obtain ⟨so, sc, rfl⟩ := own_slice hrow
    have p0 := obj_cell oSi 0
    have p1 := obj_cell oSi 1
    have p2 := obj_cell oSi 2
    have p3 := obj_cell oSi 3
    have p4 := obj_cell oSi 4
    simp only [List.getElem?_toArray, List.getElem?_cons_zero, List.getElem?_cons_succ] at p0 p1 p2 p3 p4
    obtain ⟨oR9, hoR9⟩ : ∃ z : Unit, True := ⟨(), trivial⟩
    clear oR9 hoR9
    have oR9 := oRi
    have hsn : S ≠ R := fun e => hRS e.symm
    have b0 := obj_cell oR9 0
    have f0 := obj_free oR9 0
    have b1 := obj_cell oR9 1
    have f1 := obj_free oR9 1
    have b2 := obj_cell oR9 2
    have f2 := obj_free oR9 2
    have b3 := obj_cell oR9 3
    have f3 := obj_free oR9 3
    have b4 := obj_cell oR9 4
    have f4 := obj_free oR9 4
    simp only [List.getElem?_toArray, List.getElem?_cons_zero, List.getElem?_cons_succ] at b0 b1 b2 b3 b4
    obtain ⟨wl, hwl⟩ : ∃ wl, WS.length = wl := ⟨_, rfl⟩
    have HX := Lib.hid (And.intro hrow oSi)
    rw [hwl] at p2
    clear hread hlen hl hi oSi hrow oRi
    go_wp2_with fail
    go_wp2
    have ob6 := obj_five oR9 (.int .i64 K) (.string N) (.slice so wl sc) (.int .i64 V) (.int .i64 M)
    have B6 := b_five q (Nat.le_of_eq hRb) (.int .i64 K) (.string N) (.slice so wl sc) (.int .i64 V) (.int .i64 M)
    have HR6 := Lib.hid (ownsRow_set (ownsRow_set (ownsRow_set (ownsRow_set (ownsRow_set HX.out.1 oR9 (by decide) 0 (.int .i64 K)) (obj_set oR9 0 _) (by decide) 1 (.string N)) (obj_set (obj_set oR9 0 _) 1 _) (by decide) 2 (.slice so wl sc)) (obj_set (obj_set (obj_set oR9 0 _) 1 _) 2 _) (by decide) 3 (.int .i64 V)) (obj_set (obj_set (obj_set (obj_set oR9 0 _) 1 _) 2 _) 3 _) (by decide) 4 (.int .i64 M))
    generalize (((((wi.setCell ⟨R, 0, none⟩ (.int .i64 K)).setCell ⟨R, 1, none⟩ (.string N)).setCell ⟨R, 2, none⟩ (.slice so wl sc)).setCell ⟨R, 3, none⟩ (.int .i64 V)).setCell ⟨R, 4, none⟩ (.int .i64 M)) = W6 at *
    have d0 := obj_cell ob6 0
    have d1 := obj_cell ob6 1
    have d2 := obj_cell ob6 2
    have d3 := obj_cell ob6 3
    have d4 := obj_cell ob6 4
    simp only [List.getElem?_toArray, List.getElem?_cons_zero, List.getElem?_cons_succ] at d0 d1 d2 d3 d4
    exact bodyPost_ret (v := .tuple #[.agg #[.int .i64 K, .string N, .slice so wl sc, .int .i64 V, .int .i64 M], .int .i64 0, .int .i64 0]) (by simp [results, Tryd.results38, go_sem, d0, d1, d2, d3, d4]) rfl (.inl ⟨⟨K, N, WS, V, M⟩, .slice so WS.length sc, HE.out, (by rw [hwl]), (by rw [hRb]; exact HR6.out), B6⟩)
end Go.Proofs.YthlileddhgglnaaDoor
namespace Go.Proofs.YthlileddhgglnaaDoor
open Go.RowKit
set_option linter.unusedVariables false
theorem intInfoP : (Tryd.prog.info? 3).map (fun i => (i.zero, i.size, i.bytes)) = some (some (.int .i64 0), 1, 8) := by kernel_rfl
theorem flatI_snoc (l : List Nat) (x : Nat) : flatI (l ++ [x]) = flatI l ++ [.int .i64 ((x : Nat) : Int)] := by simp [flatI]
set_option maxRecDepth 100000 in
set_option maxHeartbeats 4000000 in
theorem offsets_any (v : Value) (x : Wd) (ws : List Wd) (w : World) (h : IsWords w v (x :: ws)) (hz : ws.length ≤ 65536) : Calls Tryd.prog 39 #[v] w fun e w' => ∃ u, e = .returned u ∧ w'.ownsRow w.heap.size 3 1 u (x :: ws).length (flatI ((x :: ws).map (·.1))) ∧ B w w' := by
 obtain ⟨i0, hi0, hz0, hz1, hz2⟩ := info_of intInfoP
 obtain ⟨g, lc, rfl, hle, hm, hlt, z⟩ := h.full (by simp)
 have hL : (x :: ws).length ≤ 65537 := by simp; omega
 generalize x :: ws = L at *
 obtain ⟨n, hn⟩ : ∃ n, L.length = n := ⟨_, rfl⟩
 have hnz : n ≤ 65537 := by omega
 rw [hn] at hle ⊢
 have hb16 : i0.bytes * n ≤ 281474976710656 := by rw [hz2]; omega
 have hbml : n ≤ maxLen := by unfold maxLen; omega
 have hw0 : g < w.heap.size := hlt
 clear h hz hlt hle
 go_enter Tryd.func39, Tryd.ntmps39
 go_wp2_with (at_make; refine wpList_make_own _ rfl _ _ 88 rfl w.heap.size 3 i0 _ 1 Tryd.underlying88 hi0 hz0 hz1 .i64 .i64 _ n rfl rfl rfl hb16 hbml (Nat.le_refl _) ?_; intro wm hrow hgrow; have qm := (B.refl w).grownBy hgrow (fun _ h => by cases h); clear hgrow)
 generalize hgg : w.heap.size = b0 at *
 obtain ⟨W, rfl⟩ : ∃ W : World, W = wm := ⟨_, rfl⟩
 go_loopw [3, 11] (fun av iv wr => ∃ (i c gr : Nat), i ≤ n ∧ iv = .int .i64 i ∧ av = .slice (some ⟨gr, 0, none⟩) i c ∧ wr.ownsRow b0 3 1 (.slice (some ⟨gr, 0, none⟩) i c) i (flatI ((L.take i).map (·.1))) ∧ B w wr) (fun _ iv _ => n + 1 - (intOf iv).toNat)
 case atStart => exact ⟨0, n, b0, Nat.zero_le _, rfl, rfl, hrow, qm⟩
 case round =>
  clear hrow qm
  obtain ⟨i, c, gr, hi, rfl, rfl, hown, q⟩ := hrel
  obtain ⟨wi, rfl⟩ : ∃ wi : World, wi = wr := ⟨_, rfl⟩
  by_cases hl : i < n
  ·have hlB : decide ((i : Int) < (n : Int)) = true := decide_eq_true (by omega)
   have hlN : decide (i < n) = true := decide_eq_true hl
   have hlI : (i : Int) < (n : Int) := by omega
   have hi0' : (0 : Int) ≤ (i : Int) := by omega
   have wk1 : IntKind.i64.wrap ((i : Int) + 1) = (i : Int) + 1 := by rw [IntKind.wrap_i64]; omega
   obtain ⟨y, hy⟩ : ∃ y, L[i]? = some y := ⟨_, List.getElem?_eq_getElem (by omega)⟩
   obtain ⟨z1, z2⟩ := z i y hy
   replace z1 := q.keep z1
   replace z2 := q.keep z2
   have hup : flatI ((L.take i).map (·.1)) ++ [.int .i64 ((y.1 : Nat) : Int)] = flatI ((L.take (i + 1)).map (·.1)) := by
    rw [List.take_add_one, hy, List.map_append, Option.toList_some, List.map_cons, List.map_nil, flatI_snoc]
   obtain ⟨YA, hYA⟩ : ∃ YA, y.1 = YA := ⟨_, rfl⟩
   rw [hYA] at z1 hup
   have HU := Lib.hid (And.intro hup hl)
   have qb : B wi (wi.alloc (.cells #[.int .i64 (YA : Int), .string (strB y.2)] 105)) := (B.refl _).alloc _ _
   have oB := obj_new wi (.cells #[.int .i64 (YA : Int), .string (strB y.2)] 105)
   have hownB := row_keep hown qb
   have q2 := q.trans qb
   have hbs := q.below.size
   have qc : B (wi.alloc (.cells #[.int .i64 (YA : Int), .string (strB y.2)] 105)) ((wi.alloc (.cells #[.int .i64 (YA : Int), .string (strB y.2)] 105)).alloc (.cells #[.int .i64 (YA : Int)] 3)) := (B.refl _).alloc _ _
   have own3 := row_keep hownB qc
   have q3 := q2.trans qc
   have hb3 : b0 ≤ ((wi.alloc (.cells #[.int .i64 (YA : Int), .string (strB y.2)] 105)).alloc (.cells #[.int .i64 (YA : Int)] 3)).heap.size := by have := q3.below.size; omega
   clear hup hy hYA hl z hn qb oB hownB q2 qc hown q hbs
   go_wp2_with (at_builtin; refine wpList_append_lies _ rfl _ _ 88 rfl b0 3 i0 _ 1 8 Tryd.underlying88 hi0 hz0 hz1 hz2 rfl (by omega) (.slice (some ⟨gr, 0, none⟩) i c) i (flatI ((L.take i).map (·.1))) rfl own3 ⟨_, 0, none⟩ 1 1 [.int .i64 (YA : Int)] rfl rfl (newest (by simp)) (fun u hu => by simp at hu; rw [hu]; rfl) (by omega) (by unfold maxLen; omega) (by omega) hb3 _ rfl ?_; intro gb cp W4 hown4 hgrow hat4 hlt4; have B4 := q3.grownBy hgrow (fun x hx => (by rw [hgg]; exact (own3.lt x hx).1)); rw [HU.out.1] at hown4; clear hgrow hat4 hlt4 own3 q3 hb3; replace B4 := Lib.hid B4; go_wp2_with fail)
   exact ⟨⟨i + 1, cp, gb, by have := HU.out.2; omega, by go_num, rfl, hown4, B4.out⟩, by have := HU.out.2; simp [intOf]; omega⟩
  ·have hlB : decide ((i : Int) < (n : Int)) = false := decide_eq_false (by omega)
   have hlN : decide (i < n) = false := decide_eq_false hl
   obtain rfl : i = n := by omega
   rw [List.take_of_length_le (by omega)] at hown
   have HZ := Lib.hid (And.intro hown q)
   clear hown q hl hi
   go_wp2
   go_ret
   refine ⟨_, rfl, ?_, HZ.out.2⟩
   rw [hgg]
   exact HZ.out.1
end Go.Proofs.YthlileddhgglnaaDoor
namespace Go.Proofs.YthlileddhgglnaaDoor
open Go.RowKit
set_option linter.unusedVariables false
def Sp.cells (s : Sp) (u : Value) : List Value := [.int .i64 s.k, .string s.n, u, .int .i64 s.v, .int .i64 s.m]
def flatSp : List Sp → List Value → List Value
 | s :: SS, u :: vs => s.cells u ++ flatSp SS vs
 | _, _ => []
theorem flatSp_snoc : ∀ (SS : List Sp) (vs : List Value) (s : Sp) (u : Value), vs.length = SS.length → flatSp (SS ++ [s]) (vs ++ [u]) = flatSp SS vs ++ s.cells u
 | [], [], s, u, _ => by simp [flatSp]
 | [], _ :: _, s, u, h => by simp at h
 | _ :: _, [], s, u, h => by simp at h
 | t :: SS, v :: vs, s, u, h => by
  show t.cells v ++ flatSp (SS ++ [s]) (vs ++ [u]) = _
  rw [flatSp_snoc SS vs s u (by simpa using h), ← List.append_assoc]
  rfl
theorem flatSp_get : ∀ (SS : List Sp) (vs : List Value) (i k : Nat) (s : Sp) (u : Value), vs.length = SS.length → SS[i]? = some s → vs[i]? = some u → k < 5 → (flatSp SS vs)[i * 5 + k]? = (s.cells u)[k]?
 | [], _, i, k, s, u, _, h, _, _ => by simp at h
 | _ :: _, [], i, k, s, u, h, _, _, _ => by simp at h
 | t :: SS, v :: vs, 0, k, s, u, h, h1, h2, hk => by
  simp only [List.getElem?_cons_zero, Option.some.injEq] at h1 h2
  subst h1 h2
  show (t.cells v ++ flatSp SS vs)[0 * 5 + k]? = _
  rw [List.getElem?_append_left (by show 0 * 5 + k < 5; omega), Nat.zero_mul, Nat.zero_add]
 | t :: SS, v :: vs, i + 1, k, s, u, h, h1, h2, hk => by
  simp only [List.getElem?_cons_succ] at h1 h2
  show (t.cells v ++ flatSp SS vs)[(i + 1) * 5 + k]? = _
  rw [List.getElem?_append_right (by show 5 ≤ (i + 1) * 5 + k; omega), show (i + 1) * 5 + k - (t.cells v).length = i * 5 + k by show (i + 1) * 5 + k - 5 = _; omega]
  exact flatSp_get SS vs i k s u (by simpa using h) h1 h2 hk
theorem IsWps.block {w w' : World} {v : Value} {L : List Wp} (h : IsWps w v L) (hb : ∀ b, v.ownBlock = some b → b < w.heap.size → w'.heap[b]? = w.heap[b]?) : IsWps w' v L := by
 rcases h with h | ⟨a, cap, rfl, h2, h3, h4⟩
 ·exact .inl h
 ·refine .inr ⟨a, cap, rfl, h2, h3, fun i f hf => ?_⟩
  obtain ⟨k1, k2, k3⟩ := h4 i f hf
  have hlt := World.block_lt_of_cell? w _ k1
  have hab : (a.add (i * 3)).block = a.block := by unfold Addr.add; split <;> rfl
  rw [hab] at hlt
  have e := hb a.block rfl hlt
  have e' : w'.heap[(a.add (i * 3)).block]? = w.heap[(a.add (i * 3)).block]? := by rw [hab]; exact e
  exact ⟨(World.cell?_of_block (a := a.add (i * 3)) e').trans k1, (World.cell?_of_block (a := ⟨(a.add (i * 3)).block, (a.add (i * 3)).off + 1, none⟩) e').trans k2, (World.cell?_of_block (a := ⟨(a.add (i * 3)).block, (a.add (i * 3)).off + 2, none⟩) e').trans k3⟩
structure StepsO (w : World) (base : Nat) (e : TypeId) (v : Value) (SS : List Sp) (vs : List Value) : Prop where
 len : vs.length = SS.length
 own : w.ownsRow base e 5 v SS.length (flatSp SS vs)
 row : ∀ (j : Nat) u s, vs[j]? = some u → SS[j]? = some s → IsWps w u s.w ∧ ∀ b, u.ownBlock = some b → v.ownBlock ≠ some b ∧ b < w.heap.size
theorem StepsO.keep {w w' : World} {base : Nat} {e : TypeId} {v : Value} {SS : List Sp} {vs : List Value} (h : StepsO w base e v SS vs) (q : B w w') : StepsO w' base e v SS vs :=
 ⟨h.len, row_keep h.own q, fun j u s hu hs => by
  obtain ⟨h1, h2⟩ := h.row j u s hu hs
  exact ⟨h1.keepB q, fun b hb => ⟨(h2 b hb).1, Nat.lt_of_lt_of_le (h2 b hb).2 q.below.size⟩⟩⟩
theorem StepsO.is {w : World} {base : Nat} {e : TypeId} {v : Value} {SS : List Sp} {vs : List Value} (h : StepsO w base e v SS vs) : IsSps w v SS := by
 have hown := h.own
 rcases hown.2 with ⟨h0, h1⟩ | ⟨g, cap, cur, rfl, _, _, h1, h2, _⟩
 ·exact .inl ⟨h0, List.length_eq_zero_iff.1 (by omega)⟩
 ·refine .inr ⟨⟨g, 0, none⟩, cap, rfl, h1, h2, fun i s hs => ?_⟩
  have hi : i < SS.length := (List.getElem?_eq_some_iff.1 hs).1
  obtain ⟨u, hu⟩ : ∃ u, vs[i]? = some u := ⟨_, List.getElem?_eq_getElem (by rw [h.len]; exact hi)⟩
  have hc : ∀ k, k < 5 → w.cell? ⟨g, i * 5 + k, none⟩ = (s.cells u)[k]? := fun k hk => by
   rw [h.own.cellAt (i * 5 + k) (by omega)]
   exact flatSp_get SS vs i k s u h.len hs hu hk
  have ha : (⟨g, 0, none⟩ : Addr).add (i * 5) = ⟨g, i * 5, none⟩ := addz g (i * 5)
  rw [ha]
  exact ⟨hc 0 (by omega), hc 1 (by omega), ⟨u, hc 2 (by omega), (h.row i u s hu hs).1⟩, hc 3 (by omega), hc 4 (by omega)⟩
end Go.Proofs.YthlileddhgglnaaDoor
namespace Go.Proofs.YthlileddhgglnaaDoor
open Go.RowKit
set_option linter.unusedVariables false
theorem stepInfoP : (Tryd.prog.info? 47).map (fun i => (i.zero, i.size, i.bytes)) = some (some (.agg #[.int .i64 0, .string ⟨#[]⟩, .slice none 0 0, .int .i64 0, .int .i64 0]), 5, 64) := by kernel_rfl
theorem intsInfoP : (Tryd.prog.info? 88).map (fun i => (i.zero, i.size, i.bytes)) = some (some (.slice none 0 0), 1, 24) := by kernel_rfl
theorem own_grownU {w w' : World} {b1 b2 : Nat} {e1 e2 : TypeId} {s1 s2 n1 n2 : Nat} {v1 v2 : Value} {x1 x2 : List Value} (h : w.ownsRow b1 e1 s1 v1 n1 x1) (hg : w.grownBy w' v2.ownBlock) (hr : w.ownsRow b2 e2 s2 v2 n2 x2) (he : e1 ≠ e2) : w'.ownsRow b1 e1 s1 v1 n1 x1 := by
 refine ⟨h.1, ?_⟩
 rcases h.2 with hn | ⟨g, cap, cur, rfl, hb, ho, rest⟩
 ·exact .inl hn
 ·exact .inr ⟨g, cap, cur, rfl, hb, obj_grown hg ho (far_ownU ho hr he), rest⟩
theorem own_lowU {w : World} {base base' : Nat} {e : TypeId} {size n : Nat} {v : Value} {xs : List Value} (h : w.ownsRow base e size v n xs) (hb : base' ≤ base) : w.ownsRow base' e size v n xs := by
 refine ⟨h.1, ?_⟩
 rcases h.2 with hn | ⟨g, cap, cur, rfl, hbg, rest⟩
 ·exact .inl hn
 ·exact .inr ⟨g, cap, cur, rfl, Nat.le_trans hb hbg, rest⟩
theorem results_tmp4 {fn : Func} {t u v x : Tmp} (h : fn.results = #[.tmp t, .tmp u, .tmp v, .tmp x]) (tmps : Array Value) (P : Program) (w : World) :
  (results fn tmps).run P w = .ok (.tuple #[tmps.getD t undef, tmps.getD u undef, tmps.getD v undef, tmps.getD x undef]) w := by
 simp [results, h]
structure StP (w : World) (base : Nat) (sv : Value) (S : List Sp) (vs : List Value) (ov : Value) (P : List (List Nat)) (us : List Value) : Prop where
 sl : vs.length = S.length
 so : w.ownsRow base 47 5 sv S.length (flatSp S vs)
 sr : ∀ (j : Nat) u s, vs[j]? = some u → S[j]? = some s → w.ownsRow base 49 3 u s.w.length (flatWp s.w)
 pl : us.length = P.length
 po : w.ownsRow base 88 1 ov P.length us
 pr : ∀ (j : Nat) u l, us[j]? = some u → P[j]? = some l → w.ownsRow base 3 1 u l.length (flatI l)
theorem StP.nil (w : World) (base : Nat) : StP w base (.slice none 0 0) [] [] (.slice none 0 0) [] [] :=
 ⟨rfl, World.ownsRow_nil _ _ _ _, fun j u s h => by simp at h, rfl, World.ownsRow_nil _ _ _ _, fun j u s h => by simp at h⟩
section
variable {w w' : World} {base : Nat} {sv ov : Value} {S : List Sp} {vs us : List Value} {P : List (List Nat)}
theorem StP.keep (h : StP w base sv S vs ov P us) (q : B w w') : StP w' base sv S vs ov P us :=
 ⟨h.sl, row_keep h.so q, fun j u s hu hs => row_keep (h.sr j u s hu hs) q, h.pl, row_keep h.po q, fun j u s hu hs => row_keep (h.pr j u s hu hs) q⟩
theorem snoc_at {α : Type} {l : List α} {a x : α} {j n : Nat} (hn : l.length = n) (h : (l ++ [a])[j]? = some x) : (j < n ∧ l[j]? = some x) ∨ (j = n ∧ a = x) := by
 have hj := (List.getElem?_eq_some_iff.1 h).1
 rw [List.length_append, List.length_cons, List.length_nil] at hj
 rcases Nat.lt_or_ge j l.length with hlt | hge
 ·rw [List.getElem?_append_left hlt] at h
  exact .inl ⟨by omega, h⟩
 ·obtain rfl : j = l.length := by omega
  rw [List.getElem?_append_right (Nat.le_refl _), Nat.sub_self] at h
  exact .inr ⟨hn, by simpa using h⟩
theorem StP.addS (h : StP w base sv S vs ov P us) {sv' u : Value} {s : Sp} (hg : w.grownBy w' sv.ownBlock) (ho : w'.ownsRow base 47 5 sv' (S.length + 1) (flatSp S vs ++ s.cells u)) (hu : w.ownsRow base 49 3 u s.w.length (flatWp s.w)) :
  StP w' base sv' (S ++ [s]) (vs ++ [u]) ov P us := by
 refine ⟨by simp [h.sl], ?_, fun j u' s' h1 h2 => ?_, h.pl, own_grownU h.po hg h.so (by decide), fun j u' l' h1 h2 => own_grownU (h.pr j u' l' h1 h2) hg h.so (by decide)⟩
 ·rw [flatSp_snoc _ _ _ _ h.sl, List.length_append]
  exact ho
 ·rcases snoc_at h.sl h1 with ⟨a1, a2⟩ | ⟨a1, rfl⟩
  ·rcases snoc_at rfl h2 with ⟨b1, b2⟩ | ⟨b1, rfl⟩
   ·exact own_grownU (h.sr j u' s' a2 b2) hg h.so (by decide)
   ·omega
  ·rcases snoc_at rfl h2 with ⟨b1, b2⟩ | ⟨b1, rfl⟩
   ·omega
   ·exact own_grownU hu hg h.so (by decide)
theorem StP.addP (h : StP w base sv S vs ov P us) {ov' u : Value} {l : List Nat} (hg : w.grownBy w' ov.ownBlock) (ho : w'.ownsRow base 88 1 ov' (P.length + 1) (us ++ [u])) (hu : w.ownsRow base 3 1 u l.length (flatI l)) :
  StP w' base sv S vs ov' (P ++ [l]) (us ++ [u]) := by
 refine ⟨h.sl, own_grownU h.so hg h.po (by decide), fun j u' s' h1 h2 => own_grownU (h.sr j u' s' h1 h2) hg h.po (by decide), by simp [h.pl], ?_, fun j u' s' h1 h2 => ?_⟩
 ·rw [List.length_append]
  exact ho
 ·rcases snoc_at h.pl h1 with ⟨a1, a2⟩ | ⟨a1, rfl⟩
  ·rcases snoc_at rfl h2 with ⟨b1, b2⟩ | ⟨b1, rfl⟩
   ·exact own_grownU (h.pr j u' s' a2 b2) hg h.po (by decide)
   ·omega
  ·rcases snoc_at rfl h2 with ⟨b1, b2⟩ | ⟨b1, rfl⟩
   ·omega
   ·exact own_grownU hu hg h.po (by decide)
theorem StP.isS (h : StP w base sv S vs ov P us) : IsSps w sv S := by
 have hown := h.so
 rcases hown.2 with ⟨h0, h1⟩ | ⟨g, cap, cur, rfl, _, _, h1, h2, _⟩
 ·exact .inl ⟨h0, List.length_eq_zero_iff.1 (by omega)⟩
 ·refine .inr ⟨⟨g, 0, none⟩, cap, rfl, h1, h2, fun i s hs => ?_⟩
  have hi : i < S.length := (List.getElem?_eq_some_iff.1 hs).1
  obtain ⟨u, hu⟩ : ∃ u, vs[i]? = some u := ⟨_, List.getElem?_eq_getElem (by rw [h.sl]; exact hi)⟩
  have hc : ∀ k, k < 5 → w.cell? ⟨g, i * 5 + k, none⟩ = (s.cells u)[k]? := fun k hk => by
   rw [h.so.cellAt (i * 5 + k) (by omega)]
   exact flatSp_get S vs i k s u h.sl hs hu hk
  have ha : (⟨g, 0, none⟩ : Addr).add (i * 5) = ⟨g, i * 5, none⟩ := addz g (i * 5)
  rw [ha]
  exact ⟨hc 0 (by omega), hc 1 (by omega), ⟨u, hc 2 (by omega), isWps_own (h.sr i u s hu hs)⟩, hc 3 (by omega), hc 4 (by omega)⟩
theorem StP.isP (h : StP w base sv S vs ov P us) : IsPls w ov P := by
 have hown := h.po
 rcases hown.2 with ⟨h0, h1⟩ | ⟨g, cap, cur, rfl, _, _, h1, h2, _⟩
 ·exact .inl ⟨h0, List.length_eq_zero_iff.1 (by omega)⟩
 ·refine .inr ⟨g, cap, rfl, h1, h2, fun i l hl => ?_⟩
  have hi : i < P.length := (List.getElem?_eq_some_iff.1 hl).1
  obtain ⟨u, hu⟩ : ∃ u, us[i]? = some u := ⟨_, List.getElem?_eq_getElem (by rw [h.pl]; exact hi)⟩
  exact ⟨u, by rw [h.po.cellAt i (by omega)]; exact hu, isIs_own (h.pr i u l hu hl)⟩
end
def ProtoRes (LL : List (List Wd)) (w : World) (e : Ending) (w' : World) : Prop :=
 (∃ S sv ov, parseP LL [] = .ok S ∧ e = .returned (.tuple #[sv, ov, .int .i64 0, .int .i64 0]) ∧ IsSps w' sv S ∧ IsPls w' ov (placesP LL) ∧ B w w') ∨
 (∃ p n : Nat, parseP LL [] = .error (p, n) ∧ e = .returned (.tuple #[.slice none 0 0, .slice none 0 0, .int .i64 (p : Int), .int .i64 (n : Int)]) ∧ B w w')
end Go.Proofs.YthlileddhgglnaaDoor
namespace Go.Proofs.YthlileddhgglnaaDoor
open Go.RowKit
def IsLnO (w : World) (v : Value) (LL : List (List Wd)) : Prop :=
 (v = .slice none 0 0 ∧ LL = []) ∨
 ∃ g o cap, v = .slice (some ⟨g, o, none⟩) LL.length cap ∧ LL.length ≤ cap ∧ cap ≤ maxLen ∧ ∀ i L, LL[i]? = some L → ∃ u, w.cell? ⟨g, o + i, none⟩ = some u ∧ IsWords w u L
theorem IsLnO.keep {w w' : World} {v : Value} {LL : List (List Wd)} (h : IsLnO w v LL) (q : B w w') : IsLnO w' v LL := by
 rcases h with h | ⟨g, o, cap, h1, h2, h3, h4⟩
 ·exact .inl h
 ·exact .inr ⟨g, o, cap, h1, h2, h3, fun i L hL => let ⟨u, k1, k2⟩ := h4 i L hL; ⟨u, q.keep k1, k2.keep q⟩⟩
theorem IsLnO.form {w : World} {v : Value} {LL : List (List Wd)} (h : IsLnO w v LL) : ∃ ao cap, v = .slice ao LL.length cap := by
 rcases h with ⟨rfl, rfl⟩ | ⟨g, o, cap, rfl, _⟩ <;> exact ⟨_, _, rfl⟩
theorem IsLnO.at_ {w : World} {v : Value} {LL : List (List Wd)} (h : IsLnO w v LL) {i : Nat} (hi : i < LL.length) : ∃ g o cap u, v = .slice (some ⟨g, o, none⟩) LL.length cap ∧ w.cell? ⟨g, o + i, none⟩ = some u ∧ IsWords w u LL[i] := by
 rcases h with ⟨_, rfl⟩ | ⟨g, o, cap, h1, _, _, h4⟩
 ·simp at hi
 ·obtain ⟨u, k1, k2⟩ := h4 i _ (List.getElem?_eq_getElem hi)
  exact ⟨g, o, cap, u, h1, k1, k2⟩
theorem IsLines.lnO {w : World} {v : Value} {LL : List (List Wd)} (h : IsLines w v LL) : IsLnO w v LL := by
 rcases h with h | ⟨g, cap, h1, h2, h3, h4⟩
 ·exact .inl h
 ·exact .inr ⟨g, 0, cap, h1, h2, h3, fun i L hL => by rw [Nat.zero_add]; exact h4 i L hL⟩
theorem IsLnO.drop {w : World} {g o cap : Nat} {LL : List (List Wd)} (h : IsLnO w (.slice (some ⟨g, o, none⟩) LL.length cap) LL) {k : Nat} (hk : k ≤ LL.length) :
  IsLnO w (.slice (some ⟨g, o + k, none⟩) (LL.length - k) (cap - k)) (LL.drop k) := by
 rcases h with ⟨e, _⟩ | ⟨g', o', cap', e, h2, h3, h4⟩
 ·simp at e
 ·obtain ⟨⟨rfl, rfl⟩, rfl⟩ : (g = g' ∧ o = o') ∧ cap = cap' := by simpa using e
  refine .inr ⟨g, o + k, cap - k, by rw [List.length_drop], by rw [List.length_drop]; omega, by omega, fun i L hL => ?_⟩
  rw [List.getElem?_drop] at hL
  obtain ⟨u, k1, k2⟩ := h4 _ L hL
  exact ⟨u, by rw [show o + k + i = o + (k + i) by omega]; exact k1, k2⟩
end Go.Proofs.YthlileddhgglnaaDoor
namespace Go.Proofs.YthlileddhgglnaaDoor
open Go.RowKit
set_option linter.unusedVariables false
theorem protoRes_err {LL : List (List Wd)} {w w' : World} {p n : Nat} (h : parseP LL [] = .error (p, n)) (q : B w w') : ProtoRes LL w (.returned (.tuple #[.slice none 0 0, .slice none 0 0, .int .i64 (p : Int), .int .i64 (n : Int)])) w' := .inr ⟨p, n, h, rfl, q⟩
theorem protoRes_ok {LL : List (List Wd)} {w w' : World} {base : Nat} {S : List Sp} {sv ov : Value} {vs us : List Value} (h : parseP LL [] = .ok S) (hS : StP w' base sv S vs ov (placesP LL) us) (q : B w w') : ProtoRes LL w (.returned (.tuple #[sv, ov, .int .i64 0, .int .i64 0])) w' := .inl ⟨S, sv, ov, h, rfl, hS.isS, hS.isP, q⟩
set_option maxRecDepth 100000 in
set_option maxHeartbeats 600000 in
theorem pparse_any (v : Value) (LL : List (List Wd)) (w : World) (h : IsLnO w v LL) (hL : LL.length ≤ 65536) (hws : ∀ ws ∈ LL, ws.length ≤ 65536) (hlong : ∀ ws ∈ LL, ∀ x ∈ ws, x.2.length ≤ 65536) : Calls Tryd.prog 16 #[v] w (ProtoRes LL w) := by
 obtain ⟨i0, hi0, hz0, hz1, hz2⟩ := info_of stepInfoP
 obtain ⟨i1, hi1, hy0, hy1, hy2⟩ := info_of intsInfoP
 obtain ⟨lo, lc, rfl⟩ := h.form
 obtain ⟨ln, hln⟩ : ∃ ln, LL.length = ln := ⟨_, rfl⟩
 have HI := Lib.hid h
 clear h
 rw [hln]
 obtain ⟨R, hRb⟩ : ∃ R, w.heap.size = R := ⟨_, rfl⟩
 have hRB := Lib.hid hRb
 clear hRb
 go_enter Tryd.func16, Tryd.ntmps16
 go_wp2_with fail
 go_loopw [6, 7, 15] (fun sv ov iv wr => ∃ (i ns np : Nat) (so po : Option Addr) (sc pc : Nat) (S : List Sp) (vs us : List Value), i ≤ ln ∧ iv = .int .i64 i ∧ sv = .slice so ns sc ∧ ov = .slice po np pc ∧ StP wr R (.slice so ns sc) S vs (.slice po np pc) (placesP (LL.take i)) us ∧ S.length = ns ∧ (placesP (LL.take i)).length = np ∧ ns ≤ 200 ∧ parseP LL [] = parseP (LL.drop i) S ∧ B w wr) (fun _ _ iv _ => ln + 1 - (intOf iv).toNat)
 case atStart => exact ⟨0, 0, 0, none, none, 0, 0, [], [], [], Nat.zero_le _, rfl, rfl, rfl, StP.nil _ _, rfl, rfl, by omega, rfl, B.refl _⟩
 case round =>
  obtain ⟨i, ns, np, so, po, sc, pc, S, vs, us, hi, rfl, rfl, rfl, hSt, hSn, hPn, hn2, hpar, q⟩ := hrel
  obtain ⟨wi, rfl⟩ : ∃ wi : World, wi = wr := ⟨_, rfl⟩
  by_cases hl : i < ln
  ·have hlB : decide ((i : Int) < (ln : Int)) = true := decide_eq_true (by omega)
   have hlN : decide (i < ln) = true := decide_eq_true hl
   have hlI : (i : Int) < (ln : Int) := by omega
   have hi0' : (0 : Int) ≤ (i : Int) := by omega
   have wk1 : IntKind.i64.wrap ((i : Int) + 1) = (i : Int) + 1 := by rw [IntKind.wrap_i64]; omega
   obtain ⟨X, hX⟩ : ∃ X, LL[i]? = some X := ⟨_, List.getElem?_eq_getElem (by omega)⟩
   have hXm := List.mem_of_getElem? hX
   obtain ⟨g, o, cap, u, hv, hc0, hw0⟩ := HI.out.at_ (i := i) (by omega)
   have hc := q.keep hc0
   rw [show LL[i]'(by omega) = X by rw [List.getElem?_eq_getElem (by omega)] at hX; simpa using hX] at hw0
   have hw := hw0.keep q
   obtain ⟨rfl, _, rfl⟩ : lo = some ⟨g, o, none⟩ ∧ True ∧ lc = cap := by simpa using hv
   clear hv hc0
   cases X with
   | nil =>
    obtain ⟨uo, uc, rfl⟩ := hw.form
    have hpl := placesP_nil hX
    have hpn := parseP_nil (S := S) hX
    have HN := Lib.hid (And.intro hSt (And.intro hSn (And.intro hPn (And.intro hn2 (And.intro (hpar.trans hpn) (And.intro q (And.intro hl hpl)))))))
    clear hpl hpn hpar hSt hSn hPn hn2 q hl hi hX hXm hw hw0
    go_wp2
    go_roundw
    case rel => exact ⟨i + 1, ns, np, so, po, sc, pc, S, vs, us, by have := HN.out.2.2.2.2.2.2.1; omega, by go_num, rfl, rfl, by rw [HN.out.2.2.2.2.2.2.2]; exact HN.out.1, HN.out.2.1, by rw [HN.out.2.2.2.2.2.2.2]; exact HN.out.2.2.1, HN.out.2.2.2.1, HN.out.2.2.2.2.1, HN.out.2.2.2.2.2.1⟩
    case measure => have := HN.out.2.2.2.2.2.2.1; simp [intOf]; omega
   | cons x ws =>
    have hxs := hws _ hXm
    have hxl := hlong _ hXm
    have cR := pread_any u x ws ns hn2 wi hw (by simp at hxs; omega) (fun y hy => hxl y (List.mem_cons_of_mem _ hy))
    have cO := fun w' (qq : B w w') => offsets_any u x ws w' (hw0.keep qq) (by simp at hxs; omega)
    obtain ⟨g2, lc2, rfl, _, _, _, _⟩ := hw.full (by simp)
    obtain ⟨m, hm⟩ : ∃ m, (x :: ws).length = m := ⟨_, rfl⟩
    have hm0 : ((m : Int) == 0) = false := by rw [← hm, List.length_cons, beq_eq_false_iff_ne]; omega
    have h200 : ((ns : Int) == 200) = decide (ns = 200) := by by_cases e : ns = 200 <;> simp [e] <;> omega
    have h200N : (ns == 200) = decide (ns = 200) := by by_cases e : ns = 200 <;> simp [e]
    rw [hm] at cR cO hc
    have hpc := parseP_cons (S := S) hX
    have hpl := placesP_cons hX
    rw [hSn] at hpc
    unfold ReadRes at cR
    generalize hLP : lineP ns (x :: ws) = LP at *
    have HN := Lib.hid (And.intro hSt (And.intro hSn (And.intro hPn (And.intro hn2 (And.intro (hpar.trans hpc) (And.intro q (And.intro hl (And.intro hpl hLP))))))))
    clear hpc hpar hSt hSn hPn hn2 q hl hi hX hXm hw hw0 hpl hxs hxl hLP
    replace hm := Lib.hid hm
    have HM := hm
    clear hm
    go_wp2_with fail
    generalize decide (ns = 200) = FULL at *
    refine (Calls.mono cR ?_)
    clear cR h200 h200N
    rintro e w2 (⟨s, wv, hLe, rfl, hrow, q2⟩ | ⟨p, n, hLe, rfl, q2⟩)
    ·subst hLe
     obtain ⟨hns, _⟩ := lineP_had HN.out.2.2.2.2.2.2.2.2
     obtain ⟨K, N, WS, V, M⟩ := s
     simp only at hrow
     obtain ⟨wo, wc, rfl⟩ := own_slice hrow
     obtain ⟨wl, hwl⟩ : ∃ wl, WS.length = wl := ⟨_, rfl⟩
     have q3 : B w2 (w2.alloc (.cells #[.int .i64 K, .string N, .slice wo wl wc, .int .i64 V, .int .i64 M] 47)) := (B.refl _).alloc _ _
     have oS := obj_new w2 (.cells #[.int .i64 K, .string N, .slice wo wl wc, .int .i64 V, .int .i64 M] 47)
     have hb2 := HN.out.2.2.2.2.2.1.trans q2
     have hrow2 := own_lowU (base' := R) hrow (by have := HN.out.2.2.2.2.2.1.below.size; have := hRB.out; omega)
     simp only [hwl] at hrow hrow2 ⊢
     clear hrow
     have q4 : B (w2.alloc (.cells #[.int .i64 K, .string N, .slice wo wl wc, .int .i64 V, .int .i64 M] 47)) ((w2.alloc (.cells #[.int .i64 K, .string N, .slice wo wl wc, .int .i64 V, .int .i64 M] 47)).alloc (.cells #[.int .i64 K, .string N, .slice wo wl wc, .int .i64 V, .int .i64 M] 47)) := (B.refl _).alloc _ _
     have q24 := q3.trans q4
     have hSt1 := (HN.out.1.keep (q2.trans q24))
     have own1 := hSt1.so
     rw [HN.out.2.1] at own1
     have hrow4 := row_keep hrow2 q24
     have hB4 := hb2.trans q24
     have hb1 : R ≤ ((w2.alloc (.cells #[.int .i64 K, .string N, .slice wo wl wc, .int .i64 V, .int .i64 M] 47)).alloc (.cells #[.int .i64 K, .string N, .slice wo wl wc, .int .i64 V, .int .i64 M] 47)).heap.size := by have := hB4.below.size; have := hRB.out; omega
     have HW := Lib.hid (And.intro hSt1 (And.intro hrow4 (And.intro hB4 (And.intro hwl hns))))
     have hns' : ns ≤ 200 := by omega
     clear q4 q24 hSt1 hrow4 hB4 hrow2 hb2 q3 q2 hwl hns oS
     go_wp2_with (at_builtin; refine wpList_append_lies _ rfl _ _ 30 rfl R 47 i0 _ 5 64 Tryd.underlying30 hi0 hz0 hz1 hz2 rfl (by omega) (.slice so ns sc) ns (flatSp S vs) rfl own1 ⟨_, 0, none⟩ 1 1 [.int .i64 K, .string N, .slice wo wl wc, .int .i64 V, .int .i64 M] rfl rfl (newest (by simp)) (fun u hu => by simp only [List.mem_cons, List.not_mem_nil, or_false] at hu; rcases hu with rfl | rfl | rfl | rfl | rfl <;> rfl) (by omega) (by unfold maxLen; omega) (by omega) hb1 _ rfl ?_; intro g1 c1 W4 hown4 hgrow4 hat4 hlt4; have hSt4 := StP.addS (s := ⟨K, N, WS, V, M⟩) HW.out.1 hgrow4 (by rw [HN.out.2.1]; exact hown4) (by rw [HW.out.2.2.2.1]; exact HW.out.2.1); have hB4 := HW.out.2.2.1.grownBy hgrow4 (fun x hx => (by rw [hRB.out]; exact (own1.lt x hx).1)); clear hgrow4 hat4 hlt4 own1 hown4 hb1; have hc5 := cO W4 hB4; replace hSt4 := Lib.hid (And.intro hSt4 hB4); clear hB4 cO; go_wp2_with fail)
     refine (Calls.mono hc5 ?_)
     rintro _ w5 ⟨u5, rfl, hrow5, q5⟩
     obtain ⟨uo, uc, rfl⟩ := own_slice hrow5
     have q6 : B w5 (w5.alloc (.cells #[.slice uo m uc] 88)) := (B.refl _).alloc _ _
     have hSt6 := hSt4.out.1.keep (q5.trans q6)
     have hrow6 := own_lowU (base' := R) (row_keep hrow5 q6) (by have := hSt4.out.2.below.size; have := hRB.out; omega)
     have own6 := hSt6.po
     rw [HN.out.2.2.1] at own6
     have hB6 := hSt4.out.2.trans (q5.trans q6)
     have hb6 : R ≤ (w5.alloc (.cells #[.slice uo m uc] 88)).heap.size := by have := hB6.below.size; have := hRB.out; omega
     have hnp : np ≤ 65536 := by have := HN.out.2.2.1; have := placesP_len (LL.take i); rw [List.length_take] at this; omega
     have HV := Lib.hid (And.intro hSt6 (And.intro hrow6 hB6))
     clear q5 q6 hSt6 hrow6 hB6 hSt4 hrow5 hc5
     go_wp2_with (at_builtin; refine wpList_append_lies _ rfl _ _ 52 rfl R 88 i1 _ 1 24 Tryd.underlying52 hi1 hy0 hy1 hy2 rfl (by omega) (.slice po np pc) np us rfl own6 ⟨_, 0, none⟩ 1 1 [.slice uo m uc] rfl rfl (newest rfl) (fun u hu => by simp at hu; rw [hu]; rfl) (by omega) (by unfold maxLen; omega) (by omega) hb6 _ rfl ?_; intro g3 c3 W7 hown7 hgrow7 hat7 hlt7; have hSt7 := StP.addP (l := (x :: ws).map (·.1)) HV.out.1 hgrow7 (by rw [HN.out.2.2.1]; exact hown7) (by rw [List.length_map, HM.out]; exact HV.out.2.1); have hB7 := HV.out.2.2.grownBy hgrow7 (fun x hx => (by rw [hRB.out]; exact (own6.lt x hx).1)); clear hgrow7 hat7 hlt7 own6 hown7 hb6; replace hSt7 := Lib.hid (And.intro hSt7 hB7); clear hB7; go_wp2_with fail)
     refine ⟨⟨i + 1, ns + 1, np + 1, some ⟨g1, 0, none⟩, some ⟨g3, 0, none⟩, c1, c3, S ++ [⟨K, N, WS, V, M⟩], _, _, by have := HN.out.2.2.2.2.2.2.1; omega, by go_num, rfl, rfl, by rw [HN.out.2.2.2.2.2.2.2.1]; exact hSt7.out.1, by rw [List.length_append, HN.out.2.1]; rfl, by rw [HN.out.2.2.2.2.2.2.2.1, List.length_append, HN.out.2.2.1]; rfl, by have := HW.out.2.2.2.2; omega, HN.out.2.2.2.2.1, hSt7.out.2⟩, ?_⟩
     have := HN.out.2.2.2.2.2.2.1
     simp [intOf]
     omega
    ·subst hLe
     have hn0 := lineP_err HN.out.2.2.2.2.2.2.2.2
     have hnB : ((n : Int) != 0) = true := by simp; omega
     have HE : Hid (parseP LL [] = .error (p, n)) := Lib.hid (by rw [HN.out.2.2.2.2.1])
     have HQ := Lib.hid (HN.out.2.2.2.2.2.1.trans q2)
     clear q2 cO hn0
     go_wp2
     try simp only [Exit.inBlock, Exit.then]
     refine bodyPost_ret (results_tmp4 rfl _ _ _) rfl ?_
     exact protoRes_err HE.out (HQ.out.alloc _ _)
  ·have hlB : decide ((i : Int) < (ln : Int)) = false := decide_eq_false (by omega)
   have hlN : decide (i < ln) = false := decide_eq_false hl
   rw [List.take_of_length_le (by omega)] at hSt hPn
   rw [List.drop_eq_nil_of_le (by omega)] at hpar
   have HZ := Lib.hid (And.intro hpar (And.intro hSt q))
   clear hpar hSt q hl hi hSn hPn hn2
   go_wp2
   try simp only [Exit.inBlock, Exit.then]
   refine bodyPost_ret (results_tmp4 rfl _ _ _) rfl ?_
   exact protoRes_ok HZ.out.1 HZ.out.2.1 HZ.out.2.2
end Go.Proofs.YthlileddhgglnaaDoor
namespace Go.Proofs.YthlileddhgglnaaDoor
open Go.RowKit
theorem r8in_any (v a b : Int) (w : World) :
  Calls Tryd.prog 57 #[.int .i64 v, .int .i64 a, .int .i64 b] w fun e w' => e = .returned (.bool (inB v a b)) ∧ w = w' := by
 unfold inB
 have hb : decide (a ≤ v) = true ∨ decide (a ≤ v) = false := by cases decide (a ≤ v) <;> simp
 rcases hb with hb | hb
 all_goals
  go_enter Tryd.func57, Tryd.ntmps57
  go_wp2
  go_ret
  exact ⟨by simp [hb], rfl⟩
end Go.Proofs.YthlileddhgglnaaDoor
