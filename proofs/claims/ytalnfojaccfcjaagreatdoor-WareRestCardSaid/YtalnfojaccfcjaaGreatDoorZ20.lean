/-
 Contracts and what they rest on.
-/
import Derived.Test.YtalnfojaccfcjaaGreatDoorChecked
import Derived.KernelRfl
import Derived.Lib.MinMax
import Derived.Test.YtalnfojaccfcjaaGreatDoorZ19
namespace Go.Proofs.YtalnfojaccfcjaaGreatDoor
open Go.RowKit
set_option linter.unusedVariables false
set_option maxHeartbeats 1000000 in
theorem number9_any (Wb w : World) (base R : Nat) (x : Wd) (l : List Wd) (p e lo hi : Int) (hb : Wb.heap.size ≤ base) (hB : B Wb w) (hR : base ≤ R) (h : RdAt Wb w R (x :: l) p e) :
  Calls Tryz.prog 129 #[.pointer (some ⟨R, 0, none⟩), .int .i64 lo, .int .i64 hi] w fun r w' => r = .returned (.int .i64 ((numV (strB x.2) : Nat) : Int)) ∧
   RdAt Wb w' R l (askF (numIn lo hi (strB x.2)) p e x.1 20).1 (askF (numIn lo hi (strB x.2)) p e x.1 20).2 ∧ Tn kR base w w' := by
 have c1 := next_any Wb w base R x l p e hb hB hR h
 obtain ⟨OK, hOK⟩ : ∃ b, numOk (strB x.2) = b := ⟨_, rfl⟩
 obtain ⟨V, hV⟩ : ∃ n, numV (strB x.2) = n := ⟨_, rfl⟩
 have hin : numIn lo hi (strB x.2) = (OK && decide (lo ≤ (V : Int)) && decide ((V : Int) ≤ hi)) := by unfold numIn; rw [hOK, hV]
 have cn : ∀ w, Calls Tryz.prog 152 #[.string (strB x.2)] w fun e w' => e = .returned (.tuple #[.int .i64 (V : Int), .bool OK]) ∧ B w w' := fun w => by rw [← hOK, ← hV]; exact number_any _ w
 rw [hin, hV]
 clear hin hOK hV h
 go_enter Tryz.func129, Tryz.ntmps129
 go_wp2_with fail
 refine (Calls.mono c1 ?_)
 rintro _ w1 ⟨rfl, h1, t1⟩
 clear c1
 go_wp2_with fail
 refine (cn _).mono ?_
 rintro _ w2 ⟨rfl, q2⟩
 have o1 := q2.obj (obj_new w1 _)
 have t2 : Tn kR base w w2 := (t1.alloc _ _).trans (q2.tn _ _)
 have h2 : RdAt Wb w2 R l p e := let ⟨v, k1, k2⟩ := h1; ⟨v, q2.obj (obj_past k1 _), k2⟩
 have n0 : w2.cell? ⟨w1.heap.size, 0, none⟩ = some (.int .i64 ((x.1 : Nat) : Int)) := obj_cell o1 0
 have n1 : w2.cell? ⟨w1.heap.size, 1, none⟩ = some (.string (strB x.2)) := obj_cell o1 1
 clear o1 h1 t1 q2 cn
 generalize w1.heap.size = G at *
 cases OK
 ·go_wp2_with fail
  refine wp_region_noPanic ?_
  refine wp_region_gate (S := fun w' => w'.cell? ⟨G, 0, none⟩ = some (.int .i64 ((x.1 : Nat) : Int)) ∧ w'.cell? ⟨G, 1, none⟩ = some (.string (strB x.2)) ∧ RdAt Wb w' R l p e ∧ Tn kR base w w') 9 [(0, 3), (1, 0), (2, 3), (3, 3), (4, 1), (5, 1), (6, 1), (7, 1), (8, 3), (9, 4)] [0, 0, 0, 4, 8, 8, 8, 120, 136, 387] [0, 0, 0, 4, 8, 8, 8, 120, 136, 259] [0, 514, 0, 0, 0, 0, 0, 0, 0, 0] (by kernel_rfl) (by kernel_rfl) (fun _ _ _ _ _ h => h) ?_ (fun hH => ?_)
  ·exact ⟨n0, n1, h2, t2.drew⟩
  refine wpSeqG_free (d := 18) (v := ?_) rfl rfl (by kernel_rfl) (fun w => ?_) ?_
  rotate_left
  ·go_simp <;> with_reducible rfl
  dsimp only [sZ, sS]
  refine wpSeqG_take (d := 19) (v := ?_) rfl rfl (by kernel_rfl) (fun w hS => ?_) ?_
  rotate_left
  ·go_simp <;> with_reducible rfl
  dsimp only [sZ, sS]
  refine wpSeqG_free (d := 20) (v := ?_) rfl rfl (by kernel_rfl) (fun w => ?_) ?_
  rotate_left
  ·go_simp <;> with_reducible rfl
  dsimp only [sZ, sS]
  refine wpSeqG_free (d := 21) (v := ?_) rfl rfl (by kernel_rfl) (fun w => ?_) ?_
  rotate_left
  ·go_simp <;> with_reducible rfl
  dsimp only [sZ, sS]
  refine wpSeqG_skip (d := 22) rfl rfl (by kernel_rfl) (by rfl) ?_
  refine wpSeqG_skip (d := 23) rfl rfl (by kernel_rfl) (by rfl) ?_
  refine wpSeqG_skip (d := 24) rfl rfl (by kernel_rfl) (by rfl) ?_
  refine wpSeqG_skip (d := 25) rfl rfl (by kernel_rfl) (by rfl) ?_
  refine wpSeqG_free (d := 26) (v := ?_) rfl rfl (by kernel_rfl) (fun w => ?_) ?_
  rotate_left
  ·go_simp <;> with_reducible rfl
  dsimp only [sZ, sS]
  refine wpSeqG_gate rfl (by kernel_rfl) (fun K hK => ?_)
  go_simp
  (with_reducible refine (ask_any Wb _ base R l x.1 (strB x.2) false p e 20 hb (hH.2.2.2.toB hB hb) hR hH.2.2.1).mono ?_)
  rintro _ w3 ⟨rfl, h3, t3⟩
  replace t3 := hH.2.2.2.trans t3
  clear hH
  refine hK.out _ _ ?_
  clear hK
  refine wpSeqG_done ?_
  refine NoPanic.normal ?_
  go_wp2
  go_ret
  exact ⟨rfl, h3, t3⟩
 ·obtain ⟨RR, hRR⟩ : ∃ r, (true && decide (lo ≤ (V : Int)) && decide ((V : Int) ≤ hi)) = r := ⟨_, rfl⟩
  have cw : ∀ w, Calls Tryz.prog 57 #[.int .i64 (V : Int), .int .i64 lo, .int .i64 hi] w fun e w' => e = .returned (.bool RR) ∧ w = w' := fun w => by
   have e1 : (decide (lo ≤ (V : Int)) && decide ((V : Int) ≤ hi)) = RR := by rw [← hRR]; simp
   rw [← e1]
   exact within_any (V : Int) lo hi w
  replace hRR := Lib.hid hRR
  go_wp2_with fail
  refine wp_region_noPanic ?_
  refine wp_region_gate (S := fun w' => w'.cell? ⟨G, 0, none⟩ = some (.int .i64 ((x.1 : Nat) : Int)) ∧ w'.cell? ⟨G, 1, none⟩ = some (.string (strB x.2)) ∧ RdAt Wb w' R l p e ∧ Tn kR base w w') 9 [(0, 3), (1, 0), (2, 3), (3, 3), (4, 3), (5, 3), (6, 3), (7, 2), (8, 3), (9, 4)] [0, 0, 0, 4, 8, 8, 8, 120, 136, 387] [0, 0, 0, 4, 8, 8, 8, 120, 136, 259] [0, 514, 0, 0, 0, 0, 0, 0, 0, 0] (by kernel_rfl) (by kernel_rfl) (fun _ _ _ _ _ h => h) ?_ (fun hH => ?_)
  ·exact ⟨n0, n1, h2, t2.drew⟩
  refine wpSeqG_free (d := 18) (v := ?_) rfl rfl (by kernel_rfl) (fun w => ?_) ?_
  rotate_left
  ·go_simp <;> with_reducible rfl
  dsimp only [sZ, sS]
  refine wpSeqG_take (d := 19) (v := ?_) rfl rfl (by kernel_rfl) (fun w hS => ?_) ?_
  rotate_left
  ·go_simp <;> with_reducible rfl
  dsimp only [sZ, sS]
  refine wpSeqG_free (d := 20) (v := ?_) rfl rfl (by kernel_rfl) (fun w => ?_) ?_
  rotate_left
  ·go_simp <;> with_reducible rfl
  dsimp only [sZ, sS]
  refine wpSeqG_free (d := 21) (v := ?_) rfl rfl (by kernel_rfl) (fun w => ?_) ?_
  rotate_left
  ·go_simp <;> with_reducible rfl
  dsimp only [sZ, sS]
  refine wpSeqG_free (d := 22) (v := ?_) rfl rfl (by kernel_rfl) (fun w => ?_) ?_
  rotate_left
  ·go_simp <;> with_reducible rfl
  dsimp only [sZ, sS]
  refine wpSeqG_free (d := 23) (v := ?_) rfl rfl (by kernel_rfl) (fun w => ?_) ?_
  rotate_left
  ·go_simp <;> with_reducible rfl
  dsimp only [sZ, sS]
  refine wpSeqG_free (d := 24) (v := ?_) rfl rfl (by kernel_rfl) (fun w => ?_) ?_
  rotate_left
  ·go_simp <;> with_reducible rfl
  dsimp only [sZ, sS]
  refine wpSeqG_call rfl (by kernel_rfl) (fun K hK => ?_)
  go_simp
  (with_reducible refine (cw _).mono ?_)
  rintro e w' ⟨rfl, rfl⟩
  refine hK.out _ _ hH fun hH => ?_
  clear hK
  refine wpSeqG_free (d := 26) (v := ?_) rfl rfl (by kernel_rfl) (fun w => ?_) ?_
  rotate_left
  ·go_simp <;> with_reducible rfl
  dsimp only [sZ, sS]
  refine wpSeqG_gate rfl (by kernel_rfl) (fun K hK => ?_)
  go_simp
  (with_reducible refine (ask_any Wb _ base R l x.1 (strB x.2) RR p e 20 hb (hH.2.2.2.toB hB hb) hR hH.2.2.1).mono ?_)
  rintro _ w3 ⟨rfl, h3, t3⟩
  replace t3 := hH.2.2.2.trans t3
  clear hH
  refine hK.out _ _ ?_
  clear hK
  refine wpSeqG_done ?_
  refine NoPanic.normal ?_
  go_wp2
  go_ret
  exact ⟨rfl, by rw [hRR.out]; exact h3, t3⟩
theorem size9_any (Wb w : World) (base R : Nat) (x : Wd) (l : List Wd) (p e : Int) (hb : Wb.heap.size ≤ base) (hB : B Wb w) (hR : base ≤ R) (h : RdAt Wb w R (x :: l) p e) :
  Calls Tryz.prog 131 #[.pointer (some ⟨R, 0, none⟩)] w fun r w' => r = .returned (.int .i64 ((numV (strB x.2) : Nat) : Int)) ∧
   RdAt Wb w' R l (askF (numOk (strB x.2)) p e x.1 20).1 (askF (numOk (strB x.2)) p e x.1 20).2 ∧ Tn kR base w w' := by
 have c1 := number9_any Wb w base R x l p e 0 9223372036854775807 hb hB hR h
 have hin : numIn 0 9223372036854775807 (strB x.2) = numOk (strB x.2) := by
  unfold numIn
  cases ho : numOk (strB x.2)
  ·rfl
  ·have := (numOk_iff.1 ho).2.2.2
   have h2 := (num_yes (numOk_iff.1 ho)).2
   have k1 : decide ((0 : Int) ≤ (numV (strB x.2) : Int)) = true := decide_eq_true (by omega)
   have k2 : decide ((numV (strB x.2) : Int) ≤ 9223372036854775807) = true := decide_eq_true (by omega)
   rw [k1, k2]; rfl
 rw [hin] at c1
 clear hin h
 go_enter Tryz.func131, Tryz.ntmps131
 go_wp2_with fail
 refine (Calls.mono c1 ?_)
 rintro _ w1 ⟨rfl, h1, t1⟩
 go_wp2
 go_ret
 exact ⟨rfl, h1, t1⟩
end Go.Proofs.YtalnfojaccfcjaaGreatDoor
namespace Go.Proofs.YtalnfojaccfcjaaGreatDoor
open Go.RowKit
set_option linter.unusedVariables false
def kRM : List (Option TypeId) := [some 195, none]
theorem RdAt.tn {K : List (Option TypeId)} {base : Nat} {Wb w w' : World} {R : Nat} {l : List Wd} {p e : Int} (h : RdAt Wb w R l p e) (t : Tn K base w w') (hK : some 195 ∉ K) : RdAt Wb w' R l p e :=
 let ⟨v, k1, k2⟩ := h
 ⟨v, t.objc k1 hK, k2⟩
theorem NmAt.tn {K : List (Option TypeId)} {base : Nat} {w w' : World} {b : Nat} {ns : List ByteArray} (h : NmAt w b ns) (t : Tn K base w w') (hK : none ∉ K) : NmAt w' b ns := by
 obtain ⟨es, c, ho⟩ := h.obj
 exact h.same ((t.objm ho hK).trans ho.symm)
set_option maxHeartbeats 1000000 in
set_option maxRecDepth 100000 in
theorem rname_any (Wb w : World) (base R b : Nat) (ns : List ByteArray) (x : Wd) (l : List Wd) (p e : Int) (hb : Wb.heap.size ≤ base) (hB : B Wb w) (hR : base ≤ R) (h : RdAt Wb w R (x :: l) p e)
  (hm : NmAt w b ns) (hbm : base ≤ b) (hn : ns.length < 1000) (hx : x.2.length ≤ 65536) :
  Calls Tryz.prog 128 #[.pointer (some ⟨R, 0, none⟩), .map (some b)] w fun r w' => r = .returned (.string (strB x.2)) ∧
   RdAt Wb w' R l (askF (nameS (strB x.2) && !namedL ns (strB x.2)) p e x.1 25).1 (askF (nameS (strB x.2) && !namedL ns (strB x.2)) p e x.1 25).2 ∧
   NmAt w' b (addN ns (strB x.2)) ∧ Tn kRM base w w' ∧ Tm b w w' := by
 have c1 := next_any Wb w base R x l p e hb hB hR h
 have hsz : (strB x.2).size ≤ maxLen := by rw [strB_size]; unfold maxLen; omega
 go_enter Tryz.func128, Tryz.ntmps128
 go_wp2_with fail
 refine (Calls.mono c1 ?_)
 rintro _ w1 ⟨rfl, h1, t1⟩
 have u1 : Tm b w (w1.alloc (.cells #[.int .i64 ((x.1 : Nat) : Int), .string (strB x.2)] 134)) := (t1.tm (by decide) b).trans (((B.refl w1).alloc _ _).tm b)
 clear c1 h
 go_wp2_with fail
 have hm1 := hm.tn t1 (by decide)
 have t2 : Tn kRM base w (w1.alloc (.cells #[.int .i64 ((x.1 : Nat) : Int), .string (strB x.2)] 134)) := (t1.mono (by decide) (Nat.le_refl _)).alloc _ _
 have h2 := h1.tn (((B.refl w1).alloc #[.int .i64 ((x.1 : Nat) : Int), .string (strB x.2)] 134).tn [] base) (by simp)
 have m2 := hm1.tn (((B.refl w1).alloc #[.int .i64 ((x.1 : Nat) : Int), .string (strB x.2)] 134).tn [] base) (by simp)
 have o1 := obj_new w1 (.cells #[.int .i64 ((x.1 : Nat) : Int), .string (strB x.2)] 134)
 generalize w1.heap.size = G at *
 generalize w1.alloc (.cells #[.int .i64 ((x.1 : Nat) : Int), .string (strB x.2)] 134) = w2 at *
 have n0 : w2.cell? ⟨G, 0, none⟩ = some (.int .i64 ((x.1 : Nat) : Int)) := obj_cell o1 0
 have n1 : w2.cell? ⟨G, 1, none⟩ = some (.string (strB x.2)) := obj_cell o1 1
 have cA := add_any w2.drew base b ns (strB x.2) hsz hn hbm m2
 clear hm hm1 m2 h1 t1
 obtain ⟨RR, hRR⟩ : ∃ r, (nameS (strB x.2) && !namedL ns (strB x.2)) = r := ⟨_, rfl⟩
 rw [hRR] at cA
 replace hRR := Lib.hid hRR
 have nx : ∀ w3, Tn kM base w2.drew w3 → w3.heap[G]? = some (.cells #[.int .i64 ((x.1 : Nat) : Int), .string (strB x.2)] 134 (0, 0)) ∧ w3.cell? ⟨G, 0, none⟩ = some (.int .i64 ((x.1 : Nat) : Int)) ∧ w3.cell? ⟨G, 1, none⟩ = some (.string (strB x.2)) ∧ Tn kRM base w w3 ∧
   Calls Tryz.prog 151 #[.pointer (some ⟨R, 0, none⟩), .agg #[.int .i64 ((x.1 : Nat) : Int), .string (strB x.2)], .bool RR, .int .i64 25] w3 fun r w' => r = .returned (.tuple #[]) ∧ RdAt Wb w' R l (askF RR p e x.1 25).1 (askF RR p e x.1 25).2 ∧ Tn kR base w3 w' := fun w3 t3 => by
  have o3 := Tn.objc (a := w2.drew) t3 o1 (by decide)
  have t23 := t2.drew.trans (t3.mono (K' := kRM) (by decide) (Nat.le_refl _))
  exact ⟨o3, obj_cell o3 0, obj_cell o3 1, t23, ask_any Wb w3 base R l x.1 (strB x.2) RR p e 25 hb (t23.toB hB hb) hR (RdAt.tn (w := w2.drew) h2 t3 (by decide))⟩
 go_region_with (first
  | (go_at_call 52; (with_reducible refine (Calls.mono cA ?_); rintro _ w3 ⟨rfl, m3, t3, u3⟩; obtain ⟨o3, n30, n31, t23, cK⟩ := nx _ t3))
  | (go_at_call 151; (with_reducible refine (Calls.mono cK ?_); rintro _ w4 ⟨rfl, h4, t4⟩)))
 all_goals
  have o4 := Tn.objc t4 o3 (by decide)
  have n40 : w4.cell? ⟨G, 0, none⟩ = some (.int .i64 ((x.1 : Nat) : Int)) := obj_cell o4 0
  have n41 : w4.cell? ⟨G, 1, none⟩ = some (.string (strB x.2)) := obj_cell o4 1
  clear nx cA cK n0 n1 n30 n31 o1 o3 o4
  go_wp2
  go_ret
  exact ⟨rfl, by rw [hRR.out]; exact h4, m3.tn t4 (by decide), t23.trans (t4.mono (by decide) (Nat.le_refl _)), (u1.trans (u3 : Tm b w2.drew w3)).trans (t4.tm (by decide) b)⟩
end Go.Proofs.YtalnfojaccfcjaaGreatDoor
namespace Go.Proofs.YtalnfojaccfcjaaGreatDoor
open Go.RowKit
set_option linter.unusedVariables false
def wellOk (ws : List Wr) (fs : List Fl) (l : List UInt8) : Bool := match cwell l with
 | some (n, r, c) => hasW ws (strB n) r c && !filledW fs (strB n) r c
 | none => false
def wellN (ws : List Wr) (fs : List Fl) (l : List UInt8) : List Fl := match cwell l with
 | some (n, r, c) => fillN ws fs (strB n) r c
 | none => fs
theorem cwell_in {l : List UInt8} {n : List UInt8} {r c : Int} (h : cwell l = some (n, r, c)) : n.length ≤ l.length ∧ I64 r ∧ I64 c := by
 unfold cwell at h
 split at h
 ·cases h
 ·rename_i b ds _
  split at h
  ·rename_i hin
   unfold numIn at hin
   simp only [Bool.and_eq_true, decide_eq_true_eq] at hin
   have hb := b.toNat_lt
   simp only [Option.some.injEq, Prod.mk.injEq] at h
   obtain ⟨rfl, rfl, rfl⟩ := h
   refine ⟨by rw [List.length_take]; omega, ?_, ?_⟩ <;> (unfold I64; omega)
  ·cases h
theorem FmAt.tm {w w' : World} {b b' : Nat} {fs : List Fl} (h : FmAt w b fs) (t : Tm b' w w') (hb : b ≠ b') : FmAt w' b fs := by
 obtain ⟨es, c, ho⟩ := h.obj
 exact h.same ((t b es c hb ho).trans ho.symm)
theorem FmAt.tn {K : List (Option TypeId)} {base : Nat} {w w' : World} {b : Nat} {fs : List Fl} (h : FmAt w b fs) (t : Tn K base w w') (hK : none ∉ K) : FmAt w' b fs := by
 obtain ⟨es, c, ho⟩ := h.obj
 exact h.same ((t.objm ho hK).trans ho.symm)
theorem set3_tm {w : World} {q : Nat} {cs : Array Value} {t : TypeId} (ho : w.heap[q]? = some (.cells cs t (0, 0))) (x y z : Value) (b : Nat) : Tm b w (((w.setCell ⟨q, 0, none⟩ x).setCell ⟨q, 1, none⟩ y).setCell ⟨q, 2, none⟩ z) := fun i es c _ hi =>
 (set3_other _ _ _ _ _ _ (fun e => by rw [e, ho] at hi; cases hi)).trans hi
set_option maxRecDepth 100000 in
set_option maxHeartbeats 1600000 in
theorem rwell_any (Wb w : World) (base R S bw bf : Nat) (wv tv fv tm pv hv : Value) (ws : List Wr) (fs : List Fl) (x : Wd) (l : List Wd) (p e : Int) (hb : Wb.heap.size ≤ base) (hB : B Wb w) (hR : base ≤ R) (h : RdAt Wb w R (x :: l) p e)
  (oS : w.heap[S]? = some (.cells #[wv, tv, fv, .map (some bw), tm, .map (some bf), pv, hv] 120 (0, 0))) (hW : ∀ w', Tn kR base w w' → IsRecs w' wv ws) (hw : NmAt w bw (ws.map (·.n))) (hf : FmAt w bf fs) (hbf : base ≤ bf) (hfs : fs.length < 100000) (hx : x.2.length ≤ 65536) :
  Calls Tryz.prog 130 #[.pointer (some ⟨R, 0, none⟩), .pointer (some ⟨S, 0, none⟩)] w fun r w' => r = .returned (wellOV (cwell x.2)) ∧
   RdAt Wb w' R l (askF (wellOk ws fs x.2) p e x.1 26).1 (askF (wellOk ws fs x.2) p e x.1 26).2 ∧ FmAt w' bf (wellN ws fs x.2) ∧ Tn kRM base w w' ∧ Tm bf w w' := by
 have c1 := fun w hB h => next_any Wb w base R x l p e hb hB hR h
 have hok : wellOk ws fs x.2 = match cwell x.2 with
  | some (n, r, c) => hasW ws (strB n) r c && !filledW fs (strB n) r c
  | none => false := rfl
 have hwn : wellN ws fs x.2 = match cwell x.2 with
  | some (n, r, c) => fillN ws fs (strB n) r c
  | none => fs := rfl
 have c2 := fun w => wellof_any x.2 w hx
 have hin := fun n r c => cwell_in (l := x.2) (n := n) (r := r) (c := c)
 generalize wellOk ws fs x.2 = OK at *
 generalize wellN ws fs x.2 = FS at *
 generalize cwell x.2 = CW at *
 -- the result's block
 have q0 : B w (w.alloc (.cells #[.string ⟨#[]⟩, .int .i64 0, .int .i64 0] 39)) := (B.refl w).alloc _ _
 have oQ := obj_new w (.cells #[.string ⟨#[]⟩, .int .i64 0, .int .i64 0] 39)
 have hNew : ∀ (b : World), Tn kRM base w b → ∀ x y z, Tn kRM base w (((b.setCell ⟨w.heap.size, 0, none⟩ x).setCell ⟨w.heap.size, 1, none⟩ y).setCell ⟨w.heap.size, 2, none⟩ z) := fun b h x y z =>
  ((h.setNew (p := ⟨w.heap.size, 0, none⟩) (Nat.le_refl _) x).setNew (p := ⟨w.heap.size, 1, none⟩) (Nat.le_refl _) y).setNew (p := ⟨w.heap.size, 2, none⟩) (Nat.le_refl _) z
 have c1' := c1 _ (hB.trans q0) (h.tn (q0.tn [] base) (by simp))
 clear c1
 go_enter Tryz.func130, Tryz.ntmps130
 go_wp2_with fail
 refine (Calls.mono c1' ?_)
 rintro _ w1 ⟨rfl, h1, t1⟩
 clear c1'
 have oQ1 := t1.objc oQ (by decide)
 have tw1 : Tn kR base w w1 := (q0.tn _ _).trans t1
 go_wp2_with fail
 refine (c2 _).mono ?_
 rintro _ w2 ⟨rfl, q2⟩
 clear c2
 have o1 := q2.obj (obj_new w1 _)
 have oQ2 := q2.obj (obj_past oQ1 _)
 have tw2 : Tn kR base w w2 := (tw1.alloc _ _).trans (q2.tn _ _)
 have h2 : RdAt Wb w2 R l p e := let ⟨v, k1, k2⟩ := h1; ⟨v, q2.obj (obj_past k1 _), k2⟩
 clear t1 tw1 h1 oQ oQ1 q2 h
 generalize w.heap.size = Qb at *
 generalize w1.heap.size = G at *
 cases CW with
 | none =>
  simp only at hok hwn
  subst hok hwn
  have e1 : wellOV none = .agg #[.string ⟨#[]⟩, .int .i64 0, .int .i64 0] := rfl
  rw [e1] at *
  go_wp2_with fail
  have q3 : B w2 (w2.alloc (.cells #[.string ⟨#[]⟩, .int .i64 0, .int .i64 0] 39)) := (B.refl w2).alloc _ _
  have t3 : Tn kR base w (w2.alloc (.cells #[.string ⟨#[]⟩, .int .i64 0, .int .i64 0] 39)) := tw2.alloc _ _
  have h3 := RdAt.tn (show RdAt Wb w2 R l p e from h2) (q3.tn [] base) (by simp)
  have o3 := q3.obj o1
  have oQ3 := q3.obj oQ2
  have oL := obj_new w2 (.cells #[.string ⟨#[]⟩, .int .i64 0, .int .i64 0] 39)
  clear h2 o1 oQ2 q3
  generalize w2.heap.size = Lb at *
  generalize w2.alloc (.cells #[.string ⟨#[]⟩, .int .i64 0, .int .i64 0] 39) = w3 at *
  have n0 : w3.cell? ⟨G, 0, none⟩ = some (.int .i64 ((x.1 : Nat) : Int)) := obj_cell o3 0
  have n1 : w3.cell? ⟨G, 1, none⟩ = some (.string (strB x.2)) := obj_cell o3 1
  refine wp_region_noPanic ?_
  refine wp_region_gate (S := fun w' => w'.cell? ⟨G, 0, none⟩ = some (.int .i64 ((x.1 : Nat) : Int)) ∧ w'.cell? ⟨G, 1, none⟩ = some (.string (strB x.2)) ∧ RdAt Wb w' R l p e ∧ Tn kR base w w' ∧ B w3 w') 8 [(0, 3), (1, 0), (2, 3), (3, 3), (4, 1), (5, 1), (6, 1), (7, 3), (8, 4)] [0, 0, 0, 4, 8, 8, 56, 72, 195] [0, 0, 0, 4, 8, 8, 56, 72, 131] [0, 258, 0, 0, 0, 0, 0, 0, 0] (by kernel_rfl) (by kernel_rfl) (fun _ _ _ _ _ h => h) ?_ (fun hH => ?_)
  ·exact ⟨n0, n1, h3, t3.drew, (B.refl w3).drew⟩
  refine wpSeqG_free (d := 16) (v := ?_) rfl rfl (by kernel_rfl) (fun w => ?_) ?_
  rotate_left
  ·go_simp <;> with_reducible rfl
  dsimp only [sZ, sS]
  refine wpSeqG_take (d := 17) (v := ?_) rfl rfl (by kernel_rfl) (fun w hS => ?_) ?_
  rotate_left
  ·go_simp <;> with_reducible rfl
  dsimp only [sZ, sS]
  refine wpSeqG_free (d := 18) (v := ?_) rfl rfl (by kernel_rfl) (fun w => ?_) ?_
  rotate_left
  ·go_simp <;> with_reducible rfl
  dsimp only [sZ, sS]
  refine wpSeqG_free (d := 19) (v := ?_) rfl rfl (by kernel_rfl) (fun w => ?_) ?_
  rotate_left
  ·go_simp <;> with_reducible rfl
  dsimp only [sZ, sS]
  refine wpSeqG_skip (d := 20) rfl rfl (by kernel_rfl) (by rfl) ?_
  refine wpSeqG_skip (d := 21) rfl rfl (by kernel_rfl) (by rfl) ?_
  refine wpSeqG_skip (d := 22) rfl rfl (by kernel_rfl) (by rfl) ?_
  refine wpSeqG_free (d := 23) (v := ?_) rfl rfl (by kernel_rfl) (fun w => ?_) ?_
  rotate_left
  ·go_simp <;> with_reducible rfl
  dsimp only [sZ, sS]
  refine wpSeqG_gate rfl (by kernel_rfl) (fun K hK => ?_)
  go_simp
  (with_reducible refine (ask_any Wb _ base R l x.1 (strB x.2) false p e 26 hb (hH.2.2.2.1.toB hB hb) hR hH.2.2.1).mono ?_)
  rintro _ w4 ⟨rfl, h4, t4⟩
  have t34 := Tn.trans (hH.2.2.2.2.tn kR base) t4
  have t04 := hH.2.2.2.1.trans t4
  clear hH
  refine hK.out _ _ ?_
  clear hK
  refine wpSeqG_done ?_
  refine NoPanic.normal ?_
  have hf4 := hf.tn t04 (by decide)
  have oL4 := Tn.objc t34 oL (by decide)
  have oQ4 := Tn.objc t34 oQ3 (by decide)
  have l0 : w4.cell? ⟨Lb, 0, none⟩ = some (.string ⟨#[]⟩) := obj_cell oL4 0
  have l1 : w4.cell? ⟨Lb, 1, none⟩ = some (.int .i64 0) := obj_cell oL4 1
  have l2 : w4.cell? ⟨Lb, 2, none⟩ = some (.int .i64 0) := obj_cell oL4 2
  have p0 : w4.cell? ⟨Qb, 0, none⟩ = some (.string ⟨#[]⟩) := obj_cell oQ4 0
  have p1 : w4.cell? ⟨Qb, 1, none⟩ = some (.int .i64 0) := obj_cell oQ4 1
  have p2 : w4.cell? ⟨Qb, 2, none⟩ = some (.int .i64 0) := obj_cell oQ4 2
  have f0 := obj_free oQ4 0
  have f1 := obj_free oQ4 1
  have f2 := obj_free oQ4 2
  go_wp2
  have oR := obj_three oQ4 (.string ⟨#[]⟩) (.int .i64 0) (.int .i64 0)
  have cR0 := obj_cell oR 0
  have cR1 := obj_cell oR 1
  have cR2 := obj_cell oR 2
  refine bodyPost_ret (v := .agg #[.string ⟨#[]⟩, .int .i64 0, .int .i64 0]) (by simp [results, Tryz.results130, go_sem, cR0, cR1, cR2]) rfl ⟨rfl, RdAt.same h4 (set3_other _ _ _ _ _ _ (fun ee => ?_)), hf4.same (set3_other _ _ _ _ _ _ (fun ee => ?_)), ?_, (t04.tm (by decide) bf).trans (set3_tm oQ4 _ _ _ bf)⟩
  ·obtain ⟨v, k, _⟩ := h4
   rw [ee, oQ4] at k
   injection k with k
   injection k with _ k
   exact absurd k (by decide)
  ·obtain ⟨es, c, k⟩ := hf4.obj
   rw [ee, oQ4] at k
   cases k
  ·exact hNew _ (t04.mono (K' := kRM) (by decide) (Nat.le_refl _)) _ _ _
 | some z =>
  obtain ⟨n, r, c⟩ := z
  obtain ⟨i1, i2, i3⟩ := hin n r c rfl
  simp only at hok hwn
  subst hok hwn
  have e1 : wellOV (some (n, r, c)) = .agg #[.string (strB n), .int .i64 r, .int .i64 c] := rfl
  rw [e1] at *
  go_wp2_with fail
  have q3 : B w2 (w2.alloc (.cells #[.string (strB n), .int .i64 r, .int .i64 c] 39)) := (B.refl w2).alloc _ _
  have t3 : Tn kR base w (w2.alloc (.cells #[.string (strB n), .int .i64 r, .int .i64 c] 39)) := tw2.alloc _ _
  have h3 := RdAt.tn (show RdAt Wb w2 R l p e from h2) (q3.tn [] base) (by simp)
  have o3 := q3.obj o1
  have oQ3 := q3.obj oQ2
  have oL := obj_new w2 (.cells #[.string (strB n), .int .i64 r, .int .i64 c] 39)
  clear h2 o1 oQ2 q3
  generalize w2.heap.size = Lb at *
  generalize w2.alloc (.cells #[.string (strB n), .int .i64 r, .int .i64 c] 39) = w3 at *
  have n0 : w3.cell? ⟨G, 0, none⟩ = some (.int .i64 ((x.1 : Nat) : Int)) := obj_cell o3 0
  have n1 : w3.cell? ⟨G, 1, none⟩ = some (.string (strB x.2)) := obj_cell o3 1
  have cF := fill_any w3.drew base S bw bf wv tv fv tm pv hv ws fs (strB n) r c (by rw [strB_size]; unfold maxLen; omega) i2 i3 (t3.drew.objc oS (by decide)) (hW _ t3.drew) (hw.tn t3.drew (by decide)) (hf.tn t3.drew (by decide)) hbf hfs
  obtain ⟨RR, hRR⟩ : ∃ b, (hasW ws (strB n) r c && !filledW fs (strB n) r c) = b := ⟨_, rfl⟩
  rw [hRR] at cF
  replace hRR := Lib.hid hRR
  have nx : ∀ w4, Tn kM base w3.drew w4 → w4.cell? ⟨G, 0, none⟩ = some (.int .i64 ((x.1 : Nat) : Int)) ∧ w4.cell? ⟨G, 1, none⟩ = some (.string (strB x.2)) ∧ Tn kRM base w w4 ∧ Tn kRM base w3 w4 ∧
    Calls Tryz.prog 151 #[.pointer (some ⟨R, 0, none⟩), .agg #[.int .i64 ((x.1 : Nat) : Int), .string (strB x.2)], .bool RR, .int .i64 26] w4 fun r w' => r = .returned (.tuple #[]) ∧ RdAt Wb w' R l (askF RR p e x.1 26).1 (askF RR p e x.1 26).2 ∧ Tn kR base w4 w' := fun w4 t4 => by
   have o4 := Tn.objc (a := w3.drew) t4 o3 (by decide)
   have t34 : Tn kRM base w3 w4 := (((B.refl w3).drew).tn _ _).trans (t4.mono (K' := kRM) (by decide) (Nat.le_refl _))
   have t04 := (t3.mono (K' := kRM) (by decide) (Nat.le_refl _)).trans t34
   exact ⟨obj_cell o4 0, obj_cell o4 1, t04, t34, ask_any Wb w4 base R l x.1 (strB x.2) RR p e 26 hb (t04.toB hB hb) hR (RdAt.tn (w := w3.drew) h3 t4 (by decide))⟩
  have lL0 : w3.cell? ⟨Lb, 0, none⟩ = some (.string (strB n)) := obj_cell oL 0
  have lL1 : w3.cell? ⟨Lb, 1, none⟩ = some (.int .i64 r) := obj_cell oL 1
  have lL2 : w3.cell? ⟨Lb, 2, none⟩ = some (.int .i64 c) := obj_cell oL 2
  go_region_with (first
   | (go_at_call 56; (with_reducible refine (Calls.mono cF ?_); rintro _ w4 ⟨rfl, m4, t4, u4⟩; obtain ⟨n40, n41, t04, t34, cK⟩ := nx _ t4))
   | (go_at_call 151; (with_reducible refine (Calls.mono cK ?_); rintro _ w5 ⟨rfl, h5, t5⟩)))
  all_goals
   replace t34 := t34.trans (t5.mono (K' := kRM) (by decide) (Nat.le_refl _))
   replace t04 := t04.trans (t5.mono (K' := kRM) (by decide) (Nat.le_refl _))
   have hf5 := m4.tn t5 (by decide)
   rw [← hRR.out] at h5
   clear nx cF cK n40 n41 lL0 lL1 lL2 n0 n1
   have oL4 := Tn.objc t34 oL (by decide)
   have oQ4 := Tn.objc t34 oQ3 (by decide)
   have l0 : w5.cell? ⟨Lb, 0, none⟩ = some (.string (strB n)) := obj_cell oL4 0
   have l1 : w5.cell? ⟨Lb, 1, none⟩ = some (.int .i64 r) := obj_cell oL4 1
   have l2 : w5.cell? ⟨Lb, 2, none⟩ = some (.int .i64 c) := obj_cell oL4 2
   have p0 : w5.cell? ⟨Qb, 0, none⟩ = some (.string ⟨#[]⟩) := obj_cell oQ4 0
   have p1 : w5.cell? ⟨Qb, 1, none⟩ = some (.int .i64 0) := obj_cell oQ4 1
   have p2 : w5.cell? ⟨Qb, 2, none⟩ = some (.int .i64 0) := obj_cell oQ4 2
   have f0 := obj_free oQ4 0
   have f1 := obj_free oQ4 1
   have f2 := obj_free oQ4 2
   go_wp2
   have oR := obj_three oQ4 (.string (strB n)) (.int .i64 r) (.int .i64 c)
   have cR0 := obj_cell oR 0
   have cR1 := obj_cell oR 1
   have cR2 := obj_cell oR 2
   refine bodyPost_ret (v := .agg #[.string (strB n), .int .i64 r, .int .i64 c]) (by simp [results, Tryz.results130, go_sem, cR0, cR1, cR2]) rfl ⟨rfl, RdAt.same h5 (set3_other _ _ _ _ _ _ (fun ee => ?_)), hf5.same (set3_other _ _ _ _ _ _ (fun ee => ?_)), ?_, (((t3.drew.tm (by decide) bf).trans (u4 : Tm bf w3.drew w4)).trans (t5.tm (by decide) bf)).trans (set3_tm oQ4 _ _ _ bf)⟩
   ·obtain ⟨v, k, _⟩ := h5
    rw [ee, oQ4] at k
    injection k with k
    injection k with _ k
    exact absurd k (by decide)
   ·obtain ⟨es, c, k⟩ := hf5.obj
    rw [ee, oQ4] at k
    cases k
   ·exact hNew _ (t04) _ _ _
end Go.Proofs.YtalnfojaccfcjaaGreatDoor
namespace Go.Proofs.YtalnfojaccfcjaaGreatDoor
open Go.RowKit
set_option linter.unusedVariables false
def kS : List (Option TypeId) := [some 195, none, some 33, some 35, some 41, some 37, some 120]
theorem wareInfo9 : (Tryz.prog.info? 33).map (fun i => (i.zero, i.size, i.bytes)) = some (some (.agg #[.string ⟨#[]⟩, .int .i64 0, .int .i64 0, .int .i64 0, .slice none 0 0]), 5, 64) := by kernel_rfl
theorem tipInfo9 : (Tryz.prog.info? 35).map (fun i => (i.zero, i.size, i.bytes)) = some (some (.agg #[.string ⟨#[]⟩, .int .i64 0, .int .i64 0, .int .i64 0, .slice none 0 0]), 5, 64) := by kernel_rfl
theorem fillInfo9 : (Tryz.prog.info? 41).map (fun i => (i.zero, i.size, i.bytes)) = some (some (.agg #[.string ⟨#[]⟩, .int .i64 0, .int .i64 0, .int .i64 0]), 4, 40) := by kernel_rfl
theorem secInfo9 : (Tryz.prog.info? 37).map (fun i => (i.zero, i.size, i.bytes)) = some (some (.agg #[.bool false, .int .i64 0, .int .i64 0, .int .i64 0, .int .i64 0, .int .i64 0]), 6, 48) := by kernel_rfl
theorem set1_tm {w : World} {q : Nat} {cs : Array Value} {t : TypeId} (ho : w.heap[q]? = some (.cells cs t (0, 0))) (k : Nat) (x : Value) (b : Nat) : Tm b w (w.setCell ⟨q, k, none⟩ x) := fun i es c _ hi =>
 (Below.heap_setCell _ _ _ _ (fun e => by rw [show i = q from e, ho] at hi; cases hi)).trans hi
theorem map_set1 {w : World} {q b : Nat} {cs : Array Value} {t : TypeId} (hb : ∃ es c, w.heap[b]? = some (.map es c)) (ho : w.heap[q]? = some (.cells cs t (0, 0))) (k : Nat) (x : Value) : (w.setCell ⟨q, k, none⟩ x).heap[b]? = w.heap[b]? := by
 obtain ⟨es, c, h⟩ := hb
 exact Below.heap_setCell _ _ _ _ (fun e => by rw [show b = q from e, ho] at h; cases h)
theorem far_own {w : World} {b2 : Nat} {e2 t : TypeId} {s2 n2 : Nat} {v2 : Value} {x2 : List Value} {i : Nat} {cs : Array Value} (ho : w.heap[i]? = some (.cells cs t (0, 0))) (h2 : w.ownsRow b2 e2 s2 v2 n2 x2) (he : t ≠ e2) : v2.ownBlock ≠ some i :=
 obj_apart ho h2 (fun e => he (by simpa [kindO] using e))
theorem far_map {w : World} {b2 : Nat} {e2 : TypeId} {s2 n2 : Nat} {v2 : Value} {x2 : List Value} {i : Nat} (ho : ∃ es c, w.heap[i]? = some (.map es c)) (h2 : w.ownsRow b2 e2 s2 v2 n2 x2) : v2.ownBlock ≠ some i := by
 obtain ⟨es, c, ho⟩ := ho
 exact obj_apart ho h2 (by simp [kindO])
theorem nm_grown {w w' : World} {row : Option Nat} {b : Nat} {ns : List ByteArray} (g : w.grownBy w' row) (h : NmAt w b ns) (hr : row ≠ some b) : NmAt w' b ns := by
 obtain ⟨es, c, ho⟩ := h.obj
 exact h.same ((obj_grown g ho hr).trans ho.symm)
theorem fm_grown {w w' : World} {row : Option Nat} {b : Nat} {fs : List Fl} (g : w.grownBy w' row) (h : FmAt w b fs) (hr : row ≠ some b) : FmAt w' b fs := by
 obtain ⟨es, c, ho⟩ := h.obj
 exact h.same ((obj_grown g ho hr).trans ho.symm)
theorem rd_grown {Wb w w' : World} {row : Option Nat} {R : Nat} {l : List Wd} {p e : Int} (g : w.grownBy w' row) (h : RdAt Wb w R l p e) (hr : row ≠ some R) : RdAt Wb w' R l p e := by
 obtain ⟨v, ho, hv⟩ := h
 exact ⟨v, obj_grown g ho hr, hv⟩
def fas : List Wd → Int × Int → Int × Int
 | [], f => f
 | x :: l, f => fas l (askF (numOk (strB x.2)) f.1 f.2 x.1 20)
def fa4 (ok : Bool) (k : Int) (xn : Wd) (a0 a1 b0 b1 c0 c1 : Int) (xa xb xc : Wd) : Int × Int :=
 askF (numIn c0 c1 (strB xc.2)) (askF (numIn b0 b1 (strB xb.2)) (askF (numIn a0 a1 (strB xa.2)) (askF ok 0 0 xn.1 k).1 (askF ok 0 0 xn.1 k).2 xa.1 20).1 (askF (numIn a0 a1 (strB xa.2)) (askF ok 0 0 xn.1 k).1 (askF ok 0 0 xn.1 k).2 xa.1 20).2 xb.1 20).1
  (askF (numIn b0 b1 (strB xb.2)) (askF (numIn a0 a1 (strB xa.2)) (askF ok 0 0 xn.1 k).1 (askF ok 0 0 xn.1 k).2 xa.1 20).1 (askF (numIn a0 a1 (strB xa.2)) (askF ok 0 0 xn.1 k).1 (askF ok 0 0 xn.1 k).2 xa.1 20).2 xb.1 20).2 xc.1 20
structure StAt (w : World) (base S bw bt bf : Nat) (wv tv fv pv : Value) (head : Int) (d : Dk) (nw nt : List ByteArray) (fl : List Fl) (ss tt : List Value) : Prop where
 obj : w.heap[S]? = some (.cells #[wv, tv, fv, .map (some bw), .map (some bt), .map (some bf), pv, .int .i64 head] 120 (0, 0))
 rows : Rows w base wv tv fv d ss tt
 mw : NmAt w bw nw
 mt : NmAt w bt nt
 mf : FmAt w bf fl
 gS : base ≤ S
 gw : base ≤ bw
 gt : base ≤ bt
 gf : base ≤ bf
 n1 : bw ≠ bt
 n2 : bw ≠ bf
 n3 : bt ≠ bf
section
variable {w w' : World} {base S bw bt bf : Nat} {wv tv fv pv : Value} {head : Int} {d : Dk} {nw nt : List ByteArray} {fl : List Fl} {ss tt : List Value}
theorem StAt.b (h : StAt w base S bw bt bf wv tv fv pv head d nw nt fl ss tt) (q : B w w') : StAt w' base S bw bt bf wv tv fv pv head d nw nt fl ss tt :=
 ⟨q.obj h.obj, h.rows.b q, h.mw.tn (q.tn [] base) (by simp), h.mt.tn (q.tn [] base) (by simp), h.mf.tn (q.tn [] base) (by simp), h.gS, h.gw, h.gt, h.gf, h.n1, h.n2, h.n3⟩
theorem StAt.tn {K : List (Option TypeId)} {b : Nat} (h : StAt w base S bw bt bf wv tv fv pv head d nw nt fl ss tt) (t : Tn K b w w') (h0 : none ∉ K) (h1 : some 33 ∉ K) (h2 : some 35 ∉ K) (h3 : some 41 ∉ K) (h4 : some 37 ∉ K) (h5 : some 120 ∉ K) :
  StAt w' base S bw bt bf wv tv fv pv head d nw nt fl ss tt :=
 ⟨t.objc h.obj h5, h.rows.tn t h1 h2 h3 h4, h.mw.tn t h0, h.mt.tn t h0, h.mf.tn t h0, h.gS, h.gw, h.gt, h.gf, h.n1, h.n2, h.n3⟩
end
theorem StAt.eqv {w : World} {base S bw bt bf : Nat} {wv tv fv pv pv' : Value} {head head' : Int} {d d' : Dk} {nw nw' nt nt' : List ByteArray} {fl fl' : List Fl} {ss tt : List Value} (h : StAt w base S bw bt bf wv tv fv pv head d nw nt fl ss tt)
  (e1 : pv = pv') (e2 : head = head') (e3 : d = d') (e4 : nw = nw') (e5 : nt = nt') (e6 : fl = fl') : StAt w base S bw bt bf wv tv fv pv' head' d' nw' nt' fl' ss tt := by
 subst e1 e2 e3 e4 e5 e6; exact h
end Go.Proofs.YtalnfojaccfcjaaGreatDoor
namespace Go.Proofs.YtalnfojaccfcjaaGreatDoor
open Go.RowKit
set_option linter.unusedVariables false
def wellF (l : List UInt8) (v : Int) : Fl := match cwell l with
 | some (n, r, c) => ⟨strB n, r, c, v⟩
 | none => ⟨⟨#[]⟩, 0, 0, v⟩
def fa2 (ok : Bool) (x1 x2 : Wd) : Int × Int := askF (numIn 0 20000000 (strB x2.2)) (askF ok 0 0 x1.1 26).1 (askF ok 0 0 x1.1 26).2 x2.1 20
set_option maxRecDepth 100000 in
set_option maxHeartbeats 1600000 in
theorem addFill_any (Wb w : World) (base R S bw bt bf : Nat) (wv tv fv pv : Value) (head : Int) (d : Dk) (nw nt : List ByteArray) (fl : List Fl) (ss tt : List Value) (x1 x2 : Wd) (hb : Wb.heap.size ≤ base) (hB : B Wb w) (hbw : base ≤ w.heap.size) (hR : base ≤ R)
  (h : RdAt Wb w R [x1, x2] 0 0) (hS : StAt w base S bw bt bf wv tv fv pv head d nw nt fl ss tt) (hnw : nw = d.ws.map (·.n)) (hd : d.fs.length < 100000) (hfl : fl.length < 100000) (hx : x1.2.length ≤ 65536) :
  Calls Tryz.prog 105 #[.pointer (some ⟨S, 0, none⟩), .pointer (some ⟨R, 0, none⟩)] w fun r w' => r = .returned (.tuple #[]) ∧
   ∃ fv', RdAt Wb w' R [] (fa2 (wellOk d.ws fl x1.2) x1 x2).1 (fa2 (wellOk d.ws fl x1.2) x1 x2).2 ∧
    StAt w' base S bw bt bf wv tv fv' pv head { d with fs := d.fs ++ [wellF x1.2 ((numV (strB x2.2) : Nat) : Int)] } nw nt (wellN d.ws fl x1.2) ss tt ∧ Tn kS base w w' := by
 obtain ⟨i0, hi0, hz0, hz1, hz2⟩ := info_of fillInfo9
 have c0 := rwell_any Wb w base R S bw bf wv tv fv (.map (some bt)) pv (.int .i64 head) d.ws fl x1 [x2] 0 0 hb hB hR h hS.obj (fun w' t => (hS.rows.tn t (by decide) (by decide) (by decide) (by decide)).dk.ws) (hnw ▸ hS.mw) hS.mf hS.gf hfl hx
 obtain ⟨N, RR, CC, hV, hF⟩ : ∃ N RR CC, wellOV (cwell x1.2) = .agg #[.string N, .int .i64 RR, .int .i64 CC] ∧ ∀ v, wellF x1.2 v = ⟨N, RR, CC, v⟩ := by
  unfold wellF
  cases cwell x1.2 with
  | none => exact ⟨_, _, _, rfl, fun _ => rfl⟩
  | some z => exact ⟨_, _, _, rfl, fun _ => rfl⟩
 rw [hV] at c0
 rw [hF]
 clear hV hF
 go_enter Tryz.func105, Tryz.ntmps105
 go_wp2_with fail
 refine (Calls.mono c0 ?_)
 rintro _ w1 ⟨rfl, h1, f1, t1, u1⟩
 clear c0
 have qB : B w1 (w1.alloc (.cells #[.string N, .int .i64 RR, .int .i64 CC] 39)).drew := ((B.refl w1).alloc _ _).drew
 have oL := obj_new w1 (.cells #[.string N, .int .i64 RR, .int .i64 CC] 39)
 have tL : Tn kRM base w (w1.alloc (.cells #[.string N, .int .i64 RR, .int .i64 CC] 39)).drew := (t1.alloc _ _).drew
 have h1' := h1.tn (qB.tn [] base) (by simp)
 have f1' := f1.tn (qB.tn [] base) (by simp)
 have u1' := u1.trans (qB.tm bf)
 go_wp2_with fail
 have oS3 := tL.objc hS.obj (by decide)
 have row3 := hS.rows.tn tL (by decide) (by decide) (by decide) (by decide)
 have c1 := number9_any Wb (w1.alloc (.cells #[.string N, .int .i64 RR, .int .i64 CC] 39)).drew base R x2 [] _ _ 0 20000000 hb (tL.toB hB hb) hR h1'
 have hLo : (w1.alloc (.cells #[.string N, .int .i64 RR, .int .i64 CC] 39)).drew.heap[w1.heap.size]? = _ := oL
 clear oL h1 f1 t1 u1 qB
 have s2 : (w1.alloc (.cells #[.string N, .int .i64 RR, .int .i64 CC] 39)).drew.cell? ⟨S, 2, none⟩ = some fv := obj_cell oS3 2
 have l0 : (w1.alloc (.cells #[.string N, .int .i64 RR, .int .i64 CC] 39)).drew.cell? ⟨w1.heap.size, 0, none⟩ = some (.string N) := obj_cell hLo 0
 have l1 : (w1.alloc (.cells #[.string N, .int .i64 RR, .int .i64 CC] 39)).drew.cell? ⟨w1.heap.size, 1, none⟩ = some (.int .i64 RR) := obj_cell hLo 1
 have l2 : (w1.alloc (.cells #[.string N, .int .i64 RR, .int .i64 CC] 39)).drew.cell? ⟨w1.heap.size, 2, none⟩ = some (.int .i64 CC) := obj_cell hLo 2
 have hfact : ∀ w4, Tn kR base (w1.alloc (.cells #[.string N, .int .i64 RR, .int .i64 CC] 39)).drew w4 → w4.cell? ⟨S, 2, none⟩ = some fv ∧ w4.cell? ⟨w1.heap.size, 0, none⟩ = some (.string N) ∧ w4.cell? ⟨w1.heap.size, 1, none⟩ = some (.int .i64 RR) ∧ w4.cell? ⟨w1.heap.size, 2, none⟩ = some (.int .i64 CC) :=
  fun w4 t4 => ⟨obj_cell (t4.objc oS3 (by decide)) 2, obj_cell (t4.objc hLo (by decide)) 0, obj_cell (t4.objc hLo (by decide)) 1, obj_cell (t4.objc hLo (by decide)) 2⟩
 clear hLo
 generalize w1.heap.size = L at *
 refine wp_region_noPanic ?_
 refine wp_region_gate (S := fun w' => w'.cell? ⟨S, 2, none⟩ = some fv ∧ w'.cell? ⟨L, 0, none⟩ = some (.string N) ∧ w'.cell? ⟨L, 1, none⟩ = some (.int .i64 RR) ∧ w'.cell? ⟨L, 2, none⟩ = some (.int .i64 CC)) 11 [(0, 3), (1, 3), (2, 3), (3, 3), (4, 3), (5, 0), (6, 0), (7, 3), (8, 2), (9, 3), (10, 2), (11, 4), (12, 3), (13, 3), (14, 3), (15, 4)] [0, 0, 2, 4, 8, 16, 0, 0, 128, 320, 512, 1312, 4095, 8191, 12287, 20479] [0, 0, 2, 4, 8, 16, 0, 0, 128, 320, 512, 1056, 1, 4096, 8192, 18432] [0, 0, 0, 0, 0, 63520, 65088, 0, 0, 0, 0, 0, 0, 0, 0, 0] (by kernel_rfl) (by kernel_rfl) (fun _ _ _ _ _ h => h) ?_ (fun hH => ?_)
 ·exact ⟨s2, l0, l1, l2⟩
 refine wpSeqG_free (d := 8) (v := ?_) rfl rfl (by kernel_rfl) (fun w => ?_) ?_
 rotate_left
 ·go_simp <;> with_reducible rfl
 dsimp only [sZ, sS]
 refine wpSeqG_free (d := 9) (v := ?_) rfl rfl (by kernel_rfl) (fun w => ?_) ?_
 rotate_left
 ·go_simp <;> with_reducible rfl
 dsimp only [sZ, sS]
 refine wpSeqG_free (d := 10) (v := ?_) rfl rfl (by kernel_rfl) (fun w => ?_) ?_
 rotate_left
 ·go_simp <;> with_reducible rfl
 dsimp only [sZ, sS]
 refine wpSeqG_free (d := 11) (v := ?_) rfl rfl (by kernel_rfl) (fun w => ?_) ?_
 rotate_left
 ·go_simp <;> with_reducible rfl
 dsimp only [sZ, sS]
 refine wpSeqG_free (d := 12) (v := ?_) rfl rfl (by kernel_rfl) (fun w => ?_) ?_
 rotate_left
 ·go_simp <;> with_reducible rfl
 dsimp only [sZ, sS]
 refine wpSeqG_take (d := 13) (v := ?_) rfl rfl (by kernel_rfl) (fun w hS => ?_) ?_
 rotate_left
 ·go_simp <;> with_reducible rfl
 dsimp only [sZ, sS]
 refine wpSeqG_take (d := 14) (v := ?_) rfl rfl (by kernel_rfl) (fun w hS => ?_) ?_
 rotate_left
 ·go_simp <;> with_reducible rfl
 dsimp only [sZ, sS]
 refine wpSeqG_free (d := 15) (v := ?_) rfl rfl (by kernel_rfl) (fun w => ?_) ?_
 rotate_left
 ·go_simp <;> with_reducible rfl
 dsimp only [sZ, sS]
 refine wpSeqG_call rfl (by kernel_rfl) (fun K hK => ?_)
 go_simp
 (with_reducible refine (Calls.mono c1 ?_))
 rintro _ w4 ⟨rfl, h4, t4⟩
 have hS4 := hfact w4 t4
 have oS4 := t4.objc oS3 (by decide)
 have row4 := row3.tn t4 (by decide) (by decide) (by decide) (by decide)
 have qA : B w4 (w4.alloc (.cells #[.string N, .int .i64 RR, .int .i64 CC, .int .i64 ((numV (strB x2.2) : Nat) : Int)] 41)) := (B.refl w4).alloc _ _
 have hown := ownsRow_keepB row4.fs qA
 have hbase : base ≤ (w4.alloc (.cells #[.string N, .int .i64 RR, .int .i64 CC, .int .i64 ((numV (strB x2.2) : Nat) : Int)] 41)).heap.size := Nat.le_trans hbw (Nat.le_trans tL.size (Nat.le_trans t4.size qA.below.size))
 clear c1 hfact
 refine hK.out _ _ ?_ (fun hH => ?_)
 ·first | exact hS4 | exact ⟨((B.refl _).alloc _ _).keep hH.1, ((B.refl _).alloc _ _).keep hH.2.1, ((B.refl _).alloc _ _).keep hH.2.2.1, ((B.refl _).alloc _ _).keep hH.2.2.2⟩
 clear hK
 refine wpSeqG_free (d := 17) (v := ?_) rfl rfl (by kernel_rfl) (fun w => ?_) ?_
 rotate_left
 ·go_simp <;> with_reducible rfl
 dsimp only [sZ, sS]
 refine wpSeqG_call rfl (by kernel_rfl) (fun K hK => ?_)
 go_simp
 refine hK.out _ _ ?_ (fun hH => ?_)
 ·first | exact hS4 | exact ⟨((B.refl _).alloc _ _).keep hH.1, ((B.refl _).alloc _ _).keep hH.2.1, ((B.refl _).alloc _ _).keep hH.2.2.1, ((B.refl _).alloc _ _).keep hH.2.2.2⟩
 clear hK
 refine wpSeqG_gate rfl (by kernel_rfl) (fun K hK => ?_)
 refine wp_append_lies _ _ _ 24 rfl base 41 i0 (.agg #[.string ⟨#[]⟩, .int .i64 0, .int .i64 0, .int .i64 0]) 4 40 (by kernel_rfl) hi0 hz0 hz1 hz2 rfl (by omega) _ _ _ rfl hown ⟨w4.heap.size, 0, none⟩ 1 1 [.string N, .int .i64 RR, .int .i64 CC, .int .i64 ((numV (strB x2.2) : Nat) : Int)] rfl rfl (news_plain rfl) (by intro u hu; simp only [List.mem_cons, List.not_mem_nil, or_false] at hu; rcases hu with rfl | rfl | rfl | rfl <;> rfl) (by omega) (by unfold maxLen; omega) (by omega) hbase _ rfl ?_
 intro gN cN w9 hownN hgrowN hatN hltN
 have oS9 := obj_grown hgrowN (qA.obj oS4) (far_own (qA.obj oS4) hown (by decide))
 have y0 : w9.cell? ⟨S, 2, none⟩ = some fv := obj_cell oS9 2
 have y1 := obj_free oS9 2
 try simp only [Act.put, List.setIfInBounds_toArray, List.set_cons_zero, List.set_cons_succ]
 refine hK.out _ _ ?_
 clear hK
 refine wpSeqG_free (d := 20) (v := ?_) rfl rfl (by kernel_rfl) (fun w => ?_) ?_
 rotate_left
 ·go_simp <;> with_reducible rfl
 dsimp only [sZ, sS]
 refine wpSeqG_free (d := 21) (v := ?_) rfl rfl (by kernel_rfl) (fun w => ?_) ?_
 rotate_left
 ·go_simp <;> with_reducible rfl
 dsimp only [sZ, sS]
 refine wpSeqG_free (d := 22) (v := ?_) rfl rfl (by kernel_rfl) (fun w => ?_) ?_
 rotate_left
 ·go_simp <;> with_reducible rfl
 dsimp only [sZ, sS]
 refine wpSeqG_gate rfl (by kernel_rfl) (fun K hK => ?_)
 go_simp
 refine hK.out _ _ ?_
 clear hK
 refine wpSeqG_done ?_
 refine NoPanic.normal ?_
 all_goals
  first | go_end0 | refine bodyPost_ret (results_none rfl _ _ _) rfl ?_
  have row9 := (row4.b qA).addF (f := ⟨N, RR, CC, ((numV (strB x2.2) : Nat) : Int)⟩) hgrowN hownN
  have hA := h4.tn (qA.tn [] base) (by simp)
  have hRr : fv.ownBlock ≠ some R := by obtain ⟨v, k, _⟩ := hA; exact far_own k hown (by decide)
  have h9 := rd_grown hgrowN hA hRr
  have hRS : R ≠ S := fun e => by
   obtain ⟨v, k, _⟩ := h9
   rw [e, oS9] at k
   injection k with k
   injection k with _ k
   exact absurd k (by decide)
  have oth : ∀ i, i ≠ S → (w9.setCell ⟨S, 2, none⟩ (.slice (some ⟨gN, 0, none⟩) (d.fs.length + 1) cN)).heap[i]? = w9.heap[i]? := fun i hi => Below.heap_setCell _ ⟨S, 2, none⟩ _ i hi
  have mapS : ∀ {b : Nat}, (∃ es c, w9.heap[b]? = some (.map es c)) → b ≠ S := fun {b} ⟨es, c, hb⟩ e => by
   rw [e, oS9] at hb
   cases hb
  have qK : ∀ {b : Nat} {ns : List ByteArray}, b ≠ bf → NmAt w b ns → NmAt (w9.setCell ⟨S, 2, none⟩ (.slice (some ⟨gN, 0, none⟩) (d.fs.length + 1) cN)) b ns := fun {b ns} hne hb => by
   have k1 := ((hb.tm u1' hne).tn t4 (by decide)).tn (qA.tn [] base) (by simp)
   have k2 := nm_grown hgrowN k1 (far_map k1.obj hown)
   exact k2.same (oth _ (mapS k2.obj))
  have qF : FmAt (w9.setCell ⟨S, 2, none⟩ (.slice (some ⟨gN, 0, none⟩) (d.fs.length + 1) cN)) bf (wellN d.ws fl x1.2) := by
   have k1 := (f1'.tn t4 (by decide)).tn (qA.tn [] base) (by simp)
   have k2 := fm_grown hgrowN k1 (far_map k1.obj hown)
   exact k2.same (oth _ (mapS k2.obj))
  have tF : Tn kS base w (w9.setCell ⟨S, 2, none⟩ (.slice (some ⟨gN, 0, none⟩) (d.fs.length + 1) cN)) := Tn.set (p := ⟨S, 2, none⟩) (Tn.appended (((tL.mono (by decide) (Nat.le_refl _)).trans (t4.mono (by decide) (Nat.le_refl _))).trans (qA.tn kS base)) hown hgrowN (Nat.le_refl _) (by decide)) oS9 (by decide) hS.gS _
  exact ⟨rfl, _, RdAt.same h9 (oth R hRS), ⟨obj_set oS9 2 _, row9.tn (K := [some 120]) (b := base) ((Tn.refl _ base w9).set (p := ⟨S, 2, none⟩) oS9 (by decide) hS.gS _) (by decide) (by decide) (by decide) (by decide), qK hS.n2 hS.mw, qK hS.n3 hS.mt, qF, hS.gS, hS.gw, hS.gt, hS.gf, hS.n1, hS.n2, hS.n3⟩, tF⟩
end Go.Proofs.YtalnfojaccfcjaaGreatDoor
namespace Go.Proofs.YtalnfojaccfcjaaGreatDoor
open Go.RowKit
set_option linter.unusedVariables false
theorem named_map (ws : List Wr) (s : ByteArray) : namedL (ws.map (·.n)) s = namedW ws s := by
 unfold namedL namedW
 rw [List.any_map]
 rfl
def faultE (f : Int × Int) : Nat × Nat := (f.1.toNat, f.2.toNat)
theorem numIn_no {m : Nat} {s : ByteArray} : (numOk s = false ∨ m < numV s ∨ numV s < 1) ↔ numIn 1 (m : Int) s = false := by
 unfold numIn
 cases numOk s
 ·simp
 ·simp only [Bool.true_and, Bool.and_eq_false_iff, decide_eq_false_iff_not]
  constructor
  ·rintro (h | h | h)
   ·cases h
   ·right; omega
   ·left; omega
  ·rintro (h | h)
   ·right; right; omega
   ·right; left; omega
theorem numIn0_no {m : Nat} {s : ByteArray} : (numOk s = false ∨ m < numV s) ↔ numIn 0 (m : Int) s = false := by
 unfold numIn
 cases numOk s
 ·simp
 ·simp only [Bool.true_and, Bool.and_eq_false_iff, decide_eq_false_iff_not]
  constructor
  ·rintro (h | h)
   ·cases h
   ·right; omega
  ·rintro (h | h)
   ·right; omega
   ·right; omega
theorem rec_fault (had : List Wr) (most m0 m1 m2 : Nat) (k n a b c : Wd) (hl : had.length < most) :
  recW had most m0 m1 m2 [k, n, a, b, c] = if (fa4 (nameS (strB n.2) && !namedL (had.map (·.n)) (strB n.2)) 25 n 1 m0 1 m1 0 m2 a b c).2 = 0 then .ok ⟨strB n.2, (numV (strB a.2) : Nat), (numV (strB b.2) : Nat), (numV (strB c.2) : Nat), []⟩
   else .error (faultE (fa4 (nameS (strB n.2) && !namedL (had.map (·.n)) (strB n.2)) 25 n 1 m0 1 m1 0 m2 a b c)) := by
 rw [named_map]
 unfold recW threeW
 simp only [if_neg (show ¬ most ≤ had.length by omega), numIn_no, numIn0_no]
 unfold fa4 askF faultE
 cases hA : nameS (strB n.2) <;> cases hN : namedW had (strB n.2) <;> cases hB : numIn 1 (m0 : Int) (strB a.2) <;> cases hC : numIn 1 (m1 : Int) (strB b.2) <;> cases hD : numIn 0 (m2 : Int) (strB c.2) <;> simp
theorem numsW_fault : ∀ (l : List Wd) (f : Int × Int), f.2 = 0 → (match numsW l with
  | .ok ns => (fas l f).2 = 0 ∧ ns = l.map fun x => numV (strB x.2)
  | .error p => (fas l f) = ((p : Int), 20))
 | [], f, h => ⟨h, rfl⟩
 | x :: l, f, h => by
  rw [numsW]
  cases ho : numOk (strB x.2)
  ·simp only [Bool.false_eq_true, if_false]
   have hf : askF (numOk (strB x.2)) f.1 f.2 x.1 20 = ((x.1 : Int), 20) := by rw [ho, h]; rfl
   show fas l (askF (numOk (strB x.2)) f.1 f.2 x.1 20) = _
   rw [hf]
   have keep : ∀ (l : List Wd) (p : Int), fas l (p, 20) = (p, 20) := fun l => by
    induction l with
    | nil => intro p; rfl
    | cons y l ih =>
     intro p
     show fas l (askF _ p 20 _ 20) = _
     have : askF (numOk (strB y.2)) p 20 y.1 20 = (p, 20) := by unfold askF; rw [if_neg (by simp)]
     rw [this, ih]
   exact keep l _
  ·simp only [if_true]
   have hf : askF (numOk (strB x.2)) f.1 f.2 x.1 20 = f := by rw [ho]; unfold askF; simp
   have ih := numsW_fault l f h
   have e : fas (x :: l) f = fas l f := by show fas l (askF (numOk (strB x.2)) f.1 f.2 x.1 20) = _; rw [hf]
   rw [e]
   cases hn : numsW l with
   | ok ns => rw [hn] at ih; exact ⟨ih.1, by rw [ih.2]; rfl⟩
   | error p => rw [hn] at ih; exact ih
theorem sec_round (k x1 x2 x3 : Wd) (hk : k.2 = kRound) : secW [k, x1, x2, x3] = if (fas [x1, x2, x3] (0, 0)).2 = 0 then .ok ⟨true, (numV (strB x1.2) : Nat), (numV (strB x2.2) : Nat), 0, (numV (strB x3.2) : Nat), 0⟩ else .error (faultE (fas [x1, x2, x3] (0, 0))) := by
 have h := numsW_fault [x1, x2, x3] (0, 0) rfl
 have hc : ¬ ([x1, x2, x3].length ≠ if k.2 = kBox then 5 else 3) := by rw [hk]; simp [kRound, kBox]
 unfold secW
 simp only [if_neg hc]
 cases hn : numsW [x1, x2, x3] with
 | ok ns =>
  rw [hn] at h
  rw [if_pos h.1, h.2]
  rfl
 | error p =>
  rw [hn] at h
  rw [h, if_neg (by simp)]
  rfl
theorem sec_box (k x1 x2 x3 x4 x5 : Wd) (hk : k.2 = kBox) : secW [k, x1, x2, x3, x4, x5] = if (fas [x1, x2, x3, x4, x5] (0, 0)).2 = 0 then .ok ⟨false, (numV (strB x1.2) : Nat), (numV (strB x2.2) : Nat), (numV (strB x3.2) : Nat), (numV (strB x4.2) : Nat), (numV (strB x5.2) : Nat)⟩ else .error (faultE (fas [x1, x2, x3, x4, x5] (0, 0))) := by
 have h := numsW_fault [x1, x2, x3, x4, x5] (0, 0) rfl
 have hc : ¬ ([x1, x2, x3, x4, x5].length ≠ if k.2 = kBox then 5 else 3) := by rw [hk]; simp
 unfold secW
 simp only [if_neg hc]
 cases hn : numsW [x1, x2, x3, x4, x5] with
 | ok ns =>
  rw [hn] at h
  rw [if_pos h.1, h.2]
  rfl
 | error p =>
  rw [hn] at h
  rw [h, if_neg (by simp)]
  rfl
def okW (ws : List Wr) : Prop := ∀ x ∈ ws, nameS x.n = true ∧ 1 ≤ x.x ∧ x.x ≤ 8 ∧ 1 ≤ x.y ∧ x.y ≤ 12
theorem hasW_in : ∀ (ws : List Wr) (K : Int) (n : ByteArray) (r c : Int), (indexW ws K n r c).isSome = true → ∃ x ∈ ws, x.n.toList = n.toList ∧ 0 ≤ r ∧ r < x.x ∧ 0 ≤ c ∧ c < x.y
 | [], _, _, _, _, h => by simp [indexW] at h
 | w :: ws, K, n, r, c, h => by
  rw [indexW] at h
  split at h
  ·rename_i hn
   split at h
   ·rename_i hr
    exact ⟨w, by simp, by simpa using hn, hr⟩
   ·simp at h
  ·obtain ⟨x, hx, h2⟩ := hasW_in ws _ n r c h
   exact ⟨x, by simp [hx], h2⟩
theorem ba_ext {a b : ByteArray} (h : a.toList = b.toList) : a = b := by
 rw [Go.Lib.toList_data, Go.Lib.toList_data] at h
 exact ByteArray.ext (Array.toList_inj.1 h)
theorem well_agree (ws : List Wr) (hw : okW ws) (l : List UInt8) :
  (∀ n r c, wellL l = some (n, r, c) → cwell l = some (n, (r : Int), (c : Int))) ∧
  (∀ n r c, cwell l = some (n, r, c) → hasW ws (strB n) r c = true → ∃ r' c' : Nat, wellL l = some (n, r', c') ∧ (r' : Int) = r ∧ (c' : Int) = c) := by
 have e : wellL l = match l.drop (dotAt l + 1) with
  | [] => none
  | r :: ds => if nameS (strB (l.take (dotAt l))) = true ∧ 65 ≤ r.toNat ∧ r.toNat ≤ 72 ∧ numOk (strB ds) = true ∧ 1 ≤ numV (strB ds) ∧ numV (strB ds) ≤ 12 then some (l.take (dotAt l), r.toNat - 65, numV (strB ds) - 1) else none := by
  rw [← take_dot l]
  rfl
 rw [e]
 unfold cwell
 clear e
 constructor
 ·intro n r c h
  cases hdr : l.drop (dotAt l + 1) with
  | nil => rw [hdr] at h; cases h
  | cons b ds =>
   rw [hdr] at h
   simp only at h
   split at h
   ·rename_i hc
    obtain ⟨h1, h2, h3, h4, h5, h6⟩ := hc
    simp only [Option.some.injEq, Prod.mk.injEq] at h
    obtain ⟨rfl, rfl, rfl⟩ := h
    have hin : numIn 1 12 (strB ds) = true := by
     unfold numIn
     rw [h4]
     simp only [Bool.true_and, Bool.and_eq_true, decide_eq_true_eq]
     omega
    simp only [hin, if_true, Option.some.injEq, Prod.mk.injEq, true_and]
    omega
   ·cases h
 ·intro n r c h hh
  cases hdr : l.drop (dotAt l + 1) with
  | nil => rw [hdr] at h; cases h
  | cons b ds =>
   rw [hdr] at h
   simp only at h ⊢
   split at h
   ·rename_i hin
    simp only [Option.some.injEq, Prod.mk.injEq] at h
    obtain ⟨rfl, rfl, rfl⟩ := h
    obtain ⟨x, hx, hn, hr0, hr1, hc0, hc1⟩ := hasW_in ws 0 _ _ _ hh
    obtain ⟨w1, w2, w3, w4, w5⟩ := hw x hx
    unfold numIn at hin
    simp only [Bool.and_eq_true, decide_eq_true_eq] at hin
    obtain ⟨⟨i1, i2⟩, i3⟩ := hin
    have hne := ba_ext hn
    have hcond : nameS (strB (l.take (dotAt l))) = true ∧ 65 ≤ b.toNat ∧ b.toNat ≤ 72 ∧ numOk (strB ds) = true ∧ 1 ≤ numV (strB ds) ∧ numV (strB ds) ≤ 12 := ⟨hne ▸ w1, by omega, by omega, i1, by omega, by omega⟩
    rw [if_pos hcond]
    exact ⟨_, _, rfl, by omega, by omega⟩
   ·cases h
theorem fill_fault (d : Dk) (hw : okW d.ws) (k x1 x2 : Wd) : fillW d [k, x1, x2] = if (fa2 (wellOk d.ws d.fs x1.2) x1 x2).2 = 0 then .ok (wellF x1.2 (numV (strB x2.2) : Nat)) else .error (faultE (fa2 (wellOk d.ws d.fs x1.2) x1 x2)) := by
 obtain ⟨a1, a2⟩ := well_agree d.ws hw x1.2
 unfold fillW wellOk wellF fa2 askF faultE
 simp only [numIn0_no]
 cases hl : wellL x1.2 with
 | none =>
  cases hc : cwell x1.2 with
  | none => simp
  | some z =>
   obtain ⟨n, r, c⟩ := z
   have hf : hasW d.ws (strB n) r c = false := by
    cases hh : hasW d.ws (strB n) r c
    ·rfl
    ·obtain ⟨r', c', h1, _⟩ := a2 n r c hc hh
     rw [hl] at h1
     cases h1
   simp [hf]
 | some z =>
  obtain ⟨n, r, c⟩ := z
  have hc := a1 n r c hl
  rw [hc]
  simp only
  rcases Bool.eq_false_or_eq_true (hasW d.ws (strB n) r c) with hA | hA <;> rcases Bool.eq_false_or_eq_true (filledW d.fs (strB n) r c) with hB | hB <;> rcases Bool.eq_false_or_eq_true (numIn 0 20000000 (strB x2.2)) with hN | hN <;> simp [hA, hB, hN]
end Go.Proofs.YtalnfojaccfcjaaGreatDoor
namespace Go.Proofs.YtalnfojaccfcjaaGreatDoor
open Go.RowKit
def boundS (s : Sec) : Bool := inB s.a0 0 20000 && inB s.b0 0 20000 && inB s.a1 0 20000 && inB s.b1 0 20000
def sideNo (s : Sec) (k : Nat) : Int := [s.a0, s.b0, s.a1, s.b1].getD k 0
theorem inB_ways (x : Int) : (inB x 0 20000 = true ∧ decide (x < 0) = false ∧ decide (20000 < x) = false) ∨ (inB x 0 20000 = false ∧ decide (x < 0) = true) ∨ (inB x 0 20000 = false ∧ decide (x < 0) = false ∧ decide (20000 < x) = true) := by
 unfold inB
 by_cases h1 : x < 0
 ·exact .inr (.inl ⟨by simp; omega, decide_eq_true h1⟩)
 ·by_cases h2 : 20000 < x
  ·exact .inr (.inr ⟨by simp; omega, decide_eq_false h1, decide_eq_true h2⟩)
  ·exact .inl ⟨by simp; omega, decide_eq_false h1, decide_eq_false h2⟩
theorem boundS_no (s : Sec) (k : Nat) (hk : k < 4) (h : inB (sideNo s k) 0 20000 = false) : boundS s = false := by
 unfold boundS
 match k, hk with
 | 0, _ => have h' : inB s.a0 0 20000 = false := h; rw [h']; simp
 | 1, _ => have h' : inB s.b0 0 20000 = false := h; rw [h']; simp
 | 2, _ => have h' : inB s.a1 0 20000 = false := h; rw [h']; simp
 | 3, _ => have h' : inB s.b1 0 20000 = false := h; rw [h']; simp
theorem boundS_yes (s : Sec) (h : ∀ j, j < 4 → inB (sideNo s j) 0 20000 = true) : boundS s = true := by
 unfold boundS
 have h0 : inB s.a0 0 20000 = true := h 0 (by omega)
 have h1 : inB s.b0 0 20000 = true := h 1 (by omega)
 have h2 : inB s.a1 0 20000 = true := h 2 (by omega)
 have h3 : inB s.b1 0 20000 = true := h 3 (by omega)
 rw [h0, h1, h2, h3]; rfl
theorem arr4_get (x : Nat → Int) (k : Nat) (hk : k < 4) (w : World) : (Instr.index 245 (Value.agg #[.int .i64 (x 0), .int .i64 (x 1), .int .i64 (x 2), .int .i64 (x 3)]) (Value.int .i64 (k : Int))).run Tryz.prog w = .ok (.int .i64 (x k)) w := by
 have hu : Tryz.prog.underlying 245 = some (.array 4 2) := by kernel_rfl
 match k, hk with
 | 0, _ => simp [Instr.index, run_underlying hu, asIntOf, part, go_sem]
 | 1, _ => simp [Instr.index, run_underlying hu, asIntOf, part, go_sem]
 | 2, _ => simp [Instr.index, run_underlying hu, asIntOf, part, go_sem]
 | 3, _ => simp [Instr.index, run_underlying hu, asIntOf, part, go_sem]
set_option maxHeartbeats 1000000 in
theorem bounded_any (r : Bool) (h a0 b0 a1 b1 : Int) (w : World) :
  Calls Tryz.prog 127 #[.agg #[.bool r, .int .i64 h, .int .i64 a0, .int .i64 b0, .int .i64 a1, .int .i64 b1]] w fun e w' => e = .returned (.bool (boundS ⟨r, h, a0, b0, a1, b1⟩)) ∧ Q w w' := by
 have hno := boundS_no ⟨r, h, a0, b0, a1, b1⟩
 have hyes := boundS_yes ⟨r, h, a0, b0, a1, b1⟩
 have hg := fun k hk w => arr4_get (sideNo ⟨r, h, a0, b0, a1, b1⟩) k hk w
 change ∀ k : Nat, k < 4 → ∀ w : World, (Instr.index 245 (Value.agg #[.int .i64 a0, .int .i64 b0, .int .i64 a1, .int .i64 b1]) (Value.int .i64 (k : Int))).run Tryz.prog w = .ok (.int .i64 (sideNo ⟨r, h, a0, b0, a1, b1⟩ k)) w at hg
 generalize hB : boundS ⟨r, h, a0, b0, a1, b1⟩ = B0 at *
 clear hB
 go_enter Tryz.func127, Tryz.ntmps127
 go_wp2
 have hq := (Q.refl w).alloc #[.bool r, .int .i64 h, .int .i64 a0, .int .i64 b0, .int .i64 a1, .int .i64 b1] 37
 generalize w.alloc _ = W1 at *
 go_loop [14] (fun i => ∃ k : Nat, k ≤ 4 ∧ i = .int .i64 k ∧ ∀ j, j < k → inB (sideNo ⟨r, h, a0, b0, a1, b1⟩ j) 0 20000 = true) (fun i => 4 - (intOf i).toNat)
 case atStart => exact ⟨0, Nat.zero_le _, rfl, fun j hj => absurd hj (by omega)⟩
 case round =>
  obtain ⟨k, hk, rfl, hall⟩ := hrel
  by_cases hl : k < 4
  ·have hlB : decide ((k : Int) < 4) = true := decide_eq_true (by omega)
   have ho := hno k hl
   have hx := hg k hl
   have hw := inB_ways (sideNo ⟨r, h, a0, b0, a1, b1⟩ k)
   have hn : inB (sideNo ⟨r, h, a0, b0, a1, b1⟩ k) 0 20000 = true → ∀ j, j < k + 1 → inB (sideNo ⟨r, h, a0, b0, a1, b1⟩ j) 0 20000 = true := fun hk j hj => by
    by_cases e : j = k
    ·rw [e]; exact hk
    ·exact hall j (by omega)
   clear hall hno hyes hg
   rcases hw with ⟨e0, e1, e2⟩ | ⟨e0, e1⟩ | ⟨e0, e1, e2⟩
   ·have HN := Lib.hid (hn e0)
    clear hn ho
    go_wp2
    go_round
    case rel => exact ⟨k + 1, by omega, by go_num, HN.out⟩
    case measure => simp [intOf]; omega
   ·have HO := Lib.hid (ho e0)
    clear hn ho
    go_wp2
    go_ret
    exact ⟨by rw [HO.out]; rfl, hq⟩
   ·have HO := Lib.hid (ho e0)
    clear hn ho
    go_wp2
    go_ret
    exact ⟨by rw [HO.out]; rfl, hq⟩
  ·have hlB : decide ((k : Int) < 4) = false := decide_eq_false (by omega)
   obtain rfl : k = 4 := by omega
   have HY := Lib.hid (hyes hall)
   clear hno hyes hg hall
   go_wp2
   go_ret
   exact ⟨by rw [HY.out]; rfl, hq⟩
end Go.Proofs.YtalnfojaccfcjaaGreatDoor
