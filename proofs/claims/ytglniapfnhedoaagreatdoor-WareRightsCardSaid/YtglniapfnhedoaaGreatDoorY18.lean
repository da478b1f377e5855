/-
 Contracts and what they rest on.
-/
import Derived.Test.YtglniapfnhedoaaGreatDoorY17
namespace Go.Proofs.YtglniapfnhedoaaGreatDoor
open Go.RowKit
set_option linter.unusedVariables false
def wellF (l : List UInt8) (v : Int) : Fl := match cwell l with
 | some (n, r, c) => ⟨strB n, r, c, v⟩
 | none => ⟨⟨#[]⟩, 0, 0, v⟩
def fa2 (ok : Bool) (x1 x2 : Wd) : Int × Int := askF (numIn 0 20000000 (strB x2.2)) (askF ok 0 0 x1.1 26).1 (askF ok 0 0 x1.1 26).2 x2.1 20
set_option maxRecDepth 100000 in
set_option maxHeartbeats 1600000 in
theorem addFill_any (Wb w : World) (base R S bw bt bf : Nat) (wv tv fv pv : Value) (head : Int) (d : Dk) (nw nt : List ByteArray) (fl : List Fl) (ss tt : List Value) (x1 x2 : Wd) (hb : Wb.heap.size ≤ base) (hB : B Wb w) (hbw : base ≤ w.heap.size) (hR : base ≤ R)
  (h : RdAt Wb w R [x1, x2] 0 0) (hS : StAt w base S bw bt bf wv tv fv pv head d nw nt fl ss tt) (hnw : nw = d.ws.map (·.n)) (hd : d.fs.length < 100000) (hfl : fl.length < 100000) (hx : x1.2.length ≤ 65536) :
  Calls Tryz.prog 66 #[.pointer (some ⟨S, 0, none⟩), .pointer (some ⟨R, 0, none⟩)] w fun r w' => r = .returned (.tuple #[]) ∧
   ∃ fv', RdAt Wb w' R [] (fa2 (wellOk d.ws fl x1.2) x1 x2).1 (fa2 (wellOk d.ws fl x1.2) x1 x2).2 ∧
    StAt w' base S bw bt bf wv tv fv' pv head { d with fs := d.fs ++ [wellF x1.2 ((numV (strB x2.2) : Nat) : Int)] } nw nt (wellN d.ws fl x1.2) ss tt ∧ Tn kS base w w' := by
 obtain ⟨i0, hi0, hz0, hz1, hz2⟩ := info_of fillInfo9
 have c0 := rwell_any Wb w base R S bw bf wv tv fv (.map (some bt)) pv (.int .i64 head) d.ws fl x1 [x2] 0 0 hb hB hR h hS.obj (fun w' t => (hS.rows.tn t (by decide) (by decide) (by decide) (by decide)).dk.ws) (hnw ▸ hS.mw) hS.mf hS.gf hfl hx
 obtain ⟨N, RR, CC, hV, hF⟩ : ∃ N RR CC, wellOV (cwell x1.2) = .agg #[.string N, .int .i64 RR, .int .i64 CC] ∧ ∀ v, wellF x1.2 v = ⟨N, RR, CC, v⟩ := by
  unfold wellF
  cases cwell x1.2 with
  | none => exact ⟨_, _, _, rfl, fun _ => rfl⟩
  | some z => exact ⟨_, _, _, rfl, fun _ => rfl⟩
 rw [hV] at c0
 rw [hF]
 clear hV hF
 go_enter Tryz.func66, Tryz.ntmps66
 go_wp2_with fail
 refine (Calls.mono c0 ?_)
 rintro _ w1 ⟨rfl, h1, f1, t1, u1⟩
 clear c0
 have qB : B w1 (w1.alloc (.cells #[.string N, .int .i64 RR, .int .i64 CC] 39)).drew := ((B.refl w1).alloc _ _).drew
 have oL := obj_new w1 (.cells #[.string N, .int .i64 RR, .int .i64 CC] 39)
 have tL : Tn kRM base w (w1.alloc (.cells #[.string N, .int .i64 RR, .int .i64 CC] 39)).drew := (t1.alloc _ _).drew
 have h1' := h1.tn (qB.tn [] base) (by simp)
 have f1' := f1.tn (qB.tn [] base) (by simp)
 have u1' := u1.trans (qB.tm bf)
 go_wp2_with fail
 have oS3 := tL.objc hS.obj (by decide)
 have row3 := hS.rows.tn tL (by decide) (by decide) (by decide) (by decide)
 have c1 := number9_any Wb (w1.alloc (.cells #[.string N, .int .i64 RR, .int .i64 CC] 39)).drew base R x2 [] _ _ 0 20000000 hb (tL.toB hB hb) hR h1'
 have hLo : (w1.alloc (.cells #[.string N, .int .i64 RR, .int .i64 CC] 39)).drew.heap[w1.heap.size]? = _ := oL
 clear oL h1 f1 t1 u1 qB
 have s2 : (w1.alloc (.cells #[.string N, .int .i64 RR, .int .i64 CC] 39)).drew.cell? ⟨S, 2, none⟩ = some fv := obj_cell oS3 2
 have l0 : (w1.alloc (.cells #[.string N, .int .i64 RR, .int .i64 CC] 39)).drew.cell? ⟨w1.heap.size, 0, none⟩ = some (.string N) := obj_cell hLo 0
 have l1 : (w1.alloc (.cells #[.string N, .int .i64 RR, .int .i64 CC] 39)).drew.cell? ⟨w1.heap.size, 1, none⟩ = some (.int .i64 RR) := obj_cell hLo 1
 have l2 : (w1.alloc (.cells #[.string N, .int .i64 RR, .int .i64 CC] 39)).drew.cell? ⟨w1.heap.size, 2, none⟩ = some (.int .i64 CC) := obj_cell hLo 2
 have hfact : ∀ w4, Tn kR base (w1.alloc (.cells #[.string N, .int .i64 RR, .int .i64 CC] 39)).drew w4 → w4.cell? ⟨S, 2, none⟩ = some fv ∧ w4.cell? ⟨w1.heap.size, 0, none⟩ = some (.string N) ∧ w4.cell? ⟨w1.heap.size, 1, none⟩ = some (.int .i64 RR) ∧ w4.cell? ⟨w1.heap.size, 2, none⟩ = some (.int .i64 CC) :=
  fun w4 t4 => ⟨obj_cell (t4.objc oS3 (by decide)) 2, obj_cell (t4.objc hLo (by decide)) 0, obj_cell (t4.objc hLo (by decide)) 1, obj_cell (t4.objc hLo (by decide)) 2⟩
 clear hLo
 generalize w1.heap.size = L at *
 refine wp_region_noPanic ?_
 refine wp_region_gate (S := fun w' => w'.cell? ⟨S, 2, none⟩ = some fv ∧ w'.cell? ⟨L, 0, none⟩ = some (.string N) ∧ w'.cell? ⟨L, 1, none⟩ = some (.int .i64 RR) ∧ w'.cell? ⟨L, 2, none⟩ = some (.int .i64 CC)) 11 [(0, 3), (1, 3), (2, 3), (3, 3), (4, 3), (5, 0), (6, 0), (7, 3), (8, 2), (9, 3), (10, 2), (11, 4), (12, 3), (13, 3), (14, 3), (15, 4)] [0, 0, 2, 4, 8, 16, 0, 0, 128, 320, 512, 1312, 4095, 8191, 12287, 20479] [0, 0, 2, 4, 8, 16, 0, 0, 128, 320, 512, 1056, 1, 4096, 8192, 18432] [0, 0, 0, 0, 0, 63520, 65088, 0, 0, 0, 0, 0, 0, 0, 0, 0] (by kernel_rfl) (by kernel_rfl) (fun _ _ _ _ _ h => h) ?_ (fun hH => ?_)
 ·exact ⟨s2, l0, l1, l2⟩
 refine wpSeqG_free (d := 8) (v := ?_) rfl rfl (by kernel_rfl) (fun w => ?_) ?_
 rotate_left
 ·go_simp <;> with_reducible rfl
 dsimp only [sZ, sS]
 refine wpSeqG_free (d := 9) (v := ?_) rfl rfl (by kernel_rfl) (fun w => ?_) ?_
 rotate_left
 ·go_simp <;> with_reducible rfl
 dsimp only [sZ, sS]
 refine wpSeqG_free (d := 10) (v := ?_) rfl rfl (by kernel_rfl) (fun w => ?_) ?_
 rotate_left
 ·go_simp <;> with_reducible rfl
 dsimp only [sZ, sS]
 refine wpSeqG_free (d := 11) (v := ?_) rfl rfl (by kernel_rfl) (fun w => ?_) ?_
 rotate_left
 ·go_simp <;> with_reducible rfl
 dsimp only [sZ, sS]
 refine wpSeqG_free (d := 12) (v := ?_) rfl rfl (by kernel_rfl) (fun w => ?_) ?_
 rotate_left
 ·go_simp <;> with_reducible rfl
 dsimp only [sZ, sS]
 refine wpSeqG_take (d := 13) (v := ?_) rfl rfl (by kernel_rfl) (fun w hS => ?_) ?_
 rotate_left
 ·go_simp <;> with_reducible rfl
 dsimp only [sZ, sS]
 refine wpSeqG_take (d := 14) (v := ?_) rfl rfl (by kernel_rfl) (fun w hS => ?_) ?_
 rotate_left
 ·go_simp <;> with_reducible rfl
 dsimp only [sZ, sS]
 refine wpSeqG_free (d := 15) (v := ?_) rfl rfl (by kernel_rfl) (fun w => ?_) ?_
 rotate_left
 ·go_simp <;> with_reducible rfl
 dsimp only [sZ, sS]
 refine wpSeqG_call rfl (by kernel_rfl) (fun K hK => ?_)
 go_simp
 (with_reducible refine (Calls.mono c1 ?_))
 rintro _ w4 ⟨rfl, h4, t4⟩
 have hS4 := hfact w4 t4
 have oS4 := t4.objc oS3 (by decide)
 have row4 := row3.tn t4 (by decide) (by decide) (by decide) (by decide)
 have qA : B w4 (w4.alloc (.cells #[.string N, .int .i64 RR, .int .i64 CC, .int .i64 ((numV (strB x2.2) : Nat) : Int)] 41)) := (B.refl w4).alloc _ _
 have hown := ownsRow_keepB row4.fs qA
 have hbase : base ≤ (w4.alloc (.cells #[.string N, .int .i64 RR, .int .i64 CC, .int .i64 ((numV (strB x2.2) : Nat) : Int)] 41)).heap.size := Nat.le_trans hbw (Nat.le_trans tL.size (Nat.le_trans t4.size qA.below.size))
 clear c1 hfact
 refine hK.out _ _ ?_ (fun hH => ?_)
 ·first | exact hS4 | exact ⟨((B.refl _).alloc _ _).keep hH.1, ((B.refl _).alloc _ _).keep hH.2.1, ((B.refl _).alloc _ _).keep hH.2.2.1, ((B.refl _).alloc _ _).keep hH.2.2.2⟩
 clear hK
 refine wpSeqG_free (d := 17) (v := ?_) rfl rfl (by kernel_rfl) (fun w => ?_) ?_
 rotate_left
 ·go_simp <;> with_reducible rfl
 dsimp only [sZ, sS]
 refine wpSeqG_call rfl (by kernel_rfl) (fun K hK => ?_)
 go_simp
 refine hK.out _ _ ?_ (fun hH => ?_)
 ·first | exact hS4 | exact ⟨((B.refl _).alloc _ _).keep hH.1, ((B.refl _).alloc _ _).keep hH.2.1, ((B.refl _).alloc _ _).keep hH.2.2.1, ((B.refl _).alloc _ _).keep hH.2.2.2⟩
 clear hK
 refine wpSeqG_gate rfl (by kernel_rfl) (fun K hK => ?_)
 refine wp_append_lies _ _ _ 24 rfl base 41 i0 (.agg #[.string ⟨#[]⟩, .int .i64 0, .int .i64 0, .int .i64 0]) 4 40 (by kernel_rfl) hi0 hz0 hz1 hz2 rfl (by omega) _ _ _ rfl hown ⟨w4.heap.size, 0, none⟩ 1 1 [.string N, .int .i64 RR, .int .i64 CC, .int .i64 ((numV (strB x2.2) : Nat) : Int)] rfl rfl (news_plain rfl) (by intro u hu; simp only [List.mem_cons, List.not_mem_nil, or_false] at hu; rcases hu with rfl | rfl | rfl | rfl <;> rfl) (by omega) (by unfold maxLen; omega) (by omega) hbase _ rfl ?_
 intro gN cN w9 hownN hgrowN hatN hltN
 have oS9 := obj_grown hgrowN (qA.obj oS4) (far_own (qA.obj oS4) hown (by decide))
 have y0 : w9.cell? ⟨S, 2, none⟩ = some fv := obj_cell oS9 2
 have y1 := obj_free oS9 2
 try simp only [Act.put, List.setIfInBounds_toArray, List.set_cons_zero, List.set_cons_succ]
 refine hK.out _ _ ?_
 clear hK
 refine wpSeqG_free (d := 20) (v := ?_) rfl rfl (by kernel_rfl) (fun w => ?_) ?_
 rotate_left
 ·go_simp <;> with_reducible rfl
 dsimp only [sZ, sS]
 refine wpSeqG_free (d := 21) (v := ?_) rfl rfl (by kernel_rfl) (fun w => ?_) ?_
 rotate_left
 ·go_simp <;> with_reducible rfl
 dsimp only [sZ, sS]
 refine wpSeqG_free (d := 22) (v := ?_) rfl rfl (by kernel_rfl) (fun w => ?_) ?_
 rotate_left
 ·go_simp <;> with_reducible rfl
 dsimp only [sZ, sS]
 refine wpSeqG_gate rfl (by kernel_rfl) (fun K hK => ?_)
 go_simp
 refine hK.out _ _ ?_
 clear hK
 refine wpSeqG_done ?_
 refine NoPanic.normal ?_
 all_goals
  first | go_end0 | refine bodyPost_ret (results_none rfl _ _ _) rfl ?_
  have row9 := (row4.b qA).addF (f := ⟨N, RR, CC, ((numV (strB x2.2) : Nat) : Int)⟩) hgrowN hownN
  have hA := h4.tn (qA.tn [] base) (by simp)
  have hRr : fv.ownBlock ≠ some R := by obtain ⟨v, k, _⟩ := hA; exact far_own k hown (by decide)
  have h9 := rd_grown hgrowN hA hRr
  have hRS : R ≠ S := fun e => by
   obtain ⟨v, k, _⟩ := h9
   rw [e, oS9] at k
   injection k with k
   injection k with _ k
   exact absurd k (by decide)
  have oth : ∀ i, i ≠ S → (w9.setCell ⟨S, 2, none⟩ (.slice (some ⟨gN, 0, none⟩) (d.fs.length + 1) cN)).heap[i]? = w9.heap[i]? := fun i hi => Below.heap_setCell _ ⟨S, 2, none⟩ _ i hi
  have mapS : ∀ {b : Nat}, (∃ es c, w9.heap[b]? = some (.map es c)) → b ≠ S := fun {b} ⟨es, c, hb⟩ e => by
   rw [e, oS9] at hb
   cases hb
  have qK : ∀ {b : Nat} {ns : List ByteArray}, b ≠ bf → NmAt w b ns → NmAt (w9.setCell ⟨S, 2, none⟩ (.slice (some ⟨gN, 0, none⟩) (d.fs.length + 1) cN)) b ns := fun {b ns} hne hb => by
   have k1 := ((hb.tm u1' hne).tn t4 (by decide)).tn (qA.tn [] base) (by simp)
   have k2 := nm_grown hgrowN k1 (far_map k1.obj hown)
   exact k2.same (oth _ (mapS k2.obj))
  have qF : FmAt (w9.setCell ⟨S, 2, none⟩ (.slice (some ⟨gN, 0, none⟩) (d.fs.length + 1) cN)) bf (wellN d.ws fl x1.2) := by
   have k1 := (f1'.tn t4 (by decide)).tn (qA.tn [] base) (by simp)
   have k2 := fm_grown hgrowN k1 (far_map k1.obj hown)
   exact k2.same (oth _ (mapS k2.obj))
  have tF : Tn kS base w (w9.setCell ⟨S, 2, none⟩ (.slice (some ⟨gN, 0, none⟩) (d.fs.length + 1) cN)) := Tn.set (p := ⟨S, 2, none⟩) (Tn.appended (((tL.mono (by decide) (Nat.le_refl _)).trans (t4.mono (by decide) (Nat.le_refl _))).trans (qA.tn kS base)) hown hgrowN (Nat.le_refl _) (by decide)) oS9 (by decide) hS.gS _
  exact ⟨rfl, _, RdAt.same h9 (oth R hRS), ⟨obj_set oS9 2 _, row9.tn (K := [some 80]) (b := base) ((Tn.refl _ base w9).set (p := ⟨S, 2, none⟩) oS9 (by decide) hS.gS _) (by decide) (by decide) (by decide) (by decide), qK hS.n2 hS.mw, qK hS.n3 hS.mt, qF, hS.gS, hS.gw, hS.gt, hS.gf, hS.n1, hS.n2, hS.n3⟩, tF⟩
end Go.Proofs.YtglniapfnhedoaaGreatDoor
namespace Go.Proofs.YtglniapfnhedoaaGreatDoor
open Go.RowKit
set_option linter.unusedVariables false
def faultE (f : Int × Int) : Nat × Nat := (f.1.toNat, f.2.toNat)
theorem numIn_no {m : Nat} {s : ByteArray} : (numOk s = false ∨ m < numV s ∨ numV s < 1) ↔ numIn 1 (m : Int) s = false := by
 unfold numIn
 cases numOk s
 ·simp
 ·simp only [Bool.true_and, Bool.and_eq_false_iff, decide_eq_false_iff_not]
  constructor
  ·rintro (h | h | h)
   ·cases h
   ·right; omega
   ·left; omega
  ·rintro (h | h)
   ·right; right; omega
   ·right; left; omega
theorem numIn0_no {m : Nat} {s : ByteArray} : (numOk s = false ∨ m < numV s) ↔ numIn 0 (m : Int) s = false := by
 unfold numIn
 cases numOk s
 ·simp
 ·simp only [Bool.true_and, Bool.and_eq_false_iff, decide_eq_false_iff_not]
  constructor
  ·rintro (h | h)
   ·cases h
   ·right; omega
  ·rintro (h | h)
   ·right; omega
   ·right; omega
theorem rec_fault (had : List Wr) (most m0 m1 m2 : Nat) (k n a b c : Wd) (hl : had.length < most) :
  recW had most m0 m1 m2 [k, n, a, b, c] = if (fa4 (nameS (strB n.2) && !namedL (had.map (·.n)) (strB n.2)) 25 n 1 m0 1 m1 0 m2 a b c).2 = 0 then .ok ⟨strB n.2, (numV (strB a.2) : Nat), (numV (strB b.2) : Nat), (numV (strB c.2) : Nat), []⟩
   else .error (faultE (fa4 (nameS (strB n.2) && !namedL (had.map (·.n)) (strB n.2)) 25 n 1 m0 1 m1 0 m2 a b c)) := by
 rw [named_map]
 unfold recW threeW
 simp only [if_neg (show ¬ most ≤ had.length by omega), numIn_no, numIn0_no]
 unfold fa4 askF faultE
 cases hA : nameS (strB n.2) <;> cases hN : namedW had (strB n.2) <;> cases hB : numIn 1 (m0 : Int) (strB a.2) <;> cases hC : numIn 1 (m1 : Int) (strB b.2) <;> cases hD : numIn 0 (m2 : Int) (strB c.2) <;> simp
theorem numsW_fault : ∀ (l : List Wd) (f : Int × Int), f.2 = 0 → (match numsW l with
  | .ok ns => (fas l f).2 = 0 ∧ ns = l.map fun x => numV (strB x.2)
  | .error p => (fas l f) = ((p : Int), 20))
 | [], f, h => ⟨h, rfl⟩
 | x :: l, f, h => by
  rw [numsW]
  cases ho : numOk (strB x.2)
  ·simp only [Bool.false_eq_true, if_false]
   have hf : askF (numOk (strB x.2)) f.1 f.2 x.1 20 = ((x.1 : Int), 20) := by rw [ho, h]; rfl
   show fas l (askF (numOk (strB x.2)) f.1 f.2 x.1 20) = _
   rw [hf]
   have keep : ∀ (l : List Wd) (p : Int), fas l (p, 20) = (p, 20) := fun l => by
    induction l with
    | nil => intro p; rfl
    | cons y l ih =>
     intro p
     show fas l (askF _ p 20 _ 20) = _
     have : askF (numOk (strB y.2)) p 20 y.1 20 = (p, 20) := by unfold askF; rw [if_neg (by simp)]
     rw [this, ih]
   exact keep l _
  ·simp only [if_true]
   have hf : askF (numOk (strB x.2)) f.1 f.2 x.1 20 = f := by rw [ho]; unfold askF; simp
   have ih := numsW_fault l f h
   have e : fas (x :: l) f = fas l f := by show fas l (askF (numOk (strB x.2)) f.1 f.2 x.1 20) = _; rw [hf]
   rw [e]
   cases hn : numsW l with
   | ok ns => rw [hn] at ih; exact ⟨ih.1, by rw [ih.2]; rfl⟩
   | error p => rw [hn] at ih; exact ih
theorem sec_round (k x1 x2 x3 : Wd) (hk : k.2 = kRound) : secW [k, x1, x2, x3] = if (fas [x1, x2, x3] (0, 0)).2 = 0 then .ok ⟨true, (numV (strB x1.2) : Nat), (numV (strB x2.2) : Nat), 0, (numV (strB x3.2) : Nat), 0⟩ else .error (faultE (fas [x1, x2, x3] (0, 0))) := by
 have h := numsW_fault [x1, x2, x3] (0, 0) rfl
 have hc : ¬ ([x1, x2, x3].length ≠ if k.2 = kBox then 5 else 3) := by rw [hk]; simp [kRound, kBox]
 unfold secW
 simp only [if_neg hc]
 cases hn : numsW [x1, x2, x3] with
 | ok ns =>
  rw [hn] at h
  rw [if_pos h.1, h.2]
  rfl
 | error p =>
  rw [hn] at h
  rw [h, if_neg (by simp)]
  rfl
theorem sec_box (k x1 x2 x3 x4 x5 : Wd) (hk : k.2 = kBox) : secW [k, x1, x2, x3, x4, x5] = if (fas [x1, x2, x3, x4, x5] (0, 0)).2 = 0 then .ok ⟨false, (numV (strB x1.2) : Nat), (numV (strB x2.2) : Nat), (numV (strB x3.2) : Nat), (numV (strB x4.2) : Nat), (numV (strB x5.2) : Nat)⟩ else .error (faultE (fas [x1, x2, x3, x4, x5] (0, 0))) := by
 have h := numsW_fault [x1, x2, x3, x4, x5] (0, 0) rfl
 have hc : ¬ ([x1, x2, x3, x4, x5].length ≠ if k.2 = kBox then 5 else 3) := by rw [hk]; simp
 unfold secW
 simp only [if_neg hc]
 cases hn : numsW [x1, x2, x3, x4, x5] with
 | ok ns =>
  rw [hn] at h
  rw [if_pos h.1, h.2]
  rfl
 | error p =>
  rw [hn] at h
  rw [h, if_neg (by simp)]
  rfl
def okW (ws : List Wr) : Prop := ∀ x ∈ ws, nameS x.n = true ∧ 1 ≤ x.x ∧ x.x ≤ 8 ∧ 1 ≤ x.y ∧ x.y ≤ 12
theorem hasW_in : ∀ (ws : List Wr) (K : Int) (n : ByteArray) (r c : Int), (indexW ws K n r c).isSome = true → ∃ x ∈ ws, x.n.toList = n.toList ∧ 0 ≤ r ∧ r < x.x ∧ 0 ≤ c ∧ c < x.y
 | [], _, _, _, _, h => by simp [indexW] at h
 | w :: ws, K, n, r, c, h => by
  rw [indexW] at h
  split at h
  ·rename_i hn
   split at h
   ·rename_i hr
    exact ⟨w, by simp, by simpa using hn, hr⟩
   ·simp at h
  ·obtain ⟨x, hx, h2⟩ := hasW_in ws _ n r c h
   exact ⟨x, by simp [hx], h2⟩
theorem ba_ext {a b : ByteArray} (h : a.toList = b.toList) : a = b := by
 rw [Go.Lib.toList_data, Go.Lib.toList_data] at h
 exact ByteArray.ext (Array.toList_inj.1 h)
theorem well_agree (ws : List Wr) (hw : okW ws) (l : List UInt8) :
  (∀ n r c, wellL l = some (n, r, c) → cwell l = some (n, (r : Int), (c : Int))) ∧
  (∀ n r c, cwell l = some (n, r, c) → hasW ws (strB n) r c = true → ∃ r' c' : Nat, wellL l = some (n, r', c') ∧ (r' : Int) = r ∧ (c' : Int) = c) := by
 have e : wellL l = match l.drop (dotAt l + 1) with
  | [] => none
  | r :: ds => if nameS (strB (l.take (dotAt l))) = true ∧ 65 ≤ r.toNat ∧ r.toNat ≤ 72 ∧ numOk (strB ds) = true ∧ 1 ≤ numV (strB ds) ∧ numV (strB ds) ≤ 12 then some (l.take (dotAt l), r.toNat - 65, numV (strB ds) - 1) else none := by
  rw [← take_dot l]
  rfl
 rw [e]
 unfold cwell
 clear e
 constructor
 ·intro n r c h
  cases hdr : l.drop (dotAt l + 1) with
  | nil => rw [hdr] at h; cases h
  | cons b ds =>
   rw [hdr] at h
   simp only at h
   split at h
   ·rename_i hc
    obtain ⟨h1, h2, h3, h4, h5, h6⟩ := hc
    simp only [Option.some.injEq, Prod.mk.injEq] at h
    obtain ⟨rfl, rfl, rfl⟩ := h
    have hin : numIn 1 12 (strB ds) = true := by
     unfold numIn
     rw [h4]
     simp only [Bool.true_and, Bool.and_eq_true, decide_eq_true_eq]
     omega
    simp only [hin, if_true, Option.some.injEq, Prod.mk.injEq, true_and]
    omega
   ·cases h
 ·intro n r c h hh
  cases hdr : l.drop (dotAt l + 1) with
  | nil => rw [hdr] at h; cases h
  | cons b ds =>
   rw [hdr] at h
   simp only at h ⊢
   split at h
   ·rename_i hin
    simp only [Option.some.injEq, Prod.mk.injEq] at h
    obtain ⟨rfl, rfl, rfl⟩ := h
    obtain ⟨x, hx, hn, hr0, hr1, hc0, hc1⟩ := hasW_in ws 0 _ _ _ hh
    obtain ⟨w1, w2, w3, w4, w5⟩ := hw x hx
    unfold numIn at hin
    simp only [Bool.and_eq_true, decide_eq_true_eq] at hin
    obtain ⟨⟨i1, i2⟩, i3⟩ := hin
    have hne := ba_ext hn
    have hcond : nameS (strB (l.take (dotAt l))) = true ∧ 65 ≤ b.toNat ∧ b.toNat ≤ 72 ∧ numOk (strB ds) = true ∧ 1 ≤ numV (strB ds) ∧ numV (strB ds) ≤ 12 := ⟨hne ▸ w1, by omega, by omega, i1, by omega, by omega⟩
    rw [if_pos hcond]
    exact ⟨_, _, rfl, by omega, by omega⟩
   ·cases h
theorem fill_fault (d : Dk) (hw : okW d.ws) (k x1 x2 : Wd) : fillW d [k, x1, x2] = if (fa2 (wellOk d.ws d.fs x1.2) x1 x2).2 = 0 then .ok (wellF x1.2 (numV (strB x2.2) : Nat)) else .error (faultE (fa2 (wellOk d.ws d.fs x1.2) x1 x2)) := by
 obtain ⟨a1, a2⟩ := well_agree d.ws hw x1.2
 unfold fillW wellOk wellF fa2 askF faultE
 simp only [numIn0_no]
 cases hl : wellL x1.2 with
 | none =>
  cases hc : cwell x1.2 with
  | none => simp
  | some z =>
   obtain ⟨n, r, c⟩ := z
   have hf : hasW d.ws (strB n) r c = false := by
    cases hh : hasW d.ws (strB n) r c
    ·rfl
    ·obtain ⟨r', c', h1, _⟩ := a2 n r c hc hh
     rw [hl] at h1
     cases h1
   simp [hf]
 | some z =>
  obtain ⟨n, r, c⟩ := z
  have hc := a1 n r c hl
  rw [hc]
  simp only
  rcases Bool.eq_false_or_eq_true (hasW d.ws (strB n) r c) with hA | hA <;> rcases Bool.eq_false_or_eq_true (filledW d.fs (strB n) r c) with hB | hB <;> rcases Bool.eq_false_or_eq_true (numIn 0 20000000 (strB x2.2)) with hN | hN <;> simp [hA, hB, hN]
end Go.Proofs.YtglniapfnhedoaaGreatDoor
namespace Go.Proofs.YtglniapfnhedoaaGreatDoor
open Go.RowKit
set_option linter.unusedVariables false
theorem StAt.piece {w : World} {base S bw bt bf : Nat} {wv tv fv pv pv' : Value} {head : Int} {d : Dk} {nw nt : List ByteArray} {fl : List Fl} {ss tt : List Value} (h : StAt w base S bw bt bf wv tv fv pv head d nw nt fl ss tt) :
  StAt (w.setCell ⟨S, 6, none⟩ pv') base S bw bt bf wv tv fv pv' head d nw nt fl ss tt := by
 have oth : ∀ i, i ≠ S → (w.setCell ⟨S, 6, none⟩ pv').heap[i]? = w.heap[i]? := fun i hi => Below.heap_setCell _ ⟨S, 6, none⟩ _ i hi
 have mapS : ∀ {b : Nat}, (∃ es c, w.heap[b]? = some (.map es c)) → b ≠ S := fun {b} ⟨es, c, hb⟩ e => by
  rw [e, h.obj] at hb
  cases hb
 exact ⟨obj_set h.obj 6 _, h.rows.tn (K := [some 80]) (b := base) ((Tn.refl _ base w).set (p := ⟨S, 6, none⟩) h.obj (by decide) h.gS _) (by decide) (by decide) (by decide) (by decide), h.mw.same (oth _ (mapS h.mw.obj)), h.mt.same (oth _ (mapS h.mt.obj)), h.mf.same (oth _ (mapS h.mf.obj)), h.gS, h.gw, h.gt, h.gf, h.n1, h.n2, h.n3⟩
set_option maxRecDepth 100000 in
set_option maxHeartbeats 1000000 in
theorem finish0_any (w : World) (base S bw bt bf : Nat) (wv tv fv : Value) (head : Int) (d : Dk) (nw nt : List ByteArray) (fl : List Fl) (ss tt : List Value) (hS : StAt w base S bw bt bf wv tv fv (.pointer none) head d nw nt fl ss tt) :
  Calls Tryz.prog 46 #[.pointer (some ⟨S, 0, none⟩)] w fun r w' => r = .returned (.agg #[.int .i64 0, .int .i64 0]) ∧ StAt w' base S bw bt bf wv tv fv (.pointer none) head d nw nt fl ss tt ∧ Tn kS base w w' := by
 have q0 : B w (w.alloc (.cells #[.int .i64 0, .int .i64 0] 98)) := (B.refl w).alloc _ _
 have hS1 := hS.b q0
 have oR := obj_new w (.cells #[.int .i64 0, .int .i64 0] 98)
 have hSl := obj_lt hS.obj
 have s6 : w.cell? ⟨S, 6, none⟩ = some (.pointer none) := obj_cell hS.obj 6
 have sf := obj_free hS.obj 6
 go_enter Tryz.func46, Tryz.ntmps46
 go_wp2
 refine bodyPost_ret (v := .agg #[.int .i64 0, .int .i64 0]) (by simp [results, Tryz.results46, go_sem]) rfl ⟨rfl, (hS.piece (pv' := .pointer none)).b ((B.refl _).alloc _ _), ((Tn.refl kS base w).set (p := ⟨S, 6, none⟩) hS.obj (by decide) hS.gS _).alloc _ _⟩
set_option maxRecDepth 100000 in
set_option maxHeartbeats 1000000 in
theorem finish_no (w : World) (base S bw bt bf g k : Nat) (wv tv fv v : Value) (l : List Sec) (head : Int) (d : Dk) (nw nt : List ByteArray) (fl : List Fl) (ss tt : List Value) (hS : StAt w base S bw bt bf wv tv fv (.pointer (some ⟨g, k, none⟩)) head d nw nt fl ss tt)
  (hv : w.cell? ⟨g, k, none⟩ = some v) (hl : IsSecs w v l) (hgS : g ≠ S) (hr : rightS l = false) :
  Calls Tryz.prog 46 #[.pointer (some ⟨S, 0, none⟩)] w fun r w' => r = .returned (.agg #[.int .i64 head, .int .i64 23]) ∧ Tn kS base w w' := by
 have q0 : B w (w.alloc (.cells #[.int .i64 0, .int .i64 0] 98)) := (B.refl w).alloc _ _
 have cR := fun w h => right_code v l w h
 have oR := obj_new w (.cells #[.int .i64 0, .int .i64 0] 98)
 have hSl := obj_lt hS.obj
 have hgl := World.block_lt_of_cell? w _ hv
 have s6 : w.cell? ⟨S, 6, none⟩ = some (.pointer (some ⟨g, k, none⟩)) := obj_cell hS.obj 6
 have hl1 := hl.keepB q0
 obtain ⟨vo, vc, rfl⟩ := secs_form hl
 generalize l.length = ln at *
 have oth2 : ∀ (w' : World) (q x y : Value) (i H : Nat), i ≠ H → ((w'.setCell ⟨H, 0, none⟩ x).setCell ⟨H, 1, none⟩ y).heap[i]? = w'.heap[i]? := fun w' q x y i H hi =>
  (Below.heap_setCell _ ⟨H, 1, none⟩ _ i hi).trans (Below.heap_setCell _ ⟨H, 0, none⟩ _ i hi)
 have qN : ∀ (b : World), B (w.alloc (.cells #[.int .i64 0, .int .i64 0] 98)) b → ∀ x y, Tn kS base w ((b.setCell ⟨w.heap.size, 0, none⟩ x).setCell ⟨w.heap.size, 1, none⟩ y) := fun b qb x y =>
  (Tn.setNew (p := ⟨w.heap.size, 0, none⟩) ((q0.trans qb).tn kS base) (Nat.le_refl _) x).setNew (p := ⟨w.heap.size, 1, none⟩) (Nat.le_refl _) y
 have qN2 : ∀ (b : World), Tn kS base w b → ∀ x y, Tn kS base w ((b.setCell ⟨w.heap.size, 0, none⟩ x).setCell ⟨w.heap.size, 1, none⟩ y) := fun b qb x y =>
  (Tn.setNew (p := ⟨w.heap.size, 0, none⟩) qb (Nat.le_refl _) x).setNew (p := ⟨w.heap.size, 1, none⟩) (Nat.le_refl _) y
 rw [hr] at cR
 go_enter Tryz.func46, Tryz.ntmps46
 go_wp2_with fail
 refine (Calls.mono (cR _ hl1) ?_)
 rintro _ w1 ⟨rfl, q1⟩
 have hS1 := (hS.b q0).b q1
 have oR1 := q1.obj oR
 have s7 : w1.cell? ⟨S, 7, none⟩ = some (.int .i64 head) := obj_cell hS1.obj 7
 have b0 : w1.cell? ⟨w.heap.size, 0, none⟩ = some (.int .i64 0) := obj_cell oR1 0
 have b1 : w1.cell? ⟨w.heap.size, 1, none⟩ = some (.int .i64 0) := obj_cell oR1 1
 have e0 := obj_free oR1 0
 have e1 := obj_free oR1 1
 have hq := qN w1 q1 (.int .i64 head) (.int .i64 23)
 clear qN qN2 oth2 cR hl1 oR q1 q0
 generalize w.heap.size = H at *
 go_wp2
 have oF := obj_set (obj_set oR1 0 (.int .i64 head)) 1 (.int .i64 23)
 have c0 := obj_cell oF 0
 have c1 := obj_cell oF 1
 exact bodyPost_ret (v := .agg #[.int .i64 head, .int .i64 23]) (by simp [results, Tryz.results46, go_sem, c0, c1]) rfl ⟨rfl, hq⟩
set_option maxRecDepth 100000 in
set_option maxHeartbeats 1000000 in
theorem finish_yes (w : World) (base S bw bt bf g k : Nat) (wv tv fv v : Value) (l : List Sec) (head : Int) (d : Dk) (nw nt : List ByteArray) (fl : List Fl) (ss tt : List Value) (hS : StAt w base S bw bt bf wv tv fv (.pointer (some ⟨g, k, none⟩)) head d nw nt fl ss tt)
  (hv : w.cell? ⟨g, k, none⟩ = some v) (hl : IsSecs w v l) (hgS : g ≠ S) (hr : rightS l = true) :
  Calls Tryz.prog 46 #[.pointer (some ⟨S, 0, none⟩)] w fun r w' => r = .returned (.agg #[.int .i64 0, .int .i64 0]) ∧ StAt w' base S bw bt bf wv tv fv (.pointer none) head d nw nt fl ss tt ∧ Tn kS base w w' := by
 have q0 : B w (w.alloc (.cells #[.int .i64 0, .int .i64 0] 98)) := (B.refl w).alloc _ _
 have cR := fun w h => right_code v l w h
 have oR := obj_new w (.cells #[.int .i64 0, .int .i64 0] 98)
 have hSl := obj_lt hS.obj
 have hgl := World.block_lt_of_cell? w _ hv
 have s6 : w.cell? ⟨S, 6, none⟩ = some (.pointer (some ⟨g, k, none⟩)) := obj_cell hS.obj 6
 have hl1 := hl.keepB q0
 obtain ⟨vo, vc, rfl⟩ := secs_form hl
 generalize l.length = ln at *
 have oth2 : ∀ (w' : World) (q x y : Value) (i H : Nat), i ≠ H → ((w'.setCell ⟨H, 0, none⟩ x).setCell ⟨H, 1, none⟩ y).heap[i]? = w'.heap[i]? := fun w' q x y i H hi =>
  (Below.heap_setCell _ ⟨H, 1, none⟩ _ i hi).trans (Below.heap_setCell _ ⟨H, 0, none⟩ _ i hi)
 have qN : ∀ (b : World), B (w.alloc (.cells #[.int .i64 0, .int .i64 0] 98)) b → ∀ x y, Tn kS base w ((b.setCell ⟨w.heap.size, 0, none⟩ x).setCell ⟨w.heap.size, 1, none⟩ y) := fun b qb x y =>
  (Tn.setNew (p := ⟨w.heap.size, 0, none⟩) ((q0.trans qb).tn kS base) (Nat.le_refl _) x).setNew (p := ⟨w.heap.size, 1, none⟩) (Nat.le_refl _) y
 have qN2 : ∀ (b : World), Tn kS base w b → ∀ x y, Tn kS base w ((b.setCell ⟨w.heap.size, 0, none⟩ x).setCell ⟨w.heap.size, 1, none⟩ y) := fun b qb x y =>
  (Tn.setNew (p := ⟨w.heap.size, 0, none⟩) qb (Nat.le_refl _) x).setNew (p := ⟨w.heap.size, 1, none⟩) (Nat.le_refl _) y
 rw [hr] at cR
 go_enter Tryz.func46, Tryz.ntmps46
 go_wp2_with fail
 refine (Calls.mono (cR _ hl1) ?_)
 rintro _ w1 ⟨rfl, q1⟩
 have hS1 := (hS.b q0).b q1
 have oR1 := q1.obj oR
 have hHS : w.heap.size ≠ S := by omega
 have hS2 := hS1.piece (pv' := .pointer none)
 have oR2 : (w1.setCell ⟨S, 6, none⟩ (.pointer none)).heap[w.heap.size]? = _ := (Below.heap_setCell _ ⟨S, 6, none⟩ _ _ hHS).trans oR1
 have s6 : w1.cell? ⟨S, 6, none⟩ = some (.pointer (some ⟨g, k, none⟩)) := obj_cell hS1.obj 6
 have sf := obj_free hS1.obj 6
 have b0 : (w1.setCell ⟨S, 6, none⟩ (.pointer none)).cell? ⟨w.heap.size, 0, none⟩ = some (.int .i64 0) := obj_cell oR2 0
 have b1 : (w1.setCell ⟨S, 6, none⟩ (.pointer none)).cell? ⟨w.heap.size, 1, none⟩ = some (.int .i64 0) := obj_cell oR2 1
 have e0 := obj_free oR2 0
 have e1 := obj_free oR2 1
 have hq := qN2 _ (Tn.set (p := ⟨S, 6, none⟩) ((q0.trans q1).tn kS base) hS1.obj (by decide) hS.gS (.pointer none)) (.int .i64 0) (.int .i64 0)
 have hlast := hS2.tn (K := [some 98]) (b := 0) (Tn.set (p := ⟨w.heap.size, 1, none⟩) (Tn.set (p := ⟨w.heap.size, 0, none⟩) (Tn.refl _ 0 _) oR2 (by decide) (Nat.zero_le _) (.int .i64 0)) (obj_set oR2 0 (.int .i64 0)) (by decide) (Nat.zero_le _) (.int .i64 0)) (by decide) (by decide) (by decide) (by decide) (by decide) (by decide)
 clear qN qN2 oth2 cR hl1 oR q1 q0 hHS
 generalize w.heap.size = H at *
 go_wp2
 have oF := obj_set (obj_set oR2 0 (.int .i64 0)) 1 (.int .i64 0)
 have c0 := obj_cell oF 0
 have c1 := obj_cell oF 1
 exact bodyPost_ret (v := .agg #[.int .i64 0, .int .i64 0]) (by simp [results, Tryz.results46, go_sem, c0, c1]) rfl ⟨rfl, hlast, hq⟩
end Go.Proofs.YtglniapfnhedoaaGreatDoor
namespace Go.Proofs.YtglniapfnhedoaaGreatDoor
open Go.RowKit
set_option linter.unusedVariables false
def lenS (s : ByteArray) : Int := if (s.toList == [102, 105, 108, 108]) = true then 3 else if (s.toList == [114, 111, 117, 110, 100]) = true then 4 else if (s.toList == [119, 97, 114, 101]) = true then 5 else if (s.toList == [116, 105, 112]) = true then 5 else if (s.toList == [98, 111, 120]) = true then 6 else 0
theorem length9_any (s : ByteArray) (w : World) : Calls Tryz.prog 44 #[.string s] w fun e w' => e = .returned (.int .i64 (lenS s)) ∧ w = w' := by
 unfold lenS
 cases h1 : s.toList == [102, 105, 108, 108]
 ·cases h2 : s.toList == [114, 111, 117, 110, 100]
  ·cases h3 : s.toList == [119, 97, 114, 101]
   ·cases h4 : s.toList == [116, 105, 112]
    ·cases h5 : s.toList == [98, 111, 120]
     all_goals
      go_enter Tryz.func44, Tryz.ntmps44
      go_wp2
      go_ret
      exact ⟨rfl, rfl⟩
    ·go_enter Tryz.func44, Tryz.ntmps44
     go_wp2
     go_ret
     exact ⟨rfl, rfl⟩
   ·go_enter Tryz.func44, Tryz.ntmps44
    go_wp2
    go_ret
    exact ⟨rfl, rfl⟩
  ·go_enter Tryz.func44, Tryz.ntmps44
   go_wp2
   go_ret
   exact ⟨rfl, rfl⟩
 ·go_enter Tryz.func44, Tryz.ntmps44
  go_wp2
  go_ret
  exact ⟨rfl, rfl⟩
def fullS (s : ByteArray) (nw nt : Nat) : Bool := if (s.toList == [119, 97, 114, 101]) = true then decide (nw = 8) else if (s.toList == [116, 105, 112]) = true then decide (nt = 4) else false
theorem dec_nat (n k : Nat) : ((n : Int) == (k : Int)) = decide (n = k) := by
 by_cases h : n = k
 ·simp [h]
 ·simp [h]; omega
theorem full_any (w : World) (S : Nat) (s : ByteArray) (ao bo : Option Addr) (nw nt ac bc : Nat) (fv m1 m2 m3 pv hv : Value) (hS : w.heap[S]? = some (.cells #[.slice ao nw ac, .slice bo nt bc, fv, m1, m2, m3, pv, hv] 80 (0, 0))) :
  Calls Tryz.prog 63 #[.pointer (some ⟨S, 0, none⟩), .string s] w fun e w' => e = .returned (.bool (fullS s nw nt)) ∧ w = w' := by
 have s0 : w.cell? ⟨S, 0, none⟩ = some (.slice ao nw ac) := obj_cell hS 0
 have s1 : w.cell? ⟨S, 1, none⟩ = some (.slice bo nt bc) := obj_cell hS 1
 have d8 := dec_nat nw 8
 have d4 := dec_nat nt 4
 unfold fullS
 cases h3 : s.toList == [119, 97, 114, 101]
 ·cases h4 : s.toList == [116, 105, 112]
  ·clear d8 d4
   go_enter Tryz.func63, Tryz.ntmps63
   go_wp2
   go_ret
   exact ⟨rfl, rfl⟩
  ·clear d8
   go_enter Tryz.func63, Tryz.ntmps63
   go_wp2
   go_ret
   exact ⟨by first | rfl | simp_all, rfl⟩
 ·clear d4
  go_enter Tryz.func63, Tryz.ntmps63
  go_wp2
  go_ret
  exact ⟨by first | rfl | simp_all, rfl⟩
end Go.Proofs.YtglniapfnhedoaaGreatDoor
namespace Go.Proofs.YtglniapfnhedoaaGreatDoor
open Go.RowKit
set_option linter.unusedVariables false
set_option maxRecDepth 100000 in
set_option maxHeartbeats 1600000 in
theorem line_shape (Wb w : World) (base S : Nat) (v : Value) (k : Wd) (l : List Wd) (p e : Int) (P : World → Prop) (hb : Wb.heap.size ≤ base) (hB : B Wb w) (hbw : base ≤ w.heap.size) (hv : IsWd Wb v (k :: l)) (hPs : ∀ w, P w → S < w.heap.size) (hr : ((strB k.2).toList == [114, 111, 117, 110, 100]) = false) (hbx : ((strB k.2).toList == [98, 111, 120]) = false) (he : e ≠ 0)
  (hfin : ∀ w', B w w' → Calls Tryz.prog 46 #[.pointer (some ⟨S, 0, none⟩)] w' fun r w'' => r = .returned (.agg #[.int .i64 p, .int .i64 e]) ∧ P w'' ∧ Tn kS base w' w'')
  :
  Calls Tryz.prog 45 #[.pointer (some ⟨S, 0, none⟩), v] w fun r w' => r = .returned (.agg #[.int .i64 p, .int .i64 e]) ∧ Tn kS base w w' := by
 obtain ⟨g, o, cap, rfl, h2, h3, h4⟩ := hv
 obtain ⟨x0, x1⟩ : w.cell? ⟨g, o, none⟩ = some (.int .i64 ((k.1 : Nat) : Int)) ∧ w.cell? ⟨g, o + 1, none⟩ = some (.string (strB k.2)) := by
  have := h4 0 k rfl
  exact ⟨hB.keep (by simpa using this.1), hB.keep (by simpa using this.2)⟩
 have hgl := World.block_lt_of_cell? w _ x0
 have hl0 : (0 : Int) < ((l.length : Int) + 1) := by omega
 have hcap : (l.length : Int) + 1 ≤ (cap : Int) := by simp at h2; omega
 have q0 : B w ((w.alloc (.cells #[.int .i64 0, .int .i64 0] 98)).alloc (.cells #[.int .i64 ((k.1 : Nat) : Int), .string (strB k.2)] 95)) := ((B.refl w).alloc _ _).alloc _ _
 have oH := obj_past (obj_new w (.cells #[.int .i64 0, .int .i64 0] 98)) (.cells #[.int .i64 ((k.1 : Nat) : Int), .string (strB k.2)] 95)
 have oF := obj_new (w.alloc (.cells #[.int .i64 0, .int .i64 0] 98)) (.cells #[.int .i64 ((k.1 : Nat) : Int), .string (strB k.2)] 95)
 have hNew : ∀ (b : World), Tn kS base w b → ∀ x y, Tn kS base w ((b.setCell ⟨w.heap.size, 0, none⟩ x).setCell ⟨w.heap.size, 1, none⟩ y) := fun b h x y =>
  (h.setNew (p := ⟨w.heap.size, 0, none⟩) (Nat.le_refl _) x).setNew (p := ⟨w.heap.size, 1, none⟩) (Nat.le_refl _) y
 have hsz : (w.alloc (.cells #[.int .i64 0, .int .i64 0] 98)).heap.size = w.heap.size + 1 := by simp
 rw [hsz] at oF
 clear hsz
 replace hfin := hfin _ q0
 go_enter Tryz.func45, Tryz.ntmps45
 go_wp2_with fail
 refine (Calls.mono hfin ?_)
 rintro _ w1 ⟨rfl, hP1, t1⟩
 clear hfin
 replace oH := t1.objc oH (by decide)
 replace oF := t1.objc oF (by decide)
 have tw : Tn kS base w w1 := (q0.tn _ _).trans t1
 replace hNew := fun b h x y => hNew b h x y
 generalize hH : w.heap.size = H at *
 have n0 : w1.cell? ⟨H + 1, 0, none⟩ = some (.int .i64 ((k.1 : Nat) : Int)) := obj_cell oF 0
 have n1 : w1.cell? ⟨H + 1, 1, none⟩ = some (.string (strB k.2)) := obj_cell oF 1
 have r0 : w1.cell? ⟨H, 0, none⟩ = some (.int .i64 0) := obj_cell oH 0
 have r1 : w1.cell? ⟨H, 1, none⟩ = some (.int .i64 0) := obj_cell oH 1
 have e0 := obj_free oH 0
 have e1 := obj_free oH 1
 have hH1 := obj_lt oF
 have hHl := obj_lt oH
 clear x0 x1 q0 t1 hgl
 have hSl := hPs _ hP1
 have hne : (e != 0) = true := by simpa using he
 go_wp2
 have oE := obj_past (obj_set (obj_set oH 0 (.int .i64 p)) 1 (.int .i64 e)) (.cells #[.int .i64 p, .int .i64 e] 98)
 have c0 := obj_cell oE 0
 have c1 := obj_cell oE 1
 exact bodyPost_ret (v := .agg #[.int .i64 p, .int .i64 e]) (by simp [results, Tryz.results45, go_sem, c0, c1]) rfl ⟨rfl, (hNew _ tw _ _).alloc _ _⟩
set_option maxRecDepth 100000 in
set_option maxHeartbeats 1600000 in
theorem line_word (Wb w : World) (base S : Nat) (v : Value) (k : Wd) (l : List Wd) (P : World → Prop) (hb : Wb.heap.size ≤ base) (hB : B Wb w) (hbw : base ≤ w.heap.size) (hv : IsWd Wb v (k :: l)) (hPs : ∀ w, P w → S < w.heap.size) (hr : ((strB k.2).toList == [114, 111, 117, 110, 100]) = false) (hbx : ((strB k.2).toList == [98, 111, 120]) = false) (hlen : ((l.length : Int) + 1 == lenS (strB k.2)) = false)
  (hfin : ∀ w', B w w' → Calls Tryz.prog 46 #[.pointer (some ⟨S, 0, none⟩)] w' fun r w'' => r = .returned (.agg #[.int .i64 0, .int .i64 0]) ∧ P w'' ∧ Tn kS base w' w'')
  (hPB : ∀ w' w'', B w' w'' → P w' → P w'')
  :
  Calls Tryz.prog 45 #[.pointer (some ⟨S, 0, none⟩), v] w fun r w' => r = .returned (.agg #[.int .i64 ((k.1 : Nat) : Int), .int .i64 24]) ∧ Tn kS base w w' := by
 obtain ⟨g, o, cap, rfl, h2, h3, h4⟩ := hv
 obtain ⟨x0, x1⟩ : w.cell? ⟨g, o, none⟩ = some (.int .i64 ((k.1 : Nat) : Int)) ∧ w.cell? ⟨g, o + 1, none⟩ = some (.string (strB k.2)) := by
  have := h4 0 k rfl
  exact ⟨hB.keep (by simpa using this.1), hB.keep (by simpa using this.2)⟩
 have hgl := World.block_lt_of_cell? w _ x0
 have hl0 : (0 : Int) < ((l.length : Int) + 1) := by omega
 have hcap : (l.length : Int) + 1 ≤ (cap : Int) := by simp at h2; omega
 have q0 : B w ((w.alloc (.cells #[.int .i64 0, .int .i64 0] 98)).alloc (.cells #[.int .i64 ((k.1 : Nat) : Int), .string (strB k.2)] 95)) := ((B.refl w).alloc _ _).alloc _ _
 have oH := obj_past (obj_new w (.cells #[.int .i64 0, .int .i64 0] 98)) (.cells #[.int .i64 ((k.1 : Nat) : Int), .string (strB k.2)] 95)
 have oF := obj_new (w.alloc (.cells #[.int .i64 0, .int .i64 0] 98)) (.cells #[.int .i64 ((k.1 : Nat) : Int), .string (strB k.2)] 95)
 have hNew : ∀ (b : World), Tn kS base w b → ∀ x y, Tn kS base w ((b.setCell ⟨w.heap.size, 0, none⟩ x).setCell ⟨w.heap.size, 1, none⟩ y) := fun b h x y =>
  (h.setNew (p := ⟨w.heap.size, 0, none⟩) (Nat.le_refl _) x).setNew (p := ⟨w.heap.size, 1, none⟩) (Nat.le_refl _) y
 have hsz : (w.alloc (.cells #[.int .i64 0, .int .i64 0] 98)).heap.size = w.heap.size + 1 := by simp
 rw [hsz] at oF
 clear hsz
 replace hfin := hfin _ q0
 go_enter Tryz.func45, Tryz.ntmps45
 go_wp2_with fail
 refine (Calls.mono hfin ?_)
 rintro _ w1 ⟨rfl, hP1, t1⟩
 clear hfin
 replace oH := t1.objc oH (by decide)
 replace oF := t1.objc oF (by decide)
 have tw : Tn kS base w w1 := (q0.tn _ _).trans t1
 replace hNew := fun b h x y => hNew b h x y
 generalize hH : w.heap.size = H at *
 have n0 : w1.cell? ⟨H + 1, 0, none⟩ = some (.int .i64 ((k.1 : Nat) : Int)) := obj_cell oF 0
 have n1 : w1.cell? ⟨H + 1, 1, none⟩ = some (.string (strB k.2)) := obj_cell oF 1
 have r0 : w1.cell? ⟨H, 0, none⟩ = some (.int .i64 0) := obj_cell oH 0
 have r1 : w1.cell? ⟨H, 1, none⟩ = some (.int .i64 0) := obj_cell oH 1
 have e0 := obj_free oH 0
 have e1 := obj_free oH 1
 have hH1 := obj_lt oF
 have hHl := obj_lt oH
 clear x0 x1 q0 t1 hgl
 have hSl := hPs _ hP1
 have cl := fun w => length9_any (strB k.2) w
 generalize lenS (strB k.2) = LN at *
 have hln : ((l.length : Int) + 1 != LN) = true := by rw [bne, hlen]; rfl
 go_wp2_with ((go_at_call 44; refine (cl _).mono ?_; rintro _ _ ⟨rfl, rfl⟩))
 have oE := obj_past (obj_set (obj_set oH 0 (.int .i64 ((k.1 : Nat) : Int))) 1 (.int .i64 24)) (.cells #[.int .i64 0, .int .i64 0] 98)
 have c0 := obj_cell oE 0
 have c1 := obj_cell oE 1
 exact bodyPost_ret (v := .agg #[.int .i64 ((k.1 : Nat) : Int), .int .i64 24]) (by simp [results, Tryz.results45, go_sem, c0, c1]) rfl ⟨rfl, (hNew _ tw _ _).alloc _ _⟩
set_option maxRecDepth 100000 in
set_option maxHeartbeats 1600000 in
theorem line_full (Wb w : World) (base S : Nat) (v : Value) (k : Wd) (l : List Wd) (P : World → Prop) (hb : Wb.heap.size ≤ base) (hB : B Wb w) (hbw : base ≤ w.heap.size) (hv : IsWd Wb v (k :: l)) (hPs : ∀ w, P w → S < w.heap.size) (hr : ((strB k.2).toList == [114, 111, 117, 110, 100]) = false) (hbx : ((strB k.2).toList == [98, 111, 120]) = false) (hlen : ((l.length : Int) + 1 == lenS (strB k.2)) = true)
  (hfin : ∀ w', B w w' → Calls Tryz.prog 46 #[.pointer (some ⟨S, 0, none⟩)] w' fun r w'' => r = .returned (.agg #[.int .i64 0, .int .i64 0]) ∧ P w'' ∧ Tn kS base w' w'')
  (hPB : ∀ w' w'', B w' w'' → P w' → P w'')
  (hfull : ∀ w', P w' → Calls Tryz.prog 63 #[.pointer (some ⟨S, 0, none⟩), .string (strB k.2)] w' fun e w'' => e = .returned (.bool true) ∧ w' = w'')
  :
  Calls Tryz.prog 45 #[.pointer (some ⟨S, 0, none⟩), v] w fun r w' => r = .returned (.agg #[.int .i64 ((k.1 : Nat) : Int), .int .i64 27]) ∧ Tn kS base w w' := by
 obtain ⟨g, o, cap, rfl, h2, h3, h4⟩ := hv
 obtain ⟨x0, x1⟩ : w.cell? ⟨g, o, none⟩ = some (.int .i64 ((k.1 : Nat) : Int)) ∧ w.cell? ⟨g, o + 1, none⟩ = some (.string (strB k.2)) := by
  have := h4 0 k rfl
  exact ⟨hB.keep (by simpa using this.1), hB.keep (by simpa using this.2)⟩
 have hgl := World.block_lt_of_cell? w _ x0
 have hl0 : (0 : Int) < ((l.length : Int) + 1) := by omega
 have hcap : (l.length : Int) + 1 ≤ (cap : Int) := by simp at h2; omega
 have q0 : B w ((w.alloc (.cells #[.int .i64 0, .int .i64 0] 98)).alloc (.cells #[.int .i64 ((k.1 : Nat) : Int), .string (strB k.2)] 95)) := ((B.refl w).alloc _ _).alloc _ _
 have oH := obj_past (obj_new w (.cells #[.int .i64 0, .int .i64 0] 98)) (.cells #[.int .i64 ((k.1 : Nat) : Int), .string (strB k.2)] 95)
 have oF := obj_new (w.alloc (.cells #[.int .i64 0, .int .i64 0] 98)) (.cells #[.int .i64 ((k.1 : Nat) : Int), .string (strB k.2)] 95)
 have hNew : ∀ (b : World), Tn kS base w b → ∀ x y, Tn kS base w ((b.setCell ⟨w.heap.size, 0, none⟩ x).setCell ⟨w.heap.size, 1, none⟩ y) := fun b h x y =>
  (h.setNew (p := ⟨w.heap.size, 0, none⟩) (Nat.le_refl _) x).setNew (p := ⟨w.heap.size, 1, none⟩) (Nat.le_refl _) y
 have hsz : (w.alloc (.cells #[.int .i64 0, .int .i64 0] 98)).heap.size = w.heap.size + 1 := by simp
 rw [hsz] at oF
 clear hsz
 replace hfin := hfin _ q0
 go_enter Tryz.func45, Tryz.ntmps45
 go_wp2_with fail
 refine (Calls.mono hfin ?_)
 rintro _ w1 ⟨rfl, hP1, t1⟩
 clear hfin
 replace oH := t1.objc oH (by decide)
 replace oF := t1.objc oF (by decide)
 have tw : Tn kS base w w1 := (q0.tn _ _).trans t1
 replace hNew := fun b h x y => hNew b h x y
 generalize hH : w.heap.size = H at *
 have n0 : w1.cell? ⟨H + 1, 0, none⟩ = some (.int .i64 ((k.1 : Nat) : Int)) := obj_cell oF 0
 have n1 : w1.cell? ⟨H + 1, 1, none⟩ = some (.string (strB k.2)) := obj_cell oF 1
 have r0 : w1.cell? ⟨H, 0, none⟩ = some (.int .i64 0) := obj_cell oH 0
 have r1 : w1.cell? ⟨H, 1, none⟩ = some (.int .i64 0) := obj_cell oH 1
 have e0 := obj_free oH 0
 have e1 := obj_free oH 1
 have hH1 := obj_lt oF
 have hHl := obj_lt oH
 clear x0 x1 q0 t1 hgl
 have hSl := hPs _ hP1
 have cl := fun w => length9_any (strB k.2) w
 generalize lenS (strB k.2) = LN at *
 have hPf := hPB _ _ ((B.refl w1).alloc #[.int .i64 0, .int .i64 0] 98) hP1
 have cf := hfull _ hPf
 have hln : ((l.length : Int) + 1 != LN) = false := by rw [bne, hlen]; rfl
 go_wp2_with (first | (go_at_call 44; refine (cl _).mono ?_; rintro _ _ ⟨rfl, rfl⟩) | (go_at_call 63; refine (Calls.mono cf ?_); rintro _ _ ⟨rfl, rfl⟩))
 have oE := obj_past (obj_set (obj_set oH 0 (.int .i64 ((k.1 : Nat) : Int))) 1 (.int .i64 27)) (.cells #[.int .i64 0, .int .i64 0] 98)
 have c0 := obj_cell oE 0
 have c1 := obj_cell oE 1
 exact bodyPost_ret (v := .agg #[.int .i64 ((k.1 : Nat) : Int), .int .i64 27]) (by simp [results, Tryz.results45, go_sem, c0, c1]) rfl ⟨rfl, (hNew _ tw _ _).alloc _ _⟩
set_option maxRecDepth 100000 in
set_option maxHeartbeats 1600000 in
theorem line_wordR (Wb w : World) (base S : Nat) (v : Value) (k : Wd) (l : List Wd) (P : World → Prop) (hb : Wb.heap.size ≤ base) (hB : B Wb w) (hbw : base ≤ w.heap.size) (hv : IsWd Wb v (k :: l)) (hPs : ∀ w, P w → S < w.heap.size) (pv : Value) (hr : ((strB k.2).toList == [114, 111, 117, 110, 100]) = true) (hlen : ((l.length : Int) + 1 == lenS (strB k.2)) = false)
  (hP0 : P w) (hpv : ∀ w', P w' → w'.cell? ⟨S, 6, none⟩ = some pv)
  (hPB : ∀ w' w'', B w' w'' → P w' → P w'')
  :
  Calls Tryz.prog 45 #[.pointer (some ⟨S, 0, none⟩), v] w fun r w' => r = .returned (.agg #[.int .i64 ((k.1 : Nat) : Int), .int .i64 24]) ∧ Tn kS base w w' := by
 obtain ⟨g, o, cap, rfl, h2, h3, h4⟩ := hv
 obtain ⟨x0, x1⟩ : w.cell? ⟨g, o, none⟩ = some (.int .i64 ((k.1 : Nat) : Int)) ∧ w.cell? ⟨g, o + 1, none⟩ = some (.string (strB k.2)) := by
  have := h4 0 k rfl
  exact ⟨hB.keep (by simpa using this.1), hB.keep (by simpa using this.2)⟩
 have hgl := World.block_lt_of_cell? w _ x0
 have hl0 : (0 : Int) < ((l.length : Int) + 1) := by omega
 have hcap : (l.length : Int) + 1 ≤ (cap : Int) := by simp at h2; omega
 have q0 : B w ((w.alloc (.cells #[.int .i64 0, .int .i64 0] 98)).alloc (.cells #[.int .i64 ((k.1 : Nat) : Int), .string (strB k.2)] 95)) := ((B.refl w).alloc _ _).alloc _ _
 have oH := obj_past (obj_new w (.cells #[.int .i64 0, .int .i64 0] 98)) (.cells #[.int .i64 ((k.1 : Nat) : Int), .string (strB k.2)] 95)
 have oF := obj_new (w.alloc (.cells #[.int .i64 0, .int .i64 0] 98)) (.cells #[.int .i64 ((k.1 : Nat) : Int), .string (strB k.2)] 95)
 have hNew : ∀ (b : World), Tn kS base w b → ∀ x y, Tn kS base w ((b.setCell ⟨w.heap.size, 0, none⟩ x).setCell ⟨w.heap.size, 1, none⟩ y) := fun b h x y =>
  (h.setNew (p := ⟨w.heap.size, 0, none⟩) (Nat.le_refl _) x).setNew (p := ⟨w.heap.size, 1, none⟩) (Nat.le_refl _) y
 have hsz : (w.alloc (.cells #[.int .i64 0, .int .i64 0] 98)).heap.size = w.heap.size + 1 := by simp
 rw [hsz] at oF
 clear hsz
 have hP1 := hPB _ _ q0 hP0
 have s6 := hpv _ hP1
 go_enter Tryz.func45, Tryz.ntmps45
 go_wp2_with fail
 have tw := q0.tn kS base
 have hP1' := hP1
 generalize hH : w.heap.size = H at *
 generalize hw1 : ((w.alloc (.cells #[.int .i64 0, .int .i64 0] 98)).alloc (.cells #[.int .i64 ((k.1 : Nat) : Int), .string (strB k.2)] 95)) = w1 at *
 have n0 : w1.cell? ⟨H + 1, 0, none⟩ = some (.int .i64 ((k.1 : Nat) : Int)) := obj_cell oF 0
 have n1 : w1.cell? ⟨H + 1, 1, none⟩ = some (.string (strB k.2)) := obj_cell oF 1
 have r0 : w1.cell? ⟨H, 0, none⟩ = some (.int .i64 0) := obj_cell oH 0
 have r1 : w1.cell? ⟨H, 1, none⟩ = some (.int .i64 0) := obj_cell oH 1
 have e0 := obj_free oH 0
 have e1 := obj_free oH 1
 have hH1 := obj_lt oF
 have hHl := obj_lt oH
 clear x0 x1 q0 hgl hw1
 have hSl := hPs _ hP1
 have cl := fun w => length9_any (strB k.2) w
 generalize lenS (strB k.2) = LN at *
 have hln : ((l.length : Int) + 1 != LN) = true := by rw [bne, hlen]; rfl
 go_wp2_with ((go_at_call 44; refine (cl _).mono ?_; rintro _ _ ⟨rfl, rfl⟩))
 have oE := obj_set (obj_set oH 0 (.int .i64 ((k.1 : Nat) : Int))) 1 (.int .i64 24)
 have c0 := obj_cell oE 0
 have c1 := obj_cell oE 1
 exact bodyPost_ret (v := .agg #[.int .i64 ((k.1 : Nat) : Int), .int .i64 24]) (by simp [results, Tryz.results45, go_sem, c0, c1]) rfl ⟨rfl, hNew _ tw _ _⟩
set_option maxRecDepth 100000 in
set_option maxHeartbeats 1600000 in
theorem line_wordB (Wb w : World) (base S : Nat) (v : Value) (k : Wd) (l : List Wd) (P : World → Prop) (hb : Wb.heap.size ≤ base) (hB : B Wb w) (hbw : base ≤ w.heap.size) (hv : IsWd Wb v (k :: l)) (hPs : ∀ w, P w → S < w.heap.size) (pv : Value) (hr : ((strB k.2).toList == [114, 111, 117, 110, 100]) = false) (hbx : ((strB k.2).toList == [98, 111, 120]) = true) (hlen : ((l.length : Int) + 1 == lenS (strB k.2)) = false)
  (hP0 : P w) (hpv : ∀ w', P w' → w'.cell? ⟨S, 6, none⟩ = some pv)
  (hPB : ∀ w' w'', B w' w'' → P w' → P w'')
  :
  Calls Tryz.prog 45 #[.pointer (some ⟨S, 0, none⟩), v] w fun r w' => r = .returned (.agg #[.int .i64 ((k.1 : Nat) : Int), .int .i64 24]) ∧ Tn kS base w w' := by
 obtain ⟨g, o, cap, rfl, h2, h3, h4⟩ := hv
 obtain ⟨x0, x1⟩ : w.cell? ⟨g, o, none⟩ = some (.int .i64 ((k.1 : Nat) : Int)) ∧ w.cell? ⟨g, o + 1, none⟩ = some (.string (strB k.2)) := by
  have := h4 0 k rfl
  exact ⟨hB.keep (by simpa using this.1), hB.keep (by simpa using this.2)⟩
 have hgl := World.block_lt_of_cell? w _ x0
 have hl0 : (0 : Int) < ((l.length : Int) + 1) := by omega
 have hcap : (l.length : Int) + 1 ≤ (cap : Int) := by simp at h2; omega
 have q0 : B w ((w.alloc (.cells #[.int .i64 0, .int .i64 0] 98)).alloc (.cells #[.int .i64 ((k.1 : Nat) : Int), .string (strB k.2)] 95)) := ((B.refl w).alloc _ _).alloc _ _
 have oH := obj_past (obj_new w (.cells #[.int .i64 0, .int .i64 0] 98)) (.cells #[.int .i64 ((k.1 : Nat) : Int), .string (strB k.2)] 95)
 have oF := obj_new (w.alloc (.cells #[.int .i64 0, .int .i64 0] 98)) (.cells #[.int .i64 ((k.1 : Nat) : Int), .string (strB k.2)] 95)
 have hNew : ∀ (b : World), Tn kS base w b → ∀ x y, Tn kS base w ((b.setCell ⟨w.heap.size, 0, none⟩ x).setCell ⟨w.heap.size, 1, none⟩ y) := fun b h x y =>
  (h.setNew (p := ⟨w.heap.size, 0, none⟩) (Nat.le_refl _) x).setNew (p := ⟨w.heap.size, 1, none⟩) (Nat.le_refl _) y
 have hsz : (w.alloc (.cells #[.int .i64 0, .int .i64 0] 98)).heap.size = w.heap.size + 1 := by simp
 rw [hsz] at oF
 clear hsz
 have hP1 := hPB _ _ q0 hP0
 have s6 := hpv _ hP1
 go_enter Tryz.func45, Tryz.ntmps45
 go_wp2_with fail
 have tw := q0.tn kS base
 have hP1' := hP1
 generalize hH : w.heap.size = H at *
 generalize hw1 : ((w.alloc (.cells #[.int .i64 0, .int .i64 0] 98)).alloc (.cells #[.int .i64 ((k.1 : Nat) : Int), .string (strB k.2)] 95)) = w1 at *
 have n0 : w1.cell? ⟨H + 1, 0, none⟩ = some (.int .i64 ((k.1 : Nat) : Int)) := obj_cell oF 0
 have n1 : w1.cell? ⟨H + 1, 1, none⟩ = some (.string (strB k.2)) := obj_cell oF 1
 have r0 : w1.cell? ⟨H, 0, none⟩ = some (.int .i64 0) := obj_cell oH 0
 have r1 : w1.cell? ⟨H, 1, none⟩ = some (.int .i64 0) := obj_cell oH 1
 have e0 := obj_free oH 0
 have e1 := obj_free oH 1
 have hH1 := obj_lt oF
 have hHl := obj_lt oH
 clear x0 x1 q0 hgl hw1
 have hSl := hPs _ hP1
 have cl := fun w => length9_any (strB k.2) w
 generalize lenS (strB k.2) = LN at *
 have hln : ((l.length : Int) + 1 != LN) = true := by rw [bne, hlen]; rfl
 go_wp2_with ((go_at_call 44; refine (cl _).mono ?_; rintro _ _ ⟨rfl, rfl⟩))
 have oE := obj_set (obj_set oH 0 (.int .i64 ((k.1 : Nat) : Int))) 1 (.int .i64 24)
 have c0 := obj_cell oE 0
 have c1 := obj_cell oE 1
 exact bodyPost_ret (v := .agg #[.int .i64 ((k.1 : Nat) : Int), .int .i64 24]) (by simp [results, Tryz.results45, go_sem, c0, c1]) rfl ⟨rfl, hNew _ tw _ _⟩
set_option maxRecDepth 100000 in
set_option maxHeartbeats 1600000 in
theorem line_nilR (Wb w : World) (base S : Nat) (v : Value) (k : Wd) (l : List Wd) (P : World → Prop) (hb : Wb.heap.size ≤ base) (hB : B Wb w) (hbw : base ≤ w.heap.size) (hv : IsWd Wb v (k :: l)) (hPs : ∀ w, P w → S < w.heap.size) (pv : Value) (hr : ((strB k.2).toList == [114, 111, 117, 110, 100]) = true) (hlen : ((l.length : Int) + 1 == lenS (strB k.2)) = true) (hnil : pv = .pointer none)
  (hP0 : P w) (hpv : ∀ w', P w' → w'.cell? ⟨S, 6, none⟩ = some pv)
  (hPB : ∀ w' w'', B w' w'' → P w' → P w'')
  :
  Calls Tryz.prog 45 #[.pointer (some ⟨S, 0, none⟩), v] w fun r w' => r = .returned (.agg #[.int .i64 ((k.1 : Nat) : Int), .int .i64 24]) ∧ Tn kS base w w' := by
 obtain ⟨g, o, cap, rfl, h2, h3, h4⟩ := hv
 obtain ⟨x0, x1⟩ : w.cell? ⟨g, o, none⟩ = some (.int .i64 ((k.1 : Nat) : Int)) ∧ w.cell? ⟨g, o + 1, none⟩ = some (.string (strB k.2)) := by
  have := h4 0 k rfl
  exact ⟨hB.keep (by simpa using this.1), hB.keep (by simpa using this.2)⟩
 have hgl := World.block_lt_of_cell? w _ x0
 have hl0 : (0 : Int) < ((l.length : Int) + 1) := by omega
 have hcap : (l.length : Int) + 1 ≤ (cap : Int) := by simp at h2; omega
 have q0 : B w ((w.alloc (.cells #[.int .i64 0, .int .i64 0] 98)).alloc (.cells #[.int .i64 ((k.1 : Nat) : Int), .string (strB k.2)] 95)) := ((B.refl w).alloc _ _).alloc _ _
 have oH := obj_past (obj_new w (.cells #[.int .i64 0, .int .i64 0] 98)) (.cells #[.int .i64 ((k.1 : Nat) : Int), .string (strB k.2)] 95)
 have oF := obj_new (w.alloc (.cells #[.int .i64 0, .int .i64 0] 98)) (.cells #[.int .i64 ((k.1 : Nat) : Int), .string (strB k.2)] 95)
 have hNew : ∀ (b : World), Tn kS base w b → ∀ x y, Tn kS base w ((b.setCell ⟨w.heap.size, 0, none⟩ x).setCell ⟨w.heap.size, 1, none⟩ y) := fun b h x y =>
  (h.setNew (p := ⟨w.heap.size, 0, none⟩) (Nat.le_refl _) x).setNew (p := ⟨w.heap.size, 1, none⟩) (Nat.le_refl _) y
 have hsz : (w.alloc (.cells #[.int .i64 0, .int .i64 0] 98)).heap.size = w.heap.size + 1 := by simp
 rw [hsz] at oF
 clear hsz
 have hP1 := hPB _ _ q0 hP0
 have s6 := hpv _ hP1
 subst hnil
 go_enter Tryz.func45, Tryz.ntmps45
 go_wp2_with fail
 have tw := q0.tn kS base
 have hP1' := hP1
 generalize hH : w.heap.size = H at *
 generalize hw1 : ((w.alloc (.cells #[.int .i64 0, .int .i64 0] 98)).alloc (.cells #[.int .i64 ((k.1 : Nat) : Int), .string (strB k.2)] 95)) = w1 at *
 have n0 : w1.cell? ⟨H + 1, 0, none⟩ = some (.int .i64 ((k.1 : Nat) : Int)) := obj_cell oF 0
 have n1 : w1.cell? ⟨H + 1, 1, none⟩ = some (.string (strB k.2)) := obj_cell oF 1
 have r0 : w1.cell? ⟨H, 0, none⟩ = some (.int .i64 0) := obj_cell oH 0
 have r1 : w1.cell? ⟨H, 1, none⟩ = some (.int .i64 0) := obj_cell oH 1
 have e0 := obj_free oH 0
 have e1 := obj_free oH 1
 have hH1 := obj_lt oF
 have hHl := obj_lt oH
 clear x0 x1 q0 hgl hw1
 have hSl := hPs _ hP1
 have cl := fun w => length9_any (strB k.2) w
 generalize lenS (strB k.2) = LN at *
 have hln : ((l.length : Int) + 1 != LN) = false := by rw [bne, hlen]; rfl
 go_wp2_with ((go_at_call 44; refine (cl _).mono ?_; rintro _ _ ⟨rfl, rfl⟩))
 have oE := obj_set (obj_set oH 0 (.int .i64 ((k.1 : Nat) : Int))) 1 (.int .i64 24)
 have c0 := obj_cell oE 0
 have c1 := obj_cell oE 1
 exact bodyPost_ret (v := .agg #[.int .i64 ((k.1 : Nat) : Int), .int .i64 24]) (by simp [results, Tryz.results45, go_sem, c0, c1]) rfl ⟨rfl, hNew _ tw _ _⟩
set_option maxRecDepth 100000 in
set_option maxHeartbeats 1600000 in
theorem line_nilB (Wb w : World) (base S : Nat) (v : Value) (k : Wd) (l : List Wd) (P : World → Prop) (hb : Wb.heap.size ≤ base) (hB : B Wb w) (hbw : base ≤ w.heap.size) (hv : IsWd Wb v (k :: l)) (hPs : ∀ w, P w → S < w.heap.size) (pv : Value) (hr : ((strB k.2).toList == [114, 111, 117, 110, 100]) = false) (hbx : ((strB k.2).toList == [98, 111, 120]) = true) (hlen : ((l.length : Int) + 1 == lenS (strB k.2)) = true) (hnil : pv = .pointer none)
  (hP0 : P w) (hpv : ∀ w', P w' → w'.cell? ⟨S, 6, none⟩ = some pv)
  (hPB : ∀ w' w'', B w' w'' → P w' → P w'')
  :
  Calls Tryz.prog 45 #[.pointer (some ⟨S, 0, none⟩), v] w fun r w' => r = .returned (.agg #[.int .i64 ((k.1 : Nat) : Int), .int .i64 24]) ∧ Tn kS base w w' := by
 obtain ⟨g, o, cap, rfl, h2, h3, h4⟩ := hv
 obtain ⟨x0, x1⟩ : w.cell? ⟨g, o, none⟩ = some (.int .i64 ((k.1 : Nat) : Int)) ∧ w.cell? ⟨g, o + 1, none⟩ = some (.string (strB k.2)) := by
  have := h4 0 k rfl
  exact ⟨hB.keep (by simpa using this.1), hB.keep (by simpa using this.2)⟩
 have hgl := World.block_lt_of_cell? w _ x0
 have hl0 : (0 : Int) < ((l.length : Int) + 1) := by omega
 have hcap : (l.length : Int) + 1 ≤ (cap : Int) := by simp at h2; omega
 have q0 : B w ((w.alloc (.cells #[.int .i64 0, .int .i64 0] 98)).alloc (.cells #[.int .i64 ((k.1 : Nat) : Int), .string (strB k.2)] 95)) := ((B.refl w).alloc _ _).alloc _ _
 have oH := obj_past (obj_new w (.cells #[.int .i64 0, .int .i64 0] 98)) (.cells #[.int .i64 ((k.1 : Nat) : Int), .string (strB k.2)] 95)
 have oF := obj_new (w.alloc (.cells #[.int .i64 0, .int .i64 0] 98)) (.cells #[.int .i64 ((k.1 : Nat) : Int), .string (strB k.2)] 95)
 have hNew : ∀ (b : World), Tn kS base w b → ∀ x y, Tn kS base w ((b.setCell ⟨w.heap.size, 0, none⟩ x).setCell ⟨w.heap.size, 1, none⟩ y) := fun b h x y =>
  (h.setNew (p := ⟨w.heap.size, 0, none⟩) (Nat.le_refl _) x).setNew (p := ⟨w.heap.size, 1, none⟩) (Nat.le_refl _) y
 have hsz : (w.alloc (.cells #[.int .i64 0, .int .i64 0] 98)).heap.size = w.heap.size + 1 := by simp
 rw [hsz] at oF
 clear hsz
 have hP1 := hPB _ _ q0 hP0
 have s6 := hpv _ hP1
 subst hnil
 go_enter Tryz.func45, Tryz.ntmps45
 go_wp2_with fail
 have tw := q0.tn kS base
 have hP1' := hP1
 generalize hH : w.heap.size = H at *
 generalize hw1 : ((w.alloc (.cells #[.int .i64 0, .int .i64 0] 98)).alloc (.cells #[.int .i64 ((k.1 : Nat) : Int), .string (strB k.2)] 95)) = w1 at *
 have n0 : w1.cell? ⟨H + 1, 0, none⟩ = some (.int .i64 ((k.1 : Nat) : Int)) := obj_cell oF 0
 have n1 : w1.cell? ⟨H + 1, 1, none⟩ = some (.string (strB k.2)) := obj_cell oF 1
 have r0 : w1.cell? ⟨H, 0, none⟩ = some (.int .i64 0) := obj_cell oH 0
 have r1 : w1.cell? ⟨H, 1, none⟩ = some (.int .i64 0) := obj_cell oH 1
 have e0 := obj_free oH 0
 have e1 := obj_free oH 1
 have hH1 := obj_lt oF
 have hHl := obj_lt oH
 clear x0 x1 q0 hgl hw1
 have hSl := hPs _ hP1
 have cl := fun w => length9_any (strB k.2) w
 generalize lenS (strB k.2) = LN at *
 have hln : ((l.length : Int) + 1 != LN) = false := by rw [bne, hlen]; rfl
 go_wp2_with ((go_at_call 44; refine (cl _).mono ?_; rintro _ _ ⟨rfl, rfl⟩))
 have oE := obj_set (obj_set oH 0 (.int .i64 ((k.1 : Nat) : Int))) 1 (.int .i64 24)
 have c0 := obj_cell oE 0
 have c1 := obj_cell oE 1
 exact bodyPost_ret (v := .agg #[.int .i64 ((k.1 : Nat) : Int), .int .i64 24]) (by simp [results, Tryz.results45, go_sem, c0, c1]) rfl ⟨rfl, hNew _ tw _ _⟩
end Go.Proofs.YtglniapfnhedoaaGreatDoor
