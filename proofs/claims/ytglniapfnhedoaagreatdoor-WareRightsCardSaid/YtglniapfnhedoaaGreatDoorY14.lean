/-
 Contracts and what they rest on.
-/
import Derived.Test.YtglniapfnhedoaaGreatDoorChecked
import Derived.Lib.Hide
import Derived.Lib.ItoaLen
import Derived.Laws.Strings2
import Derived.KernelRfl
import Derived.Test.YtglniapfnhedoaaGreatDoorY13
namespace Go.Proofs.YtglniapfnhedoaaGreatDoor
open Go.RowKit
set_option linter.unusedVariables false
structure RSt (w0 w : World) (S bw bt bf : Nat) (o : Obj) (nw nt : List ByteArray) (fl : List Fl) : Prop where
 obj : w.heap[S]? = some o
 mw : NmAt w bw nw
 mt : NmAt w bt nt
 mf : FmAt w bf fl
 b0 : B w0 w
section
variable {w0 w w' : World} {S bw bt bf : Nat} {cs : Array Value} {nw nt ns : List ByteArray} {fl fs : List Fl}
theorem RSt.b {o : Obj} (h : RSt w0 w S bw bt bf o nw nt fl) (q : B w w') : RSt w0 w' S bw bt bf o nw nt fl :=
 ⟨q.obj h.obj, h.mw.tn (q.tn [] 0) (by simp), h.mt.tn (q.tn [] 0) (by simp), h.mf.tn (q.tn [] 0) (by simp), h.b0.trans q⟩
theorem RSt.addW (h : RSt w0 w S bw bt bf (.cells cs 80 (0, 0)) nw nt fl) (m : NmAt w' bw ns) (t : Tn kM w0.heap.size w w') (u : Tm bw w w') (x1 : bw ≠ bt) (x2 : bw ≠ bf) : RSt w0 w' S bw bt bf (.cells cs 80 (0, 0)) ns nt fl :=
 ⟨t.objc h.obj (by decide), m, h.mt.tm u x1.symm, h.mf.tm u x2.symm, t.toB h.b0 (Nat.le_refl _)⟩
theorem RSt.addT (h : RSt w0 w S bw bt bf (.cells cs 80 (0, 0)) nw nt fl) (m : NmAt w' bt ns) (t : Tn kM w0.heap.size w w') (u : Tm bt w w') (x1 : bw ≠ bt) (x3 : bt ≠ bf) : RSt w0 w' S bw bt bf (.cells cs 80 (0, 0)) nw ns fl :=
 ⟨t.objc h.obj (by decide), h.mw.tm u x1, m, h.mf.tm u x3.symm, t.toB h.b0 (Nat.le_refl _)⟩
theorem RSt.addF (h : RSt w0 w S bw bt bf (.cells cs 80 (0, 0)) nw nt fl) (m : FmAt w' bf fs) (t : Tn kM w0.heap.size w w') (u : Tm bf w w') (x2 : bw ≠ bf) (x3 : bt ≠ bf) : RSt w0 w' S bw bt bf (.cells cs 80 (0, 0)) nw nt fs :=
 ⟨t.objc h.obj (by decide), h.mw.tm u x2, h.mt.tm u x3, m, t.toB h.b0 (Nat.le_refl _)⟩
end
theorem bool_perm (a x y z r n : Bool) : ((a && x && y && z && r) && !n) = ((a && !n) && (x && y && z) && r) := by cases a <;> cases x <;> cases y <;> cases z <;> cases r <;> cases n <;> rfl
theorem bool_perm3 (a b c : Bool) : ((a && b) && !c) = ((a && !c) && b) := by cases a <;> cases b <;> cases c <;> rfl
theorem fm_swap {w : World} {b : Nat} {fs : List Fl} {n : ByteArray} {r c v : Int} (h : FmAt w b (fs ++ [⟨n, r, c, v⟩])) (v' : Int) : FmAt w b (fs ++ [⟨n, r, c, v'⟩]) := by
 obtain ⟨D, k1, k2, k3⟩ := h
 refine ⟨D, by simpa using k1, k2, fun n' r' c' h1 h2 h3 => (k3 n' r' c' h1 h2 h3).trans ?_⟩
 simp [filledW]
theorem bool_perm2 (a r x y z n : Bool) : ((a && r && x && y && z) && !n) = ((a && !n) && (a && r && x && y && z)) := by cases a <;> cases x <;> cases y <;> cases z <;> cases r <;> cases n <;> rfl
theorem rightD_noW {d : Dk} (h : apartW wareOk d.ws = false) : rightD d = false := by unfold rightD; rw [h]; simp
theorem rightD_noT {d : Dk} (h : apartW tipOk d.ts = false) : rightD d = false := by unfold rightD; rw [h]; simp
theorem rightD_noF {d : Dk} (h : fillsOk d.ws d.fs = false) : rightD d = false := by unfold rightD; rw [h]; simp
set_option maxRecDepth 100000 in
set_option maxHeartbeats 4000000 in
theorem right9_any (wv tv fv : Value) (d : Dk) (w : World) (h : IsDk w wv tv fv d) (hzws : ∀ r ∈ d.ws, r.n.size ≤ maxLen) (hsI : ∀ r ∈ d.ws, I64 r.x ∧ I64 r.y) (hzts : ∀ r ∈ d.ts, r.n.size ≤ maxLen) (hzfs : ∀ f ∈ d.fs, f.n.size ≤ maxLen ∧ I64 f.r ∧ I64 f.c) (hfs : d.fs.length < 1000) :
  Calls Tryz.prog 8 #[.agg #[wv, tv, fv]] w fun e w' => e = .returned (.bool (rightD d)) ∧ B w w' := by
 obtain ⟨ao, ac, bo, bc, co, cc, rfl, rfl, rfl⟩ := h.forms
 have q0 : B w (w.alloc (.cells #[.slice ao d.ws.length ac, .slice bo d.ts.length bc, .slice co d.fs.length cc] 26)) := (B.refl w).alloc _ _
 have oD0 := obj_new w (.cells #[.slice ao d.ws.length ac, .slice bo d.ts.length bc, .slice co d.fs.length cc] 26)
 have hD0 := h.keepB q0
 have hlw := h.ws.len
 have hlt := h.ts.len
 clear h
 by_cases hw8 : 8 < d.ws.length
 ·have hno : rightD d = false := by unfold rightD; rw [decide_eq_false (show ¬ d.ws.length ≤ 8 by omega)]; simp
  have t8 : decide ((8 : Int) < (d.ws.length : Int)) = true := decide_eq_true (by omega)
  have HN := Lib.hid hno
  clear hno hw8 hzws hzts hzfs hsI hfs
  go_enter Tryz.func8, Tryz.ntmps8
  go_wp2
  go_ret
  exact ⟨by rw [HN.out]; rfl, q0⟩
 have t8 : decide ((8 : Int) < (d.ws.length : Int)) = false := decide_eq_false (by omega)
 by_cases ht4 : 4 < d.ts.length
 ·have hno : rightD d = false := by unfold rightD; rw [decide_eq_false (show ¬ d.ts.length ≤ 4 by omega)]; simp
  have t4 : decide ((4 : Int) < (d.ts.length : Int)) = true := decide_eq_true (by omega)
  have HN := Lib.hid hno
  clear hno hw8 ht4 hzws hzts hzfs hsI hfs
  go_enter Tryz.func8, Tryz.ntmps8
  go_wp2
  go_ret
  exact ⟨by rw [HN.out]; rfl, q0⟩
 have t4 : decide ((4 : Int) < (d.ts.length : Int)) = false := decide_eq_false (by omega)
 go_enter Tryz.func8, Tryz.ntmps8
 go_wp2_with fail
 generalize w.alloc (.cells #[.slice ao d.ws.length ac, .slice bo d.ts.length bc, .slice co d.fs.length cc] 26) = w0 at *
 generalize w.heap.size = H at *
 refine (newStand_any ao bo co _ _ _ ac bc cc w0).mono ?_
 rintro _ w2 ⟨S, bw, bt, bf, rfl, oS, m1, m2, m3, g1, gw, gt, gf, x1, x2, x3, q2⟩
 obtain ⟨VW, VT, VF, hVW, oS⟩ : ∃ VW VT VF, IsRecs w0 VW d.ws ∧ w2.heap[S]? = some (.cells #[VW, VT, VF, .map (some bw), .map (some bt), .map (some bf), .pointer none, .int .i64 0] 80 (0, 0)) := ⟨_, _, _, hD0.ws, oS⟩
 have hRS0 : RSt w0 w2 S bw bt bf (.cells #[VW, VT, VF, .map (some bw), .map (some bt), .map (some bf), .pointer none, .int .i64 0] 80 (0, 0)) [] [] [] := ⟨oS, m1, m2, m3, q2⟩
 have oDk := fun {x : World} (q : B w0 x) => q.obj oD0
 have k0 : w2.cell? ⟨H, 0, none⟩ = some (.slice ao d.ws.length ac) := obj_cell (oDk q2) 0
 clear m1 m2 m3 oS q2
 go_wp2_with fail
 go_loopw [25] (fun iv wr => ∃ i : Nat, i ≤ d.ws.length ∧ iv = .int .i64 i ∧ UpTo wareOk d.ws i ∧ RSt w0 wr S bw bt bf (.cells #[VW, VT, VF, .map (some bw), .map (some bt), .map (some bf), .pointer none, .int .i64 0] 80 (0, 0)) ((d.ws.take i).map Rec.n) [] []) (fun iv _ => d.ws.length + 1 - (intOf iv).toNat)
 case atStart => exact ⟨0, Nat.zero_le _, rfl, fun j F _ hj => by omega, hRS0⟩
 case round =>
  obtain ⟨i, hi, rfl, hU, hRS⟩ := hrel
  by_cases hl : i < d.ws.length
  ·have hlB : decide ((i : Int) < (d.ws.length : Int)) = true := decide_eq_true (by omega)
   have hlI : (i : Int) < (d.ws.length : Int) := by omega
   have hi0 : (0 : Int) ≤ (i : Int) := by omega
   have wk1 : IntKind.i64.wrap ((i : Int) + 1) = (i : Int) + 1 := by rw [IntKind.wrap_i64]; omega
   obtain ⟨g, cap, e1, _, _, hr⟩ := hD0.ws.at_ hl
   obtain ⟨rfl, _, rfl⟩ : ao = some g ∧ True ∧ ac = cap := by simpa using e1
   obtain ⟨F, hF⟩ : ∃ F, d.ws[i]? = some F := ⟨_, List.getElem?_eq_getElem hl⟩
   have hFe : d.ws[i] = F := by rw [List.getElem?_eq_getElem hl] at hF; simpa using hF
   rw [hFe] at hr
   obtain ⟨g0, g1, g2, g3, sv, g4, g5⟩ := hr
   replace g0 := hRS.b0.keep g0
   replace g1 := hRS.b0.keep g1
   replace g2 := hRS.b0.keep g2
   replace g3 := hRS.b0.keep g3
   replace g4 := hRS.b0.keep g4
   have g5w := g5
   have hsx := hsI F (List.mem_of_getElem? hF)
   have hsz := hzws F (List.mem_of_getElem? hF)
   have hAB : (wareOk F && !namedW (d.ws.take i) F.n) = ((nameS F.n && !namedL ((d.ws.take i).map Rec.n) F.n) && (inB F.x 1 8 && inB F.y 1 12 && inB F.z 0 1000000) && rightS F.l) := by
    rw [show namedL ((d.ws.take i).map Rec.n) F.n = namedW (d.ws.take i) F.n from named_map _ _]
    exact bool_perm _ _ _ _ _ _
   have hnoA := fun h => rightD_noW (d := d) (apart_no hF h)
   rw [hAB] at hnoA
   have hyesA : (((nameS F.n && !namedL ((d.ws.take i).map Rec.n) F.n) && (inB F.x 1 8 && inB F.y 1 12 && inB F.z 0 1000000) && rightS F.l) = true) → (wareOk F && !namedW (d.ws.take i) F.n) = true := fun h => hAB.trans h
   have haddA : ∀ h : (nameS F.n && !namedL ((d.ws.take i).map Rec.n) F.n) = true, addN ((d.ws.take i).map Rec.n) F.n = (d.ws.take i).map Rec.n ++ [F.n] := fun h => addN_yes h
   have HF := Lib.hid hF
   have HL := Lib.hid hl
   clear hAB hF hFe e1 hl
   obtain ⟨N, X, Y, Z, SL⟩ := F
   simp only at g0 g1 g2 g3 g4 g5 g5w hsz hnoA hyesA haddA hsx
   obtain ⟨so, sc, rfl⟩ := secs_form g5
   have cA := add_any (wr.alloc (.cells #[.string N, .int .i64 X, .int .i64 Y, .int .i64 Z, .slice so SL.length sc] 33)).drew w0.heap.size bw ((d.ws.take i).map Rec.n) N hsz (by rw [List.length_map, List.length_take]; omega) gw (((hRS.b (((B.refl wr).alloc _ _).drew)).mw))
   have cG := fun w' (q : B w0 w') => grid_any N X Y Z so SL.length sc w' hsx.1 hsx.2
   have cR := fun w' (q : B w0 w') => right_code (.slice so SL.length sc) SL w' (g5w.keepB q)
   have hRA := hRS.b (((B.refl wr).alloc #[.string N, .int .i64 X, .int .i64 Y, .int .i64 Z, .slice so SL.length sc] 33).drew)
   have hU := Lib.hid hU
   have oG := obj_new wr (.cells #[.string N, .int .i64 X, .int .i64 Y, .int .i64 Z, .slice so SL.length sc] 33)
   have hb1 : ∃ b, (nameS N && !namedL ((d.ws.take i).map Rec.n) N) = b := ⟨_, rfl⟩
   obtain ⟨b1, hb1⟩ := hb1
   rw [hb1] at cA hnoA hyesA haddA
   obtain ⟨b2, hb2⟩ : ∃ b, (inB X 1 8 && inB Y 1 12 && inB Z 0 1000000) = b := ⟨_, rfl⟩
   rw [hb2] at cG hnoA hyesA
   obtain ⟨b3, hb3⟩ : ∃ b, rightS SL = b := ⟨_, rfl⟩
   rw [hb3] at cR hnoA hyesA
   clear hb1 hb2 hb3
   have qwr := hRS.b0
   clear hRS g5 hsz
   go_wp2_with fail
   generalize wr.alloc (.cells #[.string N, .int .i64 X, .int .i64 Y, .int .i64 Z, .slice so SL.length sc] 33) = wA at *
   generalize wr.heap.size = G at *
   generalize SL.length = sn at *
   have oS2 : wA.drew.heap[S]? = some (.cells #[VW, VT, VF, .map (some bw), .map (some bt), .map (some bf), .pointer none, .int .i64 0] 80 (0, 0)) := hRA.obj
   have oG2 : wA.drew.heap[G]? = some (.cells #[.string N, .int .i64 X, .int .i64 Y, .int .i64 Z, .slice so sn sc] 33 (0, 0)) := oG
   have mkF : ∀ w' : World, B w0 w' → w'.heap[G]? = some (.cells #[.string N, .int .i64 X, .int .i64 Y, .int .i64 Z, .slice so sn sc] 33 (0, 0)) → w'.heap[S]? = some (.cells #[VW, VT, VF, .map (some bw), .map (some bt), .map (some bf), .pointer none, .int .i64 0] 80 (0, 0)) → w'.cell? ⟨S, 3, none⟩ = some (.map (some bw)) ∧ w'.cell? ⟨G, 0, none⟩ = some (.string N) ∧ w'.cell? ⟨G, 1, none⟩ = some (.int .i64 X) ∧ w'.cell? ⟨G, 2, none⟩ = some (.int .i64 Y) ∧ w'.cell? ⟨G, 3, none⟩ = some (.int .i64 Z) ∧ w'.cell? ⟨G, 4, none⟩ = some (.slice so sn sc) ∧ B w0 w' ∧ w'.heap[G]? = some (.cells #[.string N, .int .i64 X, .int .i64 Y, .int .i64 Z, .slice so sn sc] 33 (0, 0)) ∧ w'.heap[S]? = some (.cells #[VW, VT, VF, .map (some bw), .map (some bt), .map (some bf), .pointer none, .int .i64 0] 80 (0, 0)) :=
    fun w' q a b => ⟨obj_cell b 3, obj_cell a 0, obj_cell a 1, obj_cell a 2, obj_cell a 3, obj_cell a 4, q, a, b⟩
   have kT : ∀ w', Tn kM w0.heap.size wA.drew w' → w'.cell? ⟨S, 3, none⟩ = some (.map (some bw)) ∧ w'.cell? ⟨G, 0, none⟩ = some (.string N) ∧ w'.cell? ⟨G, 1, none⟩ = some (.int .i64 X) ∧ w'.cell? ⟨G, 2, none⟩ = some (.int .i64 Y) ∧ w'.cell? ⟨G, 3, none⟩ = some (.int .i64 Z) ∧ w'.cell? ⟨G, 4, none⟩ = some (.slice so sn sc) ∧ B w0 w' ∧ w'.heap[G]? = some (.cells #[.string N, .int .i64 X, .int .i64 Y, .int .i64 Z, .slice so sn sc] 33 (0, 0)) ∧ w'.heap[S]? = some (.cells #[VW, VT, VF, .map (some bw), .map (some bt), .map (some bf), .pointer none, .int .i64 0] 80 (0, 0)) := fun w' t => mkF w' (t.toB hRA.b0 (Nat.le_refl _)) (t.objc oG2 (by decide)) (t.objc oS2 (by decide))
   have kB : ∀ w1 w2, (w1.cell? ⟨S, 3, none⟩ = some (.map (some bw)) ∧ w1.cell? ⟨G, 0, none⟩ = some (.string N) ∧ w1.cell? ⟨G, 1, none⟩ = some (.int .i64 X) ∧ w1.cell? ⟨G, 2, none⟩ = some (.int .i64 Y) ∧ w1.cell? ⟨G, 3, none⟩ = some (.int .i64 Z) ∧ w1.cell? ⟨G, 4, none⟩ = some (.slice so sn sc) ∧ B w0 w1 ∧ w1.heap[G]? = some (.cells #[.string N, .int .i64 X, .int .i64 Y, .int .i64 Z, .slice so sn sc] 33 (0, 0)) ∧ w1.heap[S]? = some (.cells #[VW, VT, VF, .map (some bw), .map (some bt), .map (some bf), .pointer none, .int .i64 0] 80 (0, 0))) → B w1 w2 → w2.cell? ⟨S, 3, none⟩ = some (.map (some bw)) ∧ w2.cell? ⟨G, 0, none⟩ = some (.string N) ∧ w2.cell? ⟨G, 1, none⟩ = some (.int .i64 X) ∧ w2.cell? ⟨G, 2, none⟩ = some (.int .i64 Y) ∧ w2.cell? ⟨G, 3, none⟩ = some (.int .i64 Z) ∧ w2.cell? ⟨G, 4, none⟩ = some (.slice so sn sc) ∧ B w0 w2 ∧ w2.heap[G]? = some (.cells #[.string N, .int .i64 X, .int .i64 Y, .int .i64 Z, .slice so sn sc] 33 (0, 0)) ∧ w2.heap[S]? = some (.cells #[VW, VT, VF, .map (some bw), .map (some bt), .map (some bf), .pointer none, .int .i64 0] 80 (0, 0)) := fun w1 w2 hf q => mkF w2 (hf.2.2.2.2.2.2.1.trans q) (q.obj hf.2.2.2.2.2.2.2.1) (q.obj hf.2.2.2.2.2.2.2.2)
   obtain ⟨s3, p0, p1, p2, p3, p4, qd, oG3, oS3⟩ := mkF wA.drew hRA.b0 oG2 oS2
   clear mkF oG oG2 oS2 g0 g1 g2 g3 g4 qwr
   cases b1
   ·have hno := fun (_ : True) => hnoA (by rfl)
    refine wp_region_noPanic ?_
    refine wp_region_seq (S := fun w' => w'.cell? ⟨S, 3, none⟩ = some (.map (some bw)) ∧ w'.cell? ⟨G, 0, none⟩ = some (.string N) ∧ w'.cell? ⟨G, 1, none⟩ = some (.int .i64 X) ∧ w'.cell? ⟨G, 2, none⟩ = some (.int .i64 Y) ∧ w'.cell? ⟨G, 3, none⟩ = some (.int .i64 Z) ∧ w'.cell? ⟨G, 4, none⟩ = some (.slice so sn sc) ∧ B w0 w' ∧ w'.heap[G]? = some (.cells #[.string N, .int .i64 X, .int .i64 Y, .int .i64 Z, .slice so sn sc] 33 (0, 0)) ∧ w'.heap[S]? = some (.cells #[VW, VT, VF, .map (some bw), .map (some bt), .map (some bf), .pointer none, .int .i64 0] 80 (0, 0))) [(0, 0), (1, 0), (2, 0), (3, 0), (4, 0), (5, 0), (6, 2), (7, 0), (8, 0), (9, 1), (10, 1), (11, 1), (12, 0), (13, 0), (14, 1), (15, 1), (16, 1), (17, 1), (18, 0)] [0, 1, 2, 4, 0, 16, 40, 64, 192, 256, 768, 1280, 2304, 5120, 8192, 24576, 40960, 73728, 139264] [0, 1, 2, 4, 0, 16, 40, 64, 128, 256, 768, 1280, 2304, 4096, 8192, 24576, 40960, 73728, 139264] (by kernel_rfl) (by kernel_rfl) (fun _ _ _ _ _ h => h) ?_ (fun hH => ?_)
    ·exact ⟨s3, p0, p1, p2, p3, p4, qd, oG3, oS3⟩
    refine wpSeq_take (d := 29) rfl rfl (by kernel_rfl) (fun w hS => by go_simp <;> with_reducible rfl) ?_
    dsimp only [sZ, sS]
    refine wpSeq_take (d := 30) rfl rfl (by kernel_rfl) (fun w hS => by go_simp <;> with_reducible rfl) ?_
    dsimp only [sZ, sS]
    refine wpSeq_take (d := 31) rfl rfl (by kernel_rfl) (fun w hS => by go_simp <;> with_reducible rfl) ?_
    dsimp only [sZ, sS]
    refine wpSeq_take (d := 32) rfl rfl (by kernel_rfl) (fun w hS => by go_simp <;> with_reducible rfl) ?_
    dsimp only [sZ, sS]
    refine wpSeq_take (d := 33) rfl rfl (by kernel_rfl) (fun w hS => by go_simp <;> with_reducible rfl) ?_
    dsimp only [sZ, sS]
    refine wpSeq_take (d := 34) rfl rfl (by kernel_rfl) (fun w hS => by go_simp <;> with_reducible rfl) ?_
    dsimp only [sZ, sS]
    refine wpSeq_call rfl (by kernel_rfl) (fun K hK => ?_)
    go_simp
    (with_reducible refine (cA).mono ?_)
    rintro e w' ⟨rfl, hq⟩
    refine hK.out _ _ ?_ (fun hH => ?_)
    ·first | exact kT _ hq.2.1 | exact kB _ _ hH hq
    clear hK
    refine wpSeq_take (d := 36) rfl rfl (by kernel_rfl) (fun w hS => by go_simp <;> with_reducible rfl) ?_
    dsimp only [sZ, sS]
    refine wpSeq_take (d := 37) rfl rfl (by kernel_rfl) (fun w hS => by go_simp <;> with_reducible rfl) ?_
    dsimp only [sZ, sS]
    refine wpSeq_pass (d := 38) rfl rfl (by kernel_rfl) ?_
    dsimp only [sZ, sS]
    refine wpSeq_pass (d := 39) rfl rfl (by kernel_rfl) ?_
    dsimp only [sZ, sS]
    refine wpSeq_pass (d := 40) rfl rfl (by kernel_rfl) ?_
    dsimp only [sZ, sS]
    refine wpSeq_take (d := 41) rfl rfl (by kernel_rfl) (fun w hS => by go_simp <;> with_reducible rfl) ?_
    dsimp only [sZ, sS]
    refine wpSeq_take (d := 42) rfl rfl (by kernel_rfl) (fun w hS => by go_simp <;> with_reducible rfl) ?_
    dsimp only [sZ, sS]
    refine wpSeq_pass (d := 43) rfl rfl (by kernel_rfl) ?_
    dsimp only [sZ, sS]
    refine wpSeq_pass (d := 44) rfl rfl (by kernel_rfl) ?_
    dsimp only [sZ, sS]
    refine wpSeq_pass (d := 45) rfl rfl (by kernel_rfl) ?_
    dsimp only [sZ, sS]
    refine wpSeq_pass (d := 46) rfl rfl (by kernel_rfl) ?_
    dsimp only [sZ, sS]
    refine wpSeq_take (d := 47) rfl rfl (by kernel_rfl) (fun w hS => by go_simp <;> with_reducible rfl) ?_
    dsimp only [sZ, sS]
    refine wpSeq_done ?_
    refine NoPanic.normal ?_
    have HR := Lib.hid (hno trivial)
    have HB := Lib.hid hH.2.2.2.2.2.2.1
    clear hH cA cG cR kT kB hno hnoA hyesA haddA
    go_wp2
    go_ret
    exact ⟨by rw [HR.out]; rfl, q0.trans HB.out⟩
   ·cases b2
    ·have hno := fun (_ : True) => hnoA (by rfl)
     refine wp_region_noPanic ?_
     refine wp_region_seq (S := fun w' => w'.cell? ⟨S, 3, none⟩ = some (.map (some bw)) ∧ w'.cell? ⟨G, 0, none⟩ = some (.string N) ∧ w'.cell? ⟨G, 1, none⟩ = some (.int .i64 X) ∧ w'.cell? ⟨G, 2, none⟩ = some (.int .i64 Y) ∧ w'.cell? ⟨G, 3, none⟩ = some (.int .i64 Z) ∧ w'.cell? ⟨G, 4, none⟩ = some (.slice so sn sc) ∧ B w0 w' ∧ w'.heap[G]? = some (.cells #[.string N, .int .i64 X, .int .i64 Y, .int .i64 Z, .slice so sn sc] 33 (0, 0)) ∧ w'.heap[S]? = some (.cells #[VW, VT, VF, .map (some bw), .map (some bt), .map (some bf), .pointer none, .int .i64 0] 80 (0, 0))) [(0, 0), (1, 0), (2, 0), (3, 0), (4, 0), (5, 0), (6, 2), (7, 0), (8, 0), (9, 0), (10, 2), (11, 0), (12, 0), (13, 0), (14, 1), (15, 1), (16, 1), (17, 1), (18, 0)] [0, 1, 2, 4, 0, 16, 40, 64, 192, 256, 768, 1280, 2304, 5120, 8192, 24576, 40960, 73728, 139264] [0, 1, 2, 4, 0, 16, 40, 64, 128, 256, 768, 1280, 2304, 4096, 8192, 24576, 40960, 73728, 139264] (by kernel_rfl) (by kernel_rfl) (fun _ _ _ _ _ h => h) ?_ (fun hH => ?_)
     ·exact ⟨s3, p0, p1, p2, p3, p4, qd, oG3, oS3⟩
     refine wpSeq_take (d := 29) rfl rfl (by kernel_rfl) (fun w hS => by go_simp <;> with_reducible rfl) ?_
     dsimp only [sZ, sS]
     refine wpSeq_take (d := 30) rfl rfl (by kernel_rfl) (fun w hS => by go_simp <;> with_reducible rfl) ?_
     dsimp only [sZ, sS]
     refine wpSeq_take (d := 31) rfl rfl (by kernel_rfl) (fun w hS => by go_simp <;> with_reducible rfl) ?_
     dsimp only [sZ, sS]
     refine wpSeq_take (d := 32) rfl rfl (by kernel_rfl) (fun w hS => by go_simp <;> with_reducible rfl) ?_
     dsimp only [sZ, sS]
     refine wpSeq_take (d := 33) rfl rfl (by kernel_rfl) (fun w hS => by go_simp <;> with_reducible rfl) ?_
     dsimp only [sZ, sS]
     refine wpSeq_take (d := 34) rfl rfl (by kernel_rfl) (fun w hS => by go_simp <;> with_reducible rfl) ?_
     dsimp only [sZ, sS]
     refine wpSeq_call rfl (by kernel_rfl) (fun K hK => ?_)
     go_simp
     (with_reducible refine (cA).mono ?_)
     rintro e w' ⟨rfl, hq⟩
     refine hK.out _ _ ?_ (fun hH => ?_)
     ·first | exact kT _ hq.2.1 | exact kB _ _ hH hq
     clear hK
     refine wpSeq_take (d := 36) rfl rfl (by kernel_rfl) (fun w hS => by go_simp <;> with_reducible rfl) ?_
     dsimp only [sZ, sS]
     refine wpSeq_take (d := 37) rfl rfl (by kernel_rfl) (fun w hS => by go_simp <;> with_reducible rfl) ?_
     dsimp only [sZ, sS]
     refine wpSeq_take (d := 38) rfl rfl (by kernel_rfl) (fun w hS => by go_simp <;> with_reducible rfl) ?_
     dsimp only [sZ, sS]
     refine wpSeq_call rfl (by kernel_rfl) (fun K hK => ?_)
     go_simp
     (with_reducible refine (cG _ hH.2.2.2.2.2.2.1).mono ?_)
     rintro e w' ⟨rfl, hq⟩
     refine hK.out _ _ ?_ (fun hH => ?_)
     ·first | exact kT _ hq.2.1 | exact kB _ _ hH hq
     clear hK
     refine wpSeq_take (d := 40) rfl rfl (by kernel_rfl) (fun w hS => by go_simp <;> with_reducible rfl) ?_
     dsimp only [sZ, sS]
     refine wpSeq_take (d := 41) rfl rfl (by kernel_rfl) (fun w hS => by go_simp <;> with_reducible rfl) ?_
     dsimp only [sZ, sS]
     refine wpSeq_take (d := 42) rfl rfl (by kernel_rfl) (fun w hS => by go_simp <;> with_reducible rfl) ?_
     dsimp only [sZ, sS]
     refine wpSeq_pass (d := 43) rfl rfl (by kernel_rfl) ?_
     dsimp only [sZ, sS]
     refine wpSeq_pass (d := 44) rfl rfl (by kernel_rfl) ?_
     dsimp only [sZ, sS]
     refine wpSeq_pass (d := 45) rfl rfl (by kernel_rfl) ?_
     dsimp only [sZ, sS]
     refine wpSeq_pass (d := 46) rfl rfl (by kernel_rfl) ?_
     dsimp only [sZ, sS]
     refine wpSeq_take (d := 47) rfl rfl (by kernel_rfl) (fun w hS => by go_simp <;> with_reducible rfl) ?_
     dsimp only [sZ, sS]
     refine wpSeq_done ?_
     refine NoPanic.normal ?_
     have HR := Lib.hid (hno trivial)
     have HB := Lib.hid hH.2.2.2.2.2.2.1
     clear hH cA cG cR kT kB hno hnoA hyesA haddA
     go_wp2
     go_ret
     exact ⟨by rw [HR.out]; rfl, q0.trans HB.out⟩
    ·cases b3
     ·have hno := fun (_ : True) => hnoA (by rfl)
      refine wp_region_noPanic ?_
      refine wp_region_seq (S := fun w' => w'.cell? ⟨S, 3, none⟩ = some (.map (some bw)) ∧ w'.cell? ⟨G, 0, none⟩ = some (.string N) ∧ w'.cell? ⟨G, 1, none⟩ = some (.int .i64 X) ∧ w'.cell? ⟨G, 2, none⟩ = some (.int .i64 Y) ∧ w'.cell? ⟨G, 3, none⟩ = some (.int .i64 Z) ∧ w'.cell? ⟨G, 4, none⟩ = some (.slice so sn sc) ∧ B w0 w' ∧ w'.heap[G]? = some (.cells #[.string N, .int .i64 X, .int .i64 Y, .int .i64 Z, .slice so sn sc] 33 (0, 0)) ∧ w'.heap[S]? = some (.cells #[VW, VT, VF, .map (some bw), .map (some bt), .map (some bf), .pointer none, .int .i64 0] 80 (0, 0))) [(0, 0), (1, 0), (2, 0), (3, 0), (4, 0), (5, 0), (6, 2), (7, 0), (8, 0), (9, 0), (10, 2), (11, 0), (12, 0), (13, 0), (14, 0), (15, 0), (16, 2), (17, 0), (18, 0)] [0, 1, 2, 4, 0, 16, 40, 64, 192, 256, 768, 1280, 2304, 5120, 8192, 24576, 40960, 73728, 139264] [0, 1, 2, 4, 0, 16, 40, 64, 128, 256, 768, 1280, 2304, 4096, 8192, 24576, 40960, 73728, 139264] (by kernel_rfl) (by kernel_rfl) (fun _ _ _ _ _ h => h) ?_ (fun hH => ?_)
      ·exact ⟨s3, p0, p1, p2, p3, p4, qd, oG3, oS3⟩
      refine wpSeq_take (d := 29) rfl rfl (by kernel_rfl) (fun w hS => by go_simp <;> with_reducible rfl) ?_
      dsimp only [sZ, sS]
      refine wpSeq_take (d := 30) rfl rfl (by kernel_rfl) (fun w hS => by go_simp <;> with_reducible rfl) ?_
      dsimp only [sZ, sS]
      refine wpSeq_take (d := 31) rfl rfl (by kernel_rfl) (fun w hS => by go_simp <;> with_reducible rfl) ?_
      dsimp only [sZ, sS]
      refine wpSeq_take (d := 32) rfl rfl (by kernel_rfl) (fun w hS => by go_simp <;> with_reducible rfl) ?_
      dsimp only [sZ, sS]
      refine wpSeq_take (d := 33) rfl rfl (by kernel_rfl) (fun w hS => by go_simp <;> with_reducible rfl) ?_
      dsimp only [sZ, sS]
      refine wpSeq_take (d := 34) rfl rfl (by kernel_rfl) (fun w hS => by go_simp <;> with_reducible rfl) ?_
      dsimp only [sZ, sS]
      refine wpSeq_call rfl (by kernel_rfl) (fun K hK => ?_)
      go_simp
      (with_reducible refine (cA).mono ?_)
      rintro e w' ⟨rfl, hq⟩
      refine hK.out _ _ ?_ (fun hH => ?_)
      ·first | exact kT _ hq.2.1 | exact kB _ _ hH hq
      clear hK
      refine wpSeq_take (d := 36) rfl rfl (by kernel_rfl) (fun w hS => by go_simp <;> with_reducible rfl) ?_
      dsimp only [sZ, sS]
      refine wpSeq_take (d := 37) rfl rfl (by kernel_rfl) (fun w hS => by go_simp <;> with_reducible rfl) ?_
      dsimp only [sZ, sS]
      refine wpSeq_take (d := 38) rfl rfl (by kernel_rfl) (fun w hS => by go_simp <;> with_reducible rfl) ?_
      dsimp only [sZ, sS]
      refine wpSeq_call rfl (by kernel_rfl) (fun K hK => ?_)
      go_simp
      (with_reducible refine (cG _ hH.2.2.2.2.2.2.1).mono ?_)
      rintro e w' ⟨rfl, hq⟩
      refine hK.out _ _ ?_ (fun hH => ?_)
      ·first | exact kT _ hq.2.1 | exact kB _ _ hH hq
      clear hK
      refine wpSeq_take (d := 40) rfl rfl (by kernel_rfl) (fun w hS => by go_simp <;> with_reducible rfl) ?_
      dsimp only [sZ, sS]
      refine wpSeq_take (d := 41) rfl rfl (by kernel_rfl) (fun w hS => by go_simp <;> with_reducible rfl) ?_
      dsimp only [sZ, sS]
      refine wpSeq_take (d := 42) rfl rfl (by kernel_rfl) (fun w hS => by go_simp <;> with_reducible rfl) ?_
      dsimp only [sZ, sS]
      refine wpSeq_take (d := 43) rfl rfl (by kernel_rfl) (fun w hS => by go_simp <;> with_reducible rfl) ?_
      dsimp only [sZ, sS]
      refine wpSeq_take (d := 44) rfl rfl (by kernel_rfl) (fun w hS => by go_simp <;> with_reducible rfl) ?_
      dsimp only [sZ, sS]
      refine wpSeq_call rfl (by kernel_rfl) (fun K hK => ?_)
      go_simp
      (with_reducible refine (cR _ hH.2.2.2.2.2.2.1).mono ?_)
      rintro e w' ⟨rfl, hq⟩
      refine hK.out _ _ ?_ (fun hH => ?_)
      ·first | exact kT _ hq.2.1 | exact kB _ _ hH hq
      clear hK
      refine wpSeq_take (d := 46) rfl rfl (by kernel_rfl) (fun w hS => by go_simp <;> with_reducible rfl) ?_
      dsimp only [sZ, sS]
      refine wpSeq_take (d := 47) rfl rfl (by kernel_rfl) (fun w hS => by go_simp <;> with_reducible rfl) ?_
      dsimp only [sZ, sS]
      refine wpSeq_done ?_
      refine NoPanic.normal ?_
      have HR := Lib.hid (hno trivial)
      have HB := Lib.hid hH.2.2.2.2.2.2.1
      clear hH cA cG cR kT kB hno hnoA hyesA haddA
      go_wp2
      go_ret
      exact ⟨by rw [HR.out]; rfl, q0.trans HB.out⟩
     ·have hyes := fun (_ : True) => hyesA (by rfl)
      have haddN := fun (_ : True) => haddA rfl
      clear hnoA hyesA haddA
      go_region_with (first
       | (go_at_call 25; (with_reducible refine (Calls.mono cA ?_); rintro _ w3 ⟨rfl, m3, t3, u3⟩; obtain ⟨k0, k1, k2, k3, k4, k5, k6, k7, k8⟩ := kT _ t3))
       | (go_at_call 26; (with_reducible refine (Calls.mono (cG _ k6) ?_); rintro _ w4 ⟨rfl, q4⟩; obtain ⟨j0, j1, j2, j3, j4, j5, j6, j7, j8⟩ := kB _ _ ⟨k0, k1, k2, k3, k4, k5, k6, k7, k8⟩ q4))
       | (go_at_call 27; (with_reducible refine (Calls.mono (cR _ j6) ?_); rintro _ w5 ⟨rfl, q5⟩)))
      all_goals
       have HZ := Lib.hid ((hRA.addW m3 t3 u3 x1 x2).b (q4.trans q5))
       clear cA cG cR kT kB
       go_wp2
       go_roundw
       case rel =>
        refine ⟨i + 1, by have := HL.out; omega, by go_num, (hU.out).next HF.out (hyes trivial), ?_⟩
        have e := HZ.out
        rw [haddN trivial] at e
        rw [List.take_add_one, HF.out]
        simpa using e
       case measure => have := HL.out; simp [intOf]; omega
  ·have hlB : decide ((i : Int) < (d.ws.length : Int)) = false := decide_eq_false (by omega)
   obtain rfl : i = d.ws.length := by omega
   have hU1 := Lib.hid hU
   clear hU
   have k1 : wr.cell? ⟨H, 1, none⟩ = some (.slice bo d.ts.length bc) := obj_cell (oDk hRS.b0) 1
   have hRS1 := hRS
   rw [List.take_length] at hRS1
   clear hRS hlB hRS0
   go_wp2_with fail
   obtain ⟨wo, rfl⟩ : ∃ wo : World, wo = wr := ⟨_, rfl⟩
   go_loopw [52] (fun iv wr => ∃ i : Nat, i ≤ d.ts.length ∧ iv = .int .i64 i ∧ UpTo tipOk d.ts i ∧ RSt w0 wr S bw bt bf (.cells #[VW, VT, VF, .map (some bw), .map (some bt), .map (some bf), .pointer none, .int .i64 0] 80 (0, 0)) (d.ws.map Rec.n) ((d.ts.take i).map Rec.n) []) (fun iv _ => d.ts.length + 1 - (intOf iv).toNat)
   case atStart => exact ⟨0, Nat.zero_le _, rfl, fun j F _ hj => by omega, hRS1⟩
   case round =>
    clear hRS1
    obtain ⟨i, hi, rfl, hU, hRS⟩ := hrel
    by_cases hl : i < d.ts.length
    ·have hlB : decide ((i : Int) < (d.ts.length : Int)) = true := decide_eq_true (by omega)
     have hlI : (i : Int) < (d.ts.length : Int) := by omega
     have hi0 : (0 : Int) ≤ (i : Int) := by omega
     have wk1 : IntKind.i64.wrap ((i : Int) + 1) = (i : Int) + 1 := by rw [IntKind.wrap_i64]; omega
     obtain ⟨g, cap, e1, _, _, hr⟩ := hD0.ts.at_ hl
     obtain ⟨rfl, _, rfl⟩ : bo = some g ∧ True ∧ bc = cap := by simpa using e1
     obtain ⟨F, hF⟩ : ∃ F, d.ts[i]? = some F := ⟨_, List.getElem?_eq_getElem hl⟩
     have hFe : d.ts[i] = F := by rw [List.getElem?_eq_getElem hl] at hF; simpa using hF
     rw [hFe] at hr
     obtain ⟨g0, g1, g2, g3, sv, g4, g5⟩ := hr
     replace g0 := hRS.b0.keep g0
     replace g1 := hRS.b0.keep g1
     replace g2 := hRS.b0.keep g2
     replace g3 := hRS.b0.keep g3
     replace g4 := hRS.b0.keep g4
     have g5w := g5
 
     have hsz := hzts F (List.mem_of_getElem? hF)
     have hAB : (tipOk F && !namedW (d.ts.take i) F.n) = ((nameS F.n && !namedL ((d.ts.take i).map Rec.n) F.n) && tipB F.n F.x F.y F.z F.l) := by
      rw [show namedL ((d.ts.take i).map Rec.n) F.n = namedW (d.ts.take i) F.n from named_map _ _]
      rw [tipB_ok]; exact bool_perm2 _ _ _ _ _ _
     have hnoA := fun h => rightD_noT (d := d) (apart_no hF h)
     rw [hAB] at hnoA
     have hyesA : (((nameS F.n && !namedL ((d.ts.take i).map Rec.n) F.n) && tipB F.n F.x F.y F.z F.l) = true) → (tipOk F && !namedW (d.ts.take i) F.n) = true := fun h => hAB.trans h
     have haddA : ∀ h : (nameS F.n && !namedL ((d.ts.take i).map Rec.n) F.n) = true, addN ((d.ts.take i).map Rec.n) F.n = (d.ts.take i).map Rec.n ++ [F.n] := fun h => addN_yes h
     have HF := Lib.hid hF
     have HL := Lib.hid hl
     clear hAB hF hFe e1 hl
     obtain ⟨N, X, Y, Z, SL⟩ := F
     simp only at g0 g1 g2 g3 g4 g5 g5w hsz hnoA hyesA haddA
     obtain ⟨so, sc, rfl⟩ := secs_form g5
     have cA := add_any (wr.alloc (.cells #[.string N, .int .i64 X, .int .i64 Y, .int .i64 Z, .slice so SL.length sc] 35)).drew w0.heap.size bt ((d.ts.take i).map Rec.n) N hsz (by rw [List.length_map, List.length_take]; omega) gt (((hRS.b (((B.refl wr).alloc _ _).drew)).mt))
     have cG := fun w' (q : B w0 w') => tipright_any N X Y Z (.slice so SL.length sc) SL w' (g5w.keepB q)
 
     have hRA := hRS.b (((B.refl wr).alloc #[.string N, .int .i64 X, .int .i64 Y, .int .i64 Z, .slice so SL.length sc] 35).drew)
     have hU := Lib.hid hU
     have oG := obj_new wr (.cells #[.string N, .int .i64 X, .int .i64 Y, .int .i64 Z, .slice so SL.length sc] 35)
     have hb1 : ∃ b, (nameS N && !namedL ((d.ts.take i).map Rec.n) N) = b := ⟨_, rfl⟩
     obtain ⟨b1, hb1⟩ := hb1
     rw [hb1] at cA hnoA hyesA haddA
     obtain ⟨b2, hb2⟩ : ∃ b, tipB N X Y Z SL = b := ⟨_, rfl⟩
     rw [hb2] at cG hnoA hyesA
     clear hb1 hb2
 
 
     have qwr := hRS.b0
     clear hRS g5 hsz
     go_wp2_with fail
     generalize wr.alloc (.cells #[.string N, .int .i64 X, .int .i64 Y, .int .i64 Z, .slice so SL.length sc] 35) = wA at *
     generalize wr.heap.size = G at *
     generalize SL.length = sn at *
     have oS2 : wA.drew.heap[S]? = some (.cells #[VW, VT, VF, .map (some bw), .map (some bt), .map (some bf), .pointer none, .int .i64 0] 80 (0, 0)) := hRA.obj
     have oG2 : wA.drew.heap[G]? = some (.cells #[.string N, .int .i64 X, .int .i64 Y, .int .i64 Z, .slice so sn sc] 35 (0, 0)) := oG
     have mkF : ∀ w' : World, B w0 w' → w'.heap[G]? = some (.cells #[.string N, .int .i64 X, .int .i64 Y, .int .i64 Z, .slice so sn sc] 35 (0, 0)) → w'.heap[S]? = some (.cells #[VW, VT, VF, .map (some bw), .map (some bt), .map (some bf), .pointer none, .int .i64 0] 80 (0, 0)) → w'.cell? ⟨S, 4, none⟩ = some (.map (some bt)) ∧ w'.cell? ⟨G, 0, none⟩ = some (.string N) ∧ w'.cell? ⟨G, 1, none⟩ = some (.int .i64 X) ∧ w'.cell? ⟨G, 2, none⟩ = some (.int .i64 Y) ∧ w'.cell? ⟨G, 3, none⟩ = some (.int .i64 Z) ∧ w'.cell? ⟨G, 4, none⟩ = some (.slice so sn sc) ∧ B w0 w' ∧ w'.heap[G]? = some (.cells #[.string N, .int .i64 X, .int .i64 Y, .int .i64 Z, .slice so sn sc] 35 (0, 0)) ∧ w'.heap[S]? = some (.cells #[VW, VT, VF, .map (some bw), .map (some bt), .map (some bf), .pointer none, .int .i64 0] 80 (0, 0)) :=
      fun w' q a b => ⟨obj_cell b 4, obj_cell a 0, obj_cell a 1, obj_cell a 2, obj_cell a 3, obj_cell a 4, q, a, b⟩
     have kT : ∀ w', Tn kM w0.heap.size wA.drew w' → w'.cell? ⟨S, 4, none⟩ = some (.map (some bt)) ∧ w'.cell? ⟨G, 0, none⟩ = some (.string N) ∧ w'.cell? ⟨G, 1, none⟩ = some (.int .i64 X) ∧ w'.cell? ⟨G, 2, none⟩ = some (.int .i64 Y) ∧ w'.cell? ⟨G, 3, none⟩ = some (.int .i64 Z) ∧ w'.cell? ⟨G, 4, none⟩ = some (.slice so sn sc) ∧ B w0 w' ∧ w'.heap[G]? = some (.cells #[.string N, .int .i64 X, .int .i64 Y, .int .i64 Z, .slice so sn sc] 35 (0, 0)) ∧ w'.heap[S]? = some (.cells #[VW, VT, VF, .map (some bw), .map (some bt), .map (some bf), .pointer none, .int .i64 0] 80 (0, 0)) := fun w' t => mkF w' (t.toB hRA.b0 (Nat.le_refl _)) (t.objc oG2 (by decide)) (t.objc oS2 (by decide))
     have kB : ∀ w1 w2, (w1.cell? ⟨S, 4, none⟩ = some (.map (some bt)) ∧ w1.cell? ⟨G, 0, none⟩ = some (.string N) ∧ w1.cell? ⟨G, 1, none⟩ = some (.int .i64 X) ∧ w1.cell? ⟨G, 2, none⟩ = some (.int .i64 Y) ∧ w1.cell? ⟨G, 3, none⟩ = some (.int .i64 Z) ∧ w1.cell? ⟨G, 4, none⟩ = some (.slice so sn sc) ∧ B w0 w1 ∧ w1.heap[G]? = some (.cells #[.string N, .int .i64 X, .int .i64 Y, .int .i64 Z, .slice so sn sc] 35 (0, 0)) ∧ w1.heap[S]? = some (.cells #[VW, VT, VF, .map (some bw), .map (some bt), .map (some bf), .pointer none, .int .i64 0] 80 (0, 0))) → B w1 w2 → w2.cell? ⟨S, 4, none⟩ = some (.map (some bt)) ∧ w2.cell? ⟨G, 0, none⟩ = some (.string N) ∧ w2.cell? ⟨G, 1, none⟩ = some (.int .i64 X) ∧ w2.cell? ⟨G, 2, none⟩ = some (.int .i64 Y) ∧ w2.cell? ⟨G, 3, none⟩ = some (.int .i64 Z) ∧ w2.cell? ⟨G, 4, none⟩ = some (.slice so sn sc) ∧ B w0 w2 ∧ w2.heap[G]? = some (.cells #[.string N, .int .i64 X, .int .i64 Y, .int .i64 Z, .slice so sn sc] 35 (0, 0)) ∧ w2.heap[S]? = some (.cells #[VW, VT, VF, .map (some bw), .map (some bt), .map (some bf), .pointer none, .int .i64 0] 80 (0, 0)) := fun w1 w2 hf q => mkF w2 (hf.2.2.2.2.2.2.1.trans q) (q.obj hf.2.2.2.2.2.2.2.1) (q.obj hf.2.2.2.2.2.2.2.2)
     obtain ⟨s3, p0, p1, p2, p3, p4, qd, oG3, oS3⟩ := mkF wA.drew hRA.b0 oG2 oS2
     clear mkF oG oG2 oS2 g0 g1 g2 g3 g4 qwr
     cases b1
     ·have hno := fun (_ : True) => hnoA (by rfl)
      refine wp_region_noPanic ?_
      refine wp_region_seq (S := fun w' => w'.cell? ⟨S, 4, none⟩ = some (.map (some bt)) ∧ w'.cell? ⟨G, 0, none⟩ = some (.string N) ∧ w'.cell? ⟨G, 1, none⟩ = some (.int .i64 X) ∧ w'.cell? ⟨G, 2, none⟩ = some (.int .i64 Y) ∧ w'.cell? ⟨G, 3, none⟩ = some (.int .i64 Z) ∧ w'.cell? ⟨G, 4, none⟩ = some (.slice so sn sc) ∧ B w0 w' ∧ w'.heap[G]? = some (.cells #[.string N, .int .i64 X, .int .i64 Y, .int .i64 Z, .slice so sn sc] 35 (0, 0)) ∧ w'.heap[S]? = some (.cells #[VW, VT, VF, .map (some bw), .map (some bt), .map (some bf), .pointer none, .int .i64 0] 80 (0, 0))) [(0, 0), (1, 0), (2, 0), (3, 0), (4, 0), (5, 0), (6, 2), (7, 0), (8, 0), (9, 1), (10, 1), (11, 1), (12, 0)] [0, 1, 2, 4, 0, 16, 40, 64, 192, 256, 768, 1280, 2304] [0, 1, 2, 4, 0, 16, 40, 64, 128, 256, 768, 1280, 2304] (by kernel_rfl) (by kernel_rfl) (fun _ _ _ _ _ h => h) ?_ (fun hH => ?_)
      ·exact ⟨s3, p0, p1, p2, p3, p4, qd, oG3, oS3⟩
      refine wpSeq_take (d := 56) rfl rfl (by kernel_rfl) (fun w hS => by go_simp <;> with_reducible rfl) ?_
      dsimp only [sZ, sS]
      refine wpSeq_take (d := 57) rfl rfl (by kernel_rfl) (fun w hS => by go_simp <;> with_reducible rfl) ?_
      dsimp only [sZ, sS]
      refine wpSeq_take (d := 58) rfl rfl (by kernel_rfl) (fun w hS => by go_simp <;> with_reducible rfl) ?_
      dsimp only [sZ, sS]
      refine wpSeq_take (d := 59) rfl rfl (by kernel_rfl) (fun w hS => by go_simp <;> with_reducible rfl) ?_
      dsimp only [sZ, sS]
      refine wpSeq_take (d := 60) rfl rfl (by kernel_rfl) (fun w hS => by go_simp <;> with_reducible rfl) ?_
      dsimp only [sZ, sS]
      refine wpSeq_take (d := 61) rfl rfl (by kernel_rfl) (fun w hS => by go_simp <;> with_reducible rfl) ?_
      dsimp only [sZ, sS]
      refine wpSeq_call rfl (by kernel_rfl) (fun K hK => ?_)
      go_simp
      (with_reducible refine (cA).mono ?_)
      rintro e w' ⟨rfl, hq⟩
      refine hK.out _ _ ?_ (fun hH => ?_)
      ·first | exact kT _ hq.2.1 | exact kB _ _ hH hq
      clear hK
      refine wpSeq_take (d := 63) rfl rfl (by kernel_rfl) (fun w hS => by go_simp <;> with_reducible rfl) ?_
      dsimp only [sZ, sS]
      refine wpSeq_take (d := 64) rfl rfl (by kernel_rfl) (fun w hS => by go_simp <;> with_reducible rfl) ?_
      dsimp only [sZ, sS]
      refine wpSeq_pass (d := 65) rfl rfl (by kernel_rfl) ?_
      dsimp only [sZ, sS]
      refine wpSeq_pass (d := 66) rfl rfl (by kernel_rfl) ?_
      dsimp only [sZ, sS]
      refine wpSeq_pass (d := 67) rfl rfl (by kernel_rfl) ?_
      dsimp only [sZ, sS]
      refine wpSeq_take (d := 68) rfl rfl (by kernel_rfl) (fun w hS => by go_simp <;> with_reducible rfl) ?_
      dsimp only [sZ, sS]
      refine wpSeq_done ?_
      refine NoPanic.normal ?_
      have HR := Lib.hid (hno trivial)
      have HB := Lib.hid hH.2.2.2.2.2.2.1
      clear hH cA cG kT kB hno hnoA hyesA haddA
      go_wp2
      go_ret
      exact ⟨by rw [HR.out]; rfl, q0.trans HB.out⟩
     ·cases b2
      ·have hno := fun (_ : True) => hnoA (by rfl)
       refine wp_region_noPanic ?_
       refine wp_region_seq (S := fun w' => w'.cell? ⟨S, 4, none⟩ = some (.map (some bt)) ∧ w'.cell? ⟨G, 0, none⟩ = some (.string N) ∧ w'.cell? ⟨G, 1, none⟩ = some (.int .i64 X) ∧ w'.cell? ⟨G, 2, none⟩ = some (.int .i64 Y) ∧ w'.cell? ⟨G, 3, none⟩ = some (.int .i64 Z) ∧ w'.cell? ⟨G, 4, none⟩ = some (.slice so sn sc) ∧ B w0 w' ∧ w'.heap[G]? = some (.cells #[.string N, .int .i64 X, .int .i64 Y, .int .i64 Z, .slice so sn sc] 35 (0, 0)) ∧ w'.heap[S]? = some (.cells #[VW, VT, VF, .map (some bw), .map (some bt), .map (some bf), .pointer none, .int .i64 0] 80 (0, 0))) [(0, 0), (1, 0), (2, 0), (3, 0), (4, 0), (5, 0), (6, 2), (7, 0), (8, 0), (9, 0), (10, 2), (11, 0), (12, 0)] [0, 1, 2, 4, 0, 16, 40, 64, 192, 256, 768, 1280, 2304] [0, 1, 2, 4, 0, 16, 40, 64, 128, 256, 768, 1280, 2304] (by kernel_rfl) (by kernel_rfl) (fun _ _ _ _ _ h => h) ?_ (fun hH => ?_)
       ·exact ⟨s3, p0, p1, p2, p3, p4, qd, oG3, oS3⟩
       refine wpSeq_take (d := 56) rfl rfl (by kernel_rfl) (fun w hS => by go_simp <;> with_reducible rfl) ?_
       dsimp only [sZ, sS]
       refine wpSeq_take (d := 57) rfl rfl (by kernel_rfl) (fun w hS => by go_simp <;> with_reducible rfl) ?_
       dsimp only [sZ, sS]
       refine wpSeq_take (d := 58) rfl rfl (by kernel_rfl) (fun w hS => by go_simp <;> with_reducible rfl) ?_
       dsimp only [sZ, sS]
       refine wpSeq_take (d := 59) rfl rfl (by kernel_rfl) (fun w hS => by go_simp <;> with_reducible rfl) ?_
       dsimp only [sZ, sS]
       refine wpSeq_take (d := 60) rfl rfl (by kernel_rfl) (fun w hS => by go_simp <;> with_reducible rfl) ?_
       dsimp only [sZ, sS]
       refine wpSeq_take (d := 61) rfl rfl (by kernel_rfl) (fun w hS => by go_simp <;> with_reducible rfl) ?_
       dsimp only [sZ, sS]
       refine wpSeq_call rfl (by kernel_rfl) (fun K hK => ?_)
       go_simp
       (with_reducible refine (cA).mono ?_)
       rintro e w' ⟨rfl, hq⟩
       refine hK.out _ _ ?_ (fun hH => ?_)
       ·first | exact kT _ hq.2.1 | exact kB _ _ hH hq
       clear hK
       refine wpSeq_take (d := 63) rfl rfl (by kernel_rfl) (fun w hS => by go_simp <;> with_reducible rfl) ?_
       dsimp only [sZ, sS]
       refine wpSeq_take (d := 64) rfl rfl (by kernel_rfl) (fun w hS => by go_simp <;> with_reducible rfl) ?_
       dsimp only [sZ, sS]
       refine wpSeq_take (d := 65) rfl rfl (by kernel_rfl) (fun w hS => by go_simp <;> with_reducible rfl) ?_
       dsimp only [sZ, sS]
       refine wpSeq_call rfl (by kernel_rfl) (fun K hK => ?_)
       go_simp
       (with_reducible refine (cG _ hH.2.2.2.2.2.2.1).mono ?_)
       rintro e w' ⟨rfl, hq⟩
       refine hK.out _ _ ?_ (fun hH => ?_)
       ·first | exact kT _ hq.2.1 | exact kB _ _ hH hq
       clear hK
       refine wpSeq_take (d := 67) rfl rfl (by kernel_rfl) (fun w hS => by go_simp <;> with_reducible rfl) ?_
       dsimp only [sZ, sS]
       refine wpSeq_take (d := 68) rfl rfl (by kernel_rfl) (fun w hS => by go_simp <;> with_reducible rfl) ?_
       dsimp only [sZ, sS]
       refine wpSeq_done ?_
       refine NoPanic.normal ?_
       have HR := Lib.hid (hno trivial)
       have HB := Lib.hid hH.2.2.2.2.2.2.1
       clear hH cA cG kT kB hno hnoA hyesA haddA
       go_wp2
       go_ret
       exact ⟨by rw [HR.out]; rfl, q0.trans HB.out⟩
      ·skip
   
    
       ·have hyes := fun (_ : True) => hyesA (by rfl)
        have haddN := fun (_ : True) => haddA rfl
        clear hnoA hyesA haddA
        go_region_with (first
         | (go_at_call 25; (with_reducible refine (Calls.mono cA ?_); rintro _ w3 ⟨rfl, m3, t3, u3⟩; obtain ⟨k0, k1, k2, k3, k4, k5, k6, k7, k8⟩ := kT _ t3))
         | (go_at_call 28; (with_reducible refine (Calls.mono (cG _ k6) ?_); rintro _ w5 ⟨rfl, q5⟩)))
        all_goals
         have HZ := Lib.hid ((hRA.addT m3 t3 u3 x1 x3).b (q5))
         clear cA cG kT kB
         go_wp2
         go_roundw
         case rel =>
          refine ⟨i + 1, by have := HL.out; omega, by go_num, (hU.out).next HF.out (hyes trivial), ?_⟩
          have e := HZ.out
          rw [haddN trivial] at e
          rw [List.take_add_one, HF.out]
          simpa using e
         case measure => have := HL.out; simp [intOf]; omega
    ·have hlB : decide ((i : Int) < (d.ts.length : Int)) = false := decide_eq_false (by omega)
     obtain rfl : i = d.ts.length := by omega
     have hU2 := Lib.hid hU
     clear hU
     have k2 : wr.cell? ⟨H, 2, none⟩ = some (.slice co d.fs.length cc) := obj_cell (oDk hRS.b0) 2
     have hRS2 := hRS
     rw [List.take_length] at hRS2
     clear hRS hlB k1
     go_wp2_with fail
     obtain ⟨wo2, rfl⟩ : ∃ wo2 : World, wo2 = wr := ⟨_, rfl⟩
     go_loopw [73] (fun iv wr => ∃ i : Nat, i ≤ d.fs.length ∧ iv = .int .i64 i ∧ FlTo d.ws d.fs i ∧ RSt w0 wr S bw bt bf (.cells #[VW, VT, VF, .map (some bw), .map (some bt), .map (some bf), .pointer none, .int .i64 0] 80 (0, 0)) (d.ws.map Rec.n) (d.ts.map Rec.n) (d.fs.take i)) (fun iv _ => d.fs.length + 1 - (intOf iv).toNat)
     case atStart => exact ⟨0, Nat.zero_le _, rfl, fun j F _ hj => by omega, hRS2⟩
     case round =>
      clear hRS2
      obtain ⟨i, hi, rfl, hU, hRS⟩ := hrel
      by_cases hl : i < d.fs.length
      ·have hlB : decide ((i : Int) < (d.fs.length : Int)) = true := decide_eq_true (by omega)
       have hlI : (i : Int) < (d.fs.length : Int) := by omega
       have hi0 : (0 : Int) ≤ (i : Int) := by omega
       have wk1 : IntKind.i64.wrap ((i : Int) + 1) = (i : Int) + 1 := by rw [IntKind.wrap_i64]; omega
       obtain ⟨g, cap, e1, _, _, hr⟩ := hD0.fs.at_ hl
       obtain ⟨rfl, _, rfl⟩ : co = some g ∧ True ∧ cc = cap := by simpa using e1
       obtain ⟨F, hF⟩ : ∃ F, d.fs[i]? = some F := ⟨_, List.getElem?_eq_getElem hl⟩
       have hFe : d.fs[i] = F := by rw [List.getElem?_eq_getElem hl] at hF; simpa using hF
       rw [hFe] at hr
       obtain ⟨g0, g1, g2, g3⟩ := hr
       replace g0 := hRS.b0.keep g0
       replace g1 := hRS.b0.keep g1
       replace g2 := hRS.b0.keep g2
       replace g3 := hRS.b0.keep g3
       have hsz := hzfs F (List.mem_of_getElem? hF)
       have hAB : (hasW d.ws F.n F.r F.c && inB F.v 0 20000000 && !filledW (d.fs.take i) F.n F.r F.c) = ((hasW d.ws F.n F.r F.c && !filledW (d.fs.take i) F.n F.r F.c) && inB F.v 0 20000000) := bool_perm3 _ _ _
       have hnoA := fun h => rightD_noF (d := d) (fl_no hF h)
       rw [hAB] at hnoA
       have hyesA : ((hasW d.ws F.n F.r F.c && !filledW (d.fs.take i) F.n F.r F.c) && inB F.v 0 20000000) = true → (hasW d.ws F.n F.r F.c && inB F.v 0 20000000 && !filledW (d.fs.take i) F.n F.r F.c) = true := fun h => hAB.trans h
       have hfa : (hasW d.ws F.n F.r F.c && !filledW (d.fs.take i) F.n F.r F.c) = true → fillN d.ws (d.fs.take i) F.n F.r F.c = d.fs.take i ++ [⟨F.n, F.r, F.c, 0⟩] := fun h => by unfold fillN; rw [if_pos h]
       have HF := Lib.hid hF
       have HL := Lib.hid hl
       clear hAB hF hFe e1 hl
       obtain ⟨N, RR, CC, V⟩ := F
       simp only at g0 g1 g2 g3 hsz hnoA hyesA hfa
       have hRA := hRS.b ((B.refl wr).alloc #[.string N, .int .i64 RR, .int .i64 CC, .int .i64 V] 41)
       have oG := obj_new wr (.cells #[.string N, .int .i64 RR, .int .i64 CC, .int .i64 V] 41)
       have cF := fill_any (wr.alloc (.cells #[.string N, .int .i64 RR, .int .i64 CC, .int .i64 V] 41)) w0.heap.size S bw bf VW VT VF (.map (some bt)) (.pointer none) (.int .i64 0) d.ws (d.fs.take i) N RR CC hsz.1 hsz.2.1 hsz.2.2 hRA.obj (hVW.keepB hRA.b0) hRA.mw hRA.mf gf (by rw [List.length_take]; omega)
       have cw := fun w => within_any V 0 20000000 w
       have ew : inB V 0 20000000 = (decide (0 ≤ V) && decide (V ≤ 20000000)) := rfl
       rw [← ew] at cw
       obtain ⟨b1, hb1⟩ : ∃ b, (hasW d.ws N RR CC && !filledW (d.fs.take i) N RR CC) = b := ⟨_, rfl⟩
       rw [hb1] at cF hnoA hyesA hfa
       obtain ⟨b2, hb2⟩ : ∃ b, inB V 0 20000000 = b := ⟨_, rfl⟩
       rw [hb2] at cw hnoA
       have HB2 := Lib.hid hb2
       have hU := Lib.hid hU
       have q0r := q0.trans hRS.b0
       clear hb1 hb2 ew hsz hRS
       go_wp2_with fail
       refine (Calls.mono cF ?_)
       rintro _ w3 ⟨rfl, m3, t3, u3⟩
       have hR3 := hRA.addF m3 t3 u3 x2 x3
       have oG3 := t3.objc oG (by decide)
       generalize wr.heap.size = G at *
       have p3 : w3.cell? ⟨G, 3, none⟩ = some (.int .i64 V) := obj_cell oG3 3
       have q03 := q0.trans hR3.b0
       cases b1
       ·have HR := Lib.hid (hnoA (by rfl))
        clear cF cw hRA hR3 m3 t3 u3 hnoA hyesA hfa oG oG3
        go_wp2
        go_ret
        exact ⟨by rw [HR.out]; rfl, q03⟩
       ·cases b2
        ·have HR := Lib.hid (hnoA (by rfl))
         clear cF hRA hR3 m3 t3 u3 hnoA hyesA hfa oG oG3
         go_wp2_with (go_at_call 30; refine (cw _).mono ?_; rintro _ _ ⟨rfl, rfl⟩)
         go_ret
         exact ⟨by rw [HR.out]; rfl, q03⟩
        ·have HZ := Lib.hid (And.intro hR3 (And.intro (hyesA (by rw [HB2.out]; rfl)) (hfa rfl)))
         clear cF hRA hR3 m3 t3 u3 hnoA hyesA hfa oG oG3
         go_wp2_with (go_at_call 30; refine (cw _).mono ?_; rintro _ _ ⟨rfl, rfl⟩)
         go_roundw
         case rel =>
          obtain ⟨hR3, hy, hfa⟩ := HZ.out
          refine ⟨i + 1, by have := HL.out; omega, by go_num, hU.out.next HF.out hy, ?_⟩
          rw [hfa] at hR3
          rw [List.take_add_one, HF.out]
          exact ⟨hR3.obj, hR3.mw, hR3.mt, by simpa using fm_swap hR3.mf V, hR3.b0⟩
         case measure => have := HL.out; simp [intOf]; omega
      ·have hlB : decide ((i : Int) < (d.fs.length : Int)) = false := decide_eq_false (by omega)
       have hyes : rightD d = true := by
        unfold rightD
        rw [decide_eq_true (show d.ws.length ≤ 8 by omega), decide_eq_true (show d.ts.length ≤ 4 by omega), apart_yes fun j F hj => hU1.out j F hj (List.getElem?_eq_some_iff.1 hj).1, apart_yes fun j F hj => hU2.out j F hj (List.getElem?_eq_some_iff.1 hj).1, fl_yes fun j F hj => hU j F hj (by have := (List.getElem?_eq_some_iff.1 hj).1; omega)]
        rfl
       have HR := Lib.hid hyes
       have HB := Lib.hid (q0.trans hRS.b0)
       clear hyes hU hRS
       go_wp2
       go_ret
       exact ⟨by rw [HR.out]; rfl, HB.out⟩
end Go.Proofs.YtglniapfnhedoaaGreatDoor
namespace Go.Proofs.YtglniapfnhedoaaGreatDoor
open Go.RowKit
def decS (n : Nat) : ByteArray := ⟨(Lib.decDigits n).toArray⟩
theorem decS_small : ∀ n : Nat, n < 10 → ({ data := #[48, 49, 50, 51, 52, 53, 54, 55, 56, 57] } : ByteArray).extract n (n + 1) = decS n := by
 intro n hn
 have e : decS n = ⟨#[UInt8.ofNat (48 + n)]⟩ := by unfold decS; rw [Lib.decDigits, dif_pos hn]
 rw [e]
 have : n = 0 ∨ n = 1 ∨ n = 2 ∨ n = 3 ∨ n = 4 ∨ n = 5 ∨ n = 6 ∨ n = 7 ∨ n = 8 ∨ n = 9 := by omega
 rcases this with rfl | rfl | rfl | rfl | rfl | rfl | rfl | rfl | rfl | rfl <;> rfl
theorem decS_app {n q r : Nat} (h : 10 ≤ n) (hq : q = n / 10) (hr : r = n % 10) : decS q ++ decS r = decS n := by
 apply ByteArray.ext
 rw [ByteArray.data_append]
 have e1 : Lib.decDigits n = Lib.decDigits (n / 10) ++ [UInt8.ofNat (48 + n % 10)] := by rw [Lib.decDigits.eq_def n, dif_neg (by omega)]
 have e2 : Lib.decDigits (n % 10) = [UInt8.ofNat (48 + n % 10)] := by rw [Lib.decDigits.eq_def (n % 10), dif_pos (by omega)]
 unfold decS
 subst hq hr
 rw [e1, e2]
 simp
theorem decS_size {n : Nat} (h : n ≤ 10000000000000) : (decS n).size ≤ 20 := by
 have e : (decS n).size = (Lib.decDigits n).length := by simp [decS, ByteArray.size]
 rw [e, Lib.decDigits_length]
 exact Lib.nDigits_le20 n (by omega)
theorem slice_digit {n : Nat} (c : n < 10) (w : World) : (Instr.slice 9 (.string { data := #[48, 49, 50, 51, 52, 53, 54, 55, 56, 57] }) (some (.int .i64 (n : Int))) (some (.int .i64 ((n : Int) + 1))) none).run Tryz.prog w = .ok (.string (decS n)) w := by
 have hs : ({ data := #[48, 49, 50, 51, 52, 53, 54, 55, 56, 57] } : ByteArray).size = 10 := rfl
 rw [run_slice_string w 9 _ .i64 .i64 (n : Int) ((n : Int) + 1) Tryz.underlying9 (by omega) (by omega) (by rw [hs]; omega), ← decS_small n c]
 rw [show ((n : Int) + 1).toNat = n + 1 by omega, Int.toNat_natCast]
theorem r8dec_any : ∀ (f n : Nat), n ≤ f → n ≤ 10000000000000 → ∀ w : World, Calls Tryz.prog 39 #[.int .i64 (n : Int)] w fun e w' => e = .returned (.string (decS n)) ∧ w = w' := by
 intro f
 induction f with
 | zero =>
  intro n hf hn w
  obtain rfl : n = 0 := by omega
  have e := decS_small 0 (by decide)
  go_enter Tryz.func39, Tryz.ntmps39
  go_wp2
  go_ret
  exact ⟨by rw [← e]; rfl, rfl⟩
 | succ f ih =>
  intro n hf hn w
  by_cases c : n < 10
  ·have e := slice_digit c
   have cB : decide ((n : Int) < 10) = true := decide_eq_true (by omega)
   have wk : IntKind.i64.wrap ((n : Int) + 1) = (n : Int) + 1 := by rw [IntKind.wrap_i64]; omega
   clear ih hf hn c
   go_enter Tryz.func39, Tryz.ntmps39
   go_wp2
   go_ret
   exact ⟨rfl, rfl⟩
  ·obtain ⟨q, hq⟩ : ∃ q, q = n / 10 := ⟨_, rfl⟩
   obtain ⟨r, hr⟩ : ∃ r, r = n % 10 := ⟨_, rfl⟩
   have e := Lib.hid (decS_app (by omega) hq hr)
   have cB : decide ((n : Int) < 10) = false := decide_eq_false (by omega)
   have tq : (n : Int).tdiv 10 = (q : Int) := by rw [Int.tdiv_eq_ediv_of_nonneg (by omega)]; omega
   have tr : (n : Int).tmod 10 = (r : Int) := by rw [Int.tmod_eq_emod_of_nonneg (by omega)]; omega
   have wq : IntKind.i64.wrap (q : Int) = (q : Int) := by rw [IntKind.wrap_i64]; omega
   have wr : IntKind.i64.wrap (r : Int) = (r : Int) := by rw [IntKind.wrap_i64]; omega
   have hsz : ¬ 9223372036854775807 < (decS q).size + (decS r).size := by
    have := decS_size (n := q) (by omega)
    have := decS_size (n := r) (by omega)
    omega
   have c1 := ih q (by omega) (by omega)
   have c2 := ih r (by omega) (by omega)
   clear ih hf hn hq hr
   go_enter Tryz.func39, Tryz.ntmps39
   go_wp2_with fail
   refine (c1 _).mono ?_
   rintro e1 w1 ⟨rfl, rfl⟩
   go_wp2_with fail
   refine (c2 _).mono ?_
   rintro e1 w1 ⟨rfl, rfl⟩
   go_wp2_with fail
   go_ret
   exact ⟨by rw [← e.out]; rfl, rfl⟩
end Go.Proofs.YtglniapfnhedoaaGreatDoor
namespace Go.Proofs.YtglniapfnhedoaaGreatDoor
open Go.RowKit
theorem strB_app (a b : List UInt8) : strB a ++ strB b = strB (a ++ b) := by
 apply ByteArray.ext
 rw [ByteArray.data_append]
 simp [strB]
theorem decS_strB (n : Nat) : decS n = strB (decI n) := by unfold decS decI strB; rw [Int.toNat_natCast]
theorem take_flat {α β : Type} {l : List α} {f : α → List β} {i : Nat} {x : α} (h : l[i]? = some x) : (l.take (i + 1)).flatMap f = (l.take i).flatMap f ++ f x := by
 rw [List.take_add_one, h]
 simp
end Go.Proofs.YtglniapfnhedoaaGreatDoor
