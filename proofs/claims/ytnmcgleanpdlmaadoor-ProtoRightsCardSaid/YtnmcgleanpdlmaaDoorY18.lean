/-
  The statements' steps of pieces; []byte(s): the bytes of a text, in a block of their own.
-/
import Derived.Deep.DeepCutAuto
import Derived.Deep.RegionHeld
import Derived.Deep.CutBlock
import Derived.Lib.ConvBytes
import Derived.Lib.Strings
import Derived.Lib.UnsafeStr
import Derived.Test.YtnmcgleanpdlmaaDoorY1
import Derived.Test.YtnmcgleanpdlmaaDoorY2
import Derived.Test.YtnmcgleanpdlmaaDoorY3
import Derived.Test.YtnmcgleanpdlmaaDoorY4
import Derived.Test.YtnmcgleanpdlmaaDoorY7
import Derived.Test.YtnmcgleanpdlmaaDoorY8
import Derived.Test.YtnmcgleanpdlmaaDoorY9
import Derived.Test.YtnmcgleanpdlmaaDoorY10
import Derived.Test.YtnmcgleanpdlmaaDoorY12
import Derived.Test.YtnmcgleanpdlmaaDoorY16
import Derived.Test.YtnmcgleanpdlmaaDoorY17
namespace Go.Proofs.YtnmcgleanpdlmaaDoor
open Go.RowKit
set_option linter.unusedVariables false
structure PzAt (w : World) (p : Addr) (z : Pz) : Prop where
  k : w.cell? p = some (.int .u8 (z.k : Int))
  a : w.cell? ⟨p.block, p.off + 1, none⟩ = some (.int .u8 (z.a : Int))
  b : w.cell? ⟨p.block, p.off + 2, none⟩ = some (.int .u8 (z.b : Int))
  c : w.cell? ⟨p.block, p.off + 3, none⟩ = some (.int .u8 (z.c : Int))
  v : w.cell? ⟨p.block, p.off + 4, none⟩ = some (.int .u32 (z.v : Int))
  l : z.k < 256 ∧ z.a < 256 ∧ z.b < 256 ∧ z.c < 256 ∧ z.v < 4294967296
theorem PzAt.keepB {w w' : World} {p : Addr} {z : Pz} (h : PzAt w p z) (q : B w w') : PzAt w' p z := ⟨q.keep h.k, q.keep h.a, q.keep h.b, q.keep h.c, q.keep h.v, h.l⟩
/-- Pieces in memory. -/
def IsPzs (w : World) (v : Value) (L : List Pz) : Prop :=
  (v = .slice none 0 0 ∧ L = []) ∨
  ∃ (a : Addr) (cap : Nat), v = .slice (some a) L.length cap ∧ L.length ≤ cap ∧ cap ≤ maxLen ∧ ∀ i f, L[i]? = some f → PzAt w (a.add (i * 5)) f
theorem IsPzs.keepB {w w' : World} {v : Value} {L : List Pz} (h : IsPzs w v L) (q : B w w') : IsPzs w' v L := by
  rcases h with h | ⟨a, cap, h1, h2, h3, h4⟩
  · exact .inl h
  · exact .inr ⟨a, cap, h1, h2, h3, fun i f hf => (h4 i f hf).keepB q⟩
theorem IsPzs.form {w : World} {v : Value} {L : List Pz} (h : IsPzs w v L) : ∃ ao cap, v = .slice ao L.length cap := by
  rcases h with ⟨rfl, rfl⟩ | ⟨a, cap, rfl, _⟩
  · exact ⟨_, _, rfl⟩
  · exact ⟨_, _, rfl⟩
theorem IsPzs.at_ {w : World} {v : Value} {L : List Pz} (h : IsPzs w v L) {i : Nat} (hi : i < L.length) : ∃ (a : Addr) (cap : Nat), v = .slice (some a) L.length cap ∧ L.length ≤ cap ∧ cap ≤ maxLen ∧ PzAt w (a.add (i * 5)) L[i] := by
  rcases h with ⟨_, rfl⟩ | ⟨a, cap, h1, h2, h3, h4⟩
  · simp at hi
  · exact ⟨a, cap, h1, h2, h3, h4 i _ (List.getElem?_eq_getElem hi)⟩
theorem stepI : (Tryd.prog.info? 27).map (fun i => (i.zero, i.size, i.bytes)) = some (some (.agg #[.int .i64 0, .string ⟨#[]⟩, .slice none 0 0, .int .i64 0, .int .i64 0]), 5, 64) := by kernel_rfl
theorem wrap_nat {x : Nat} (h : x < 9223372036854775808) : IntKind.i64.wrap (x : Int) = (x : Int) := by rw [IntKind.wrap_i64]; omega
theorem wrap_u8 {x : Nat} (h : x < 256) : IntKind.u8.wrap (x : Int) = (x : Int) := by unfold IntKind.wrap; simp [IntKind.bits, IntKind.signed]; omega
theorem wrap_u32 {x : Nat} (h : x < 4294967296) : IntKind.u32.wrap (x : Int) = (x : Int) := by unfold IntKind.wrap; simp [IntKind.bits, IntKind.signed]; omega
theorem tmod_nat (x y : Nat) : ((x : Int)).tmod (y : Int) = ((x % y : Nat) : Int) := by rw [Int.tmod_eq_emod_of_nonneg (by omega)]; omega
theorem cell_five {w : World} {X : Nat} {a : Addr} {v : Value} (h : w.cell? a = some v) (hne : ¬ X = a.block) (x0 x1 x2 x3 x4 : Value) : (((((w.setCell ⟨X, 0, none⟩ x0).setCell ⟨X, 1, none⟩ x1).setCell ⟨X, 2, none⟩ x2).setCell ⟨X, 3, none⟩ x3).setCell ⟨X, 4, none⟩ x4).cell? a = some v := by
  rw [World.cell?_setCell_far _ _ _ _ hne, World.cell?_setCell_far _ _ _ _ hne, World.cell?_setCell_far _ _ _ _ hne, World.cell?_setCell_far _ _ _ _ hne, World.cell?_setCell_far _ _ _ _ hne]
  exact h
set_option maxRecDepth 100000 in
set_option maxHeartbeats 6000000 in
theorem steps_any (wv tv fv lv : Value) (d : Dk) (ps : List Pz) (w : World) (hD : IsDk w wv tv fv d) (hP : IsPzs w lv ps) (hwb : ∀ x ∈ d.ws, wareB x) (hw100 : d.ws.length ≤ 100) (hc0 : 0 < countW d.ws) (hc1 : countW d.ws ≤ 9600) (hps : ps.length ≤ 1000) :
    Calls Tryd.prog 5 #[.agg #[wv, tv, fv], lv, .bool false] w fun e w' => ∃ sv, e = .returned sv ∧ IsSps w' sv (seatSteps d ps) ∧ B w w' := by
  obtain ⟨i0, hi0, hz0, hz1, hz2⟩ := info_of stepI
  obtain ⟨ao, ac, bo, bc, co, cc, rfl, rfl, rfl⟩ := hD.forms
  obtain ⟨lo, lc, rfl⟩ := hP.form
  obtain ⟨W0, hW0⟩ : ∃ W0, w.alloc (.cells #[.slice ao d.ws.length ac, .slice bo d.ts.length bc, .slice co d.fs.length cc] 33) = W0 := ⟨_, rfl⟩
  have q0 := (B.refl w).alloc #[.slice ao d.ws.length ac, .slice bo d.ts.length bc, .slice co d.fs.length cc] 33
  have oD := obj_new w (.cells #[.slice ao d.ws.length ac, .slice bo d.ts.length bc, .slice co d.fs.length cc] 33)
  have hs0 : W0.heap.size = w.heap.size + 1 := by rw [← hW0]; simp
  rw [hW0] at q0 oD
  have hDW := hD.keepB q0
  have hPW := hP.keepB q0
  have own0 := World.ownsRow_lit (base := W0.heap.size) (e := 27) (size := 5) W0 #[.int .i64 0, .string ⟨#[116, 49]⟩, .slice none 0 0, .int .i64 0, .int .i64 0] 1 (Nat.le_refl _) (by unfold maxLen; omega) rfl
  have q1 := (B.refl W0).alloc #[.int .i64 0, .string ⟨#[116, 49]⟩, .slice none 0 0, .int .i64 0, .int .i64 0] 27
  have oD1 := q1.obj oD
  have d0 : (W0.alloc (.cells #[.int .i64 0, .string ⟨#[116, 49]⟩, .slice none 0 0, .int .i64 0, .int .i64 0] 27)).cell? ⟨w.heap.size, 0, none⟩ = some (.slice ao d.ws.length ac) := obj_cell oD1 0
  have d1 : (W0.alloc (.cells #[.int .i64 0, .string ⟨#[116, 49]⟩, .slice none 0 0, .int .i64 0, .int .i64 0] 27)).cell? ⟨w.heap.size, 1, none⟩ = some (.slice bo d.ts.length bc) := obj_cell oD1 1
  have d2 : (W0.alloc (.cells #[.int .i64 0, .string ⟨#[116, 49]⟩, .slice none 0 0, .int .i64 0, .int .i64 0] 27)).cell? ⟨w.heap.size, 2, none⟩ = some (.slice co d.fs.length cc) := obj_cell oD1 2
  have cC := r8count_any _ _ _ d _ (hDW.keepB q1) hwb hw100
  obtain ⟨nn, hnn⟩ := Int.eq_ofNat_of_zero_le (show 0 ≤ countW d.ws by omega)
  rw [hnn] at cC
  have hn1 : 1 ≤ nn ∧ nn ≤ 9600 := by omega
  have hO0 : StepsO (W0.alloc (.cells #[.int .i64 0, .string ⟨#[116, 49]⟩, .slice none 0 0, .int .i64 0, .int .i64 0] 27)) W0.heap.size 27 (.slice (some ⟨W0.heap.size, 0, none⟩) 1 1) [⟨0, nameT1, [], 0, 0⟩] [.slice none 0 0] :=
    ⟨rfl, own0, fun j u s hu hs => by
      match j, hu, hs with
      | 0, hu, hs =>
        simp only [List.getElem?_cons_zero, Option.some.injEq] at hu hs
        subst hu hs
        exact ⟨.inl ⟨rfl, rfl⟩, fun b hb => by cases hb⟩
      | j + 1, hu, hs => simp at hu⟩
  clear hD hP own0
  obtain ⟨base, hbase⟩ : ∃ base, W0.heap.size = base := ⟨_, rfl⟩
  rw [hbase] at hO0 hs0
  obtain ⟨H, hH⟩ : ∃ H, w.heap.size = H := ⟨_, rfl⟩
  rw [hH] at oD oD1 d0 d1 d2 hs0
  replace hs0 := Lib.hid hs0
  obtain ⟨W1, hW1⟩ : ∃ W1, W0.alloc (.cells #[.int .i64 0, .string ⟨#[116, 49]⟩, .slice none 0 0, .int .i64 0, .int .i64 0] 27) = W1 := ⟨_, rfl⟩
  rw [hW1] at hO0 d0 d1 d2 cC q1 oD1
  go_enter Tryd.func5, Tryd.ntmps5
  go_wp2_with fail
  try rw [hW0]
  try rw [hW1]
  try rw [hH]
  try rw [hbase]
  try rw [← hs0.out]
  go_wp2_with fail
  refine cC.mono ?_
  rintro _ w2 ⟨rfl, q2⟩
  replace hO0 := hO0.keep q2
  replace q1 := q1.trans q2
  clear cC q2 hW1 d0 d1 d2
  have nnB : ((nn : Int) == 0) = false := by simp; omega
  have nn0 : ¬ (nn : Int) = 0 := by omega
  have nn0' : ¬ nn = 0 := by omega
  have hbs := Lib.hid hbase
  clear oD1 hbase
  go_wp2_with fail
  go_loopw [7, 9] (fun sv iv wr => ∃ (i g cap : Nat) (SS : List Sp) (vs : List Value), i ≤ ps.length ∧ iv = .int .i64 i ∧ sv = .slice (some ⟨g, 0, none⟩) SS.length cap ∧ SS = ⟨0, nameT1, [], 0, 0⟩ :: (ps.take i).map (pieceS d) ∧ StepsO wr base 27 (.slice (some ⟨g, 0, none⟩) SS.length cap) SS vs ∧ B W0 wr) (fun _ iv _ => ps.length + 1 - (intOf iv).toNat)
  case atStart => exact ⟨0, base, 1, _, _, Nat.zero_le _, rfl, rfl, rfl, hO0, q1⟩
  case round =>
    obtain ⟨i, g, cap, SS, vs, hi, rfl, rfl, hSS, hO, hB⟩ := hrel
    obtain ⟨wo, rfl⟩ : ∃ wo : World, wo = wr := ⟨_, rfl⟩
    clear hO0 q1
    by_cases hl : i < ps.length
    · have hlB : decide ((i : Int) < (ps.length : Int)) = true := decide_eq_true (by omega)
      have hlN : decide (i < ps.length) = true := decide_eq_true hl
      have hlI : (i : Int) < (ps.length : Int) := by omega
      have hi0' : (0 : Int) ≤ (i : Int) := by omega
      have wk1 : IntKind.i64.wrap ((i : Int) + 1) = (i : Int) + 1 := by rw [IntKind.wrap_i64]; omega
      obtain ⟨a, cap', e1, _, _, hr⟩ := (hPW.keepB hB).at_ hl
      obtain ⟨rfl, _, rfl⟩ : lo = some a ∧ True ∧ lc = cap' := by simpa using e1
      obtain ⟨F, hF⟩ : ∃ F, ps[i]? = some F := ⟨_, List.getElem?_eq_getElem hl⟩
      have hFe : ps[i] = F := by rw [List.getElem?_eq_getElem hl] at hF; simpa using hF
      rw [hFe] at hr
      obtain ⟨pk, pa, pb, pc, pv⟩ := F
      obtain ⟨g0, g1, g2, g3, g4, hl5⟩ := hr
      simp only at g0 g1 g2 g3 g4 hl5
      have qP := (B.refl wo).alloc #[.int .u8 (pk : Int), .int .u8 (pa : Int), .int .u8 (pb : Int), .int .u8 (pc : Int), .int .u32 (pv : Int)] 60
      have oP := obj_new wo (.cells #[.int .u8 (pk : Int), .int .u8 (pa : Int), .int .u8 (pb : Int), .int .u8 (pc : Int), .int .u32 (pv : Int)] 60)
      obtain ⟨WQ, hWQ⟩ : ∃ WQ, wo.alloc (.cells #[.int .u8 (pk : Int), .int .u8 (pa : Int), .int .u8 (pb : Int), .int .u8 (pc : Int), .int .u32 (pv : Int)] 60) = WQ := ⟨_, rfl⟩
      rw [hWQ] at qP oP
      have hOp := hO.keep qP
      have hBp := hB.trans qP
      have oDp := hBp.obj oD
      have hHP : H < wo.heap.size := obj_lt (hB.obj oD)
      have aA := tmod_nat pa nn
      have aB := tmod_nat pb nn
      have aC := tmod_nat pc nn
      have lA : pa % nn < 9600 := by have := Nat.mod_lt pa (show 0 < nn by omega); omega
      have lB : pb % nn < 9600 := by have := Nat.mod_lt pb (show 0 < nn by omega); omega
      have lC : pc % nn < 9600 := by have := Nat.mod_lt pc (show 0 < nn by omega); omega
      have uA := wrap_nat (x := pa) (by omega)
      have uB := wrap_nat (x := pb) (by omega)
      have uC := wrap_nat (x := pc) (by omega)
      have cA1 : ∀ w', B WQ w' → Calls Tryd.prog 17 #[.agg #[.slice ao d.ws.length ac, .slice bo d.ts.length bc, .slice co d.fs.length cc], .int .i64 ((pa % nn : Nat) : Int)] w' fun e w'' => e = .returned (wpAt d.ws (pa % nn)).val ∧ B w' w'' := fun w' q => seatat_any _ _ _ d (pa % nn) (by omega) w' ((hDW.keepB hBp).keepB q) hwb
      have cA2 : ∀ w', B WQ w' → Calls Tryd.prog 17 #[.agg #[.slice ao d.ws.length ac, .slice bo d.ts.length bc, .slice co d.fs.length cc], .int .i64 ((pb % nn : Nat) : Int)] w' fun e w'' => e = .returned (wpAt d.ws (pb % nn)).val ∧ B w' w'' := fun w' q => seatat_any _ _ _ d (pb % nn) (by omega) w' ((hDW.keepB hBp).keepB q) hwb
      have cA3 : ∀ w', B WQ w' → Calls Tryd.prog 17 #[.agg #[.slice ao d.ws.length ac, .slice bo d.ts.length bc, .slice co d.fs.length cc], .int .i64 ((pc % nn : Nat) : Int)] w' fun e w'' => e = .returned (wpAt d.ws (pc % nn)).val ∧ B w' w'' := fun w' q => seatat_any _ _ _ d (pc % nn) (by omega) w' ((hDW.keepB hBp).keepB q) hwb
      have hcn : (countW d.ws).toNat = nn := by rw [hnn]; rfl
      have hPW3 : pieceW d.ws ⟨pk, pa, pb, pc, pv⟩ = [wpAt d.ws (pa % nn), wpAt d.ws (pb % nn), wpAt d.ws (pc % nn)] := by unfold pieceW; rw [hcn]
      obtain ⟨⟨n1, r1, c1⟩, hx1⟩ : ∃ x, wpAt d.ws (pa % nn) = x := ⟨_, rfl⟩
      obtain ⟨⟨n2, r2, c2⟩, hx2⟩ : ∃ x, wpAt d.ws (pb % nn) = x := ⟨_, rfl⟩
      obtain ⟨⟨n3, r3, c3⟩, hx3⟩ : ∃ x, wpAt d.ws (pc % nn) = x := ⟨_, rfl⟩
      rw [hx1] at cA1 hPW3
      rw [hx2] at cA2 hPW3
      rw [hx3] at cA3 hPW3
      simp only [Wp.val] at cA1 cA2 cA3
      have eA : IntKind.i64.wrap ((pa % nn : Nat) : Int) = ((pa % nn : Nat) : Int) := wrap_nat (by omega)
      have eB : IntKind.i64.wrap ((pb % nn : Nat) : Int) = ((pb % nn : Nat) : Int) := wrap_nat (by omega)
      have eC : IntKind.i64.wrap ((pc % nn : Nat) : Int) = ((pc % nn : Nat) : Int) := wrap_nat (by omega)
      generalize pa % nn = A1 at *
      generalize pb % nn = B1 at *
      generalize pc % nn = C1 at *
      have HK := Lib.hid (And.intro hPW3 (And.intro hF (And.intro hSS hl)))
      clear hx1 hx2 hx3 hcn hPW3 hF hFe hSS hl e1 hi
      obtain ⟨P, hPs⟩ : ∃ P, wo.heap.size = P := ⟨_, rfl⟩
      rw [hPs] at oP hHP
      have m0 : WQ.drew.cell? ⟨H, 0, none⟩ = some (.slice ao d.ws.length ac) := obj_cell oDp 0
      have m1 : WQ.drew.cell? ⟨H, 1, none⟩ = some (.slice bo d.ts.length bc) := obj_cell oDp 1
      have m2 : WQ.drew.cell? ⟨H, 2, none⟩ = some (.slice co d.fs.length cc) := obj_cell oDp 2
      have m3 : WQ.drew.cell? ⟨P, 0, none⟩ = some (.int .u8 (pk : Int)) := obj_cell oP 0
      have m4 : WQ.drew.cell? ⟨P, 1, none⟩ = some (.int .u8 (pa : Int)) := obj_cell oP 1
      have m5 : WQ.drew.cell? ⟨P, 2, none⟩ = some (.int .u8 (pb : Int)) := obj_cell oP 2
      have m6 : WQ.drew.cell? ⟨P, 3, none⟩ = some (.int .u8 (pc : Int)) := obj_cell oP 3
      have m7 : WQ.drew.cell? ⟨P, 4, none⟩ = some (.int .u32 (pv : Int)) := obj_cell oP 4
      go_wp2_with fail
      try rw [hWQ]
      try rw [hPs]
      refine wp_region_noPanic ?_
      refine wp_region_seq (S := fun w' => w'.cell? ⟨H, 0, none⟩ = some (.slice ao d.ws.length ac) ∧ w'.cell? ⟨H, 1, none⟩ = some (.slice bo d.ts.length bc) ∧ w'.cell? ⟨H, 2, none⟩ = some (.slice co d.fs.length cc) ∧ w'.cell? ⟨P, 0, none⟩ = some (.int .u8 (pk : Int)) ∧ w'.cell? ⟨P, 1, none⟩ = some (.int .u8 (pa : Int)) ∧ w'.cell? ⟨P, 2, none⟩ = some (.int .u8 (pb : Int)) ∧ w'.cell? ⟨P, 3, none⟩ = some (.int .u8 (pc : Int)) ∧ w'.cell? ⟨P, 4, none⟩ = some (.int .u32 (pv : Int)) ∧ B WQ w') [(0, 0), (1, 0), (2, 0), (3, 0), (4, 0), (5, 0), (7, 0), (8, 0), (9, 0), (10, 0), (11, 0), (12, 0), (14, 0), (15, 0), (16, 0), (17, 0), (18, 0), (19, 0), (6, 2), (13, 2), (20, 2), (21, 2), (22, 0)] [0, 0, 2, 4, 0, 24, 33, 0, 0, 256, 512, 0, 3072, 4288, 0, 0, 32768, 65536, 0, 393216, 548864, 1056832, 4194303] [0, 0, 2, 4, 0, 24, 33, 0, 0, 256, 512, 0, 3072, 4224, 0, 0, 32768, 65536, 0, 393216, 540672, 1056832, 2097152] (by kernel_rfl) (by kernel_rfl) (fun _ _ _ _ _ h => h) ?_ (fun hH => ?_)
      · exact ⟨m0, m1, m2, m3, m4, m5, m6, m7, (B.refl WQ).drew⟩
      refine wpSeq_take (d := 28) (v := ?_) rfl rfl (by kernel_rfl) (fun w hS => ?_) ?_
      rotate_left
      · go_simp <;> with_reducible rfl
      dsimp only [List.set_cons_zero, List.set_cons_succ]
      refine wpSeq_take (d := 29) (v := ?_) rfl rfl (by kernel_rfl) (fun w hS => ?_) ?_
      rotate_left
      · go_simp <;> with_reducible rfl
      dsimp only [List.set_cons_zero, List.set_cons_succ]
      refine wpSeq_take (d := 30) (v := ?_) rfl rfl (by kernel_rfl) (fun w hS => ?_) ?_
      rotate_left
      · go_simp <;> with_reducible rfl
      dsimp only [List.set_cons_zero, List.set_cons_succ]
      refine wpSeq_take (d := 31) (v := ?_) rfl rfl (by kernel_rfl) (fun w hS => ?_) ?_
      rotate_left
      · go_simp <;> with_reducible rfl
      dsimp only [List.set_cons_zero, List.set_cons_succ]
      refine wpSeq_take (d := 32) (v := ?_) rfl rfl (by kernel_rfl) (fun w hS => ?_) ?_
      rotate_left
      · go_simp <;> with_reducible rfl
      dsimp only [List.set_cons_zero, List.set_cons_succ]
      refine wpSeq_take (d := 33) (v := ?_) rfl rfl (by kernel_rfl) (fun w hS => ?_) ?_
      rotate_left
      · go_simp <;> with_reducible rfl
      dsimp only [List.set_cons_zero, List.set_cons_succ]
      refine wpSeq_take (d := 35) (v := ?_) rfl rfl (by kernel_rfl) (fun w hS => ?_) ?_
      rotate_left
      · go_simp <;> with_reducible rfl
      dsimp only [List.set_cons_zero, List.set_cons_succ]
      refine wpSeq_take (d := 36) (v := ?_) rfl rfl (by kernel_rfl) (fun w hS => ?_) ?_
      rotate_left
      · go_simp <;> with_reducible rfl
      dsimp only [List.set_cons_zero, List.set_cons_succ]
      refine wpSeq_take (d := 37) (v := ?_) rfl rfl (by kernel_rfl) (fun w hS => ?_) ?_
      rotate_left
      · go_simp <;> with_reducible rfl
      dsimp only [List.set_cons_zero, List.set_cons_succ]
      refine wpSeq_take (d := 38) (v := ?_) rfl rfl (by kernel_rfl) (fun w hS => ?_) ?_
      rotate_left
      · go_simp <;> with_reducible rfl
      dsimp only [List.set_cons_zero, List.set_cons_succ]
      refine wpSeq_take (d := 39) (v := ?_) rfl rfl (by kernel_rfl) (fun w hS => ?_) ?_
      rotate_left
      · go_simp <;> with_reducible rfl
      dsimp only [List.set_cons_zero, List.set_cons_succ]
      refine wpSeq_take (d := 40) (v := ?_) rfl rfl (by kernel_rfl) (fun w hS => ?_) ?_
      rotate_left
      · go_simp <;> with_reducible rfl
      dsimp only [List.set_cons_zero, List.set_cons_succ]
      refine wpSeq_take (d := 42) (v := ?_) rfl rfl (by kernel_rfl) (fun w hS => ?_) ?_
      rotate_left
      · go_simp <;> with_reducible rfl
      dsimp only [List.set_cons_zero, List.set_cons_succ]
      refine wpSeq_take (d := 43) (v := ?_) rfl rfl (by kernel_rfl) (fun w hS => ?_) ?_
      rotate_left
      · go_simp <;> with_reducible rfl
      dsimp only [List.set_cons_zero, List.set_cons_succ]
      refine wpSeq_take (d := 44) (v := ?_) rfl rfl (by kernel_rfl) (fun w hS => ?_) ?_
      rotate_left
      · go_simp <;> with_reducible rfl
      dsimp only [List.set_cons_zero, List.set_cons_succ]
      refine wpSeq_take (d := 45) (v := ?_) rfl rfl (by kernel_rfl) (fun w hS => ?_) ?_
      rotate_left
      · go_simp <;> with_reducible rfl
      dsimp only [List.set_cons_zero, List.set_cons_succ]
      refine wpSeq_take (d := 46) (v := ?_) rfl rfl (by kernel_rfl) (fun w hS => ?_) ?_
      rotate_left
      · go_simp <;> with_reducible rfl
      dsimp only [List.set_cons_zero, List.set_cons_succ]
      refine wpSeq_take (d := 47) (v := ?_) rfl rfl (by kernel_rfl) (fun w hS => ?_) ?_
      rotate_left
      · go_simp <;> with_reducible rfl
      dsimp only [List.set_cons_zero, List.set_cons_succ]
      refine wpSeq_call rfl (by kernel_rfl) (fun K hK => ?_)
      go_simp
      (with_reducible refine (cA1 _ (hH.2.2.2.2.2.2.2.2)).mono ?_)
      rintro e w' ⟨rfl, hq⟩
      refine hK.out _ _ ?_ (fun hH => ?_)
      · exact ⟨hq.keep (hH.1), hq.keep (hH.2.1), hq.keep (hH.2.2.1), hq.keep (hH.2.2.2.1), hq.keep (hH.2.2.2.2.1), hq.keep (hH.2.2.2.2.2.1), hq.keep (hH.2.2.2.2.2.2.1), hq.keep (hH.2.2.2.2.2.2.2.1), (hH.2.2.2.2.2.2.2.2).trans hq⟩
      clear hK
      refine wpSeq_call rfl (by kernel_rfl) (fun K hK => ?_)
      go_simp
      (with_reducible refine (cA2 _ (hH.2.2.2.2.2.2.2.2)).mono ?_)
      rintro e w' ⟨rfl, hq⟩
      refine hK.out _ _ ?_ (fun hH => ?_)
      · exact ⟨hq.keep (hH.1), hq.keep (hH.2.1), hq.keep (hH.2.2.1), hq.keep (hH.2.2.2.1), hq.keep (hH.2.2.2.2.1), hq.keep (hH.2.2.2.2.2.1), hq.keep (hH.2.2.2.2.2.2.1), hq.keep (hH.2.2.2.2.2.2.2.1), (hH.2.2.2.2.2.2.2.2).trans hq⟩
      clear hK
      refine wpSeq_call rfl (by kernel_rfl) (fun K hK => ?_)
      go_simp
      (with_reducible refine (cA3 _ (hH.2.2.2.2.2.2.2.2)).mono ?_)
      rintro e w' ⟨rfl, hq⟩
      refine hK.out _ _ ?_ (fun hH => ?_)
      · exact ⟨hq.keep (hH.1), hq.keep (hH.2.1), hq.keep (hH.2.2.1), hq.keep (hH.2.2.2.1), hq.keep (hH.2.2.2.2.1), hq.keep (hH.2.2.2.2.2.1), hq.keep (hH.2.2.2.2.2.2.1), hq.keep (hH.2.2.2.2.2.2.2.1), (hH.2.2.2.2.2.2.2.2).trans hq⟩
      clear hK
      refine wpSeq_call rfl (by kernel_rfl) (fun K hK => ?_)
      go_simp
      refine hK.out _ _ ?_ (fun hH => ?_)
      · exact ⟨((B.refl _).alloc _ _).keep (hH.1), ((B.refl _).alloc _ _).keep (hH.2.1), ((B.refl _).alloc _ _).keep (hH.2.2.1), ((B.refl _).alloc _ _).keep (hH.2.2.2.1), ((B.refl _).alloc _ _).keep (hH.2.2.2.2.1), ((B.refl _).alloc _ _).keep (hH.2.2.2.2.2.1), ((B.refl _).alloc _ _).keep (hH.2.2.2.2.2.2.1), ((B.refl _).alloc _ _).keep (hH.2.2.2.2.2.2.2.1), (hH.2.2.2.2.2.2.2.2).alloc _ _⟩
      clear hK
      refine wpSeq_take (d := 11) (v := ?_) rfl rfl (by kernel_rfl) (fun w hS => ?_) ?_
      rotate_left
      · go_simp <;> with_reducible rfl
      dsimp only [List.set_cons_zero, List.set_cons_succ]
      refine wpSeq_done ?_
      refine NoPanic.normal ?_
      have oN := obj_new w' (.cells #[.string n1, .int .i64 r1, .int .i64 c1, .string n2, .int .i64 r2, .int .i64 c2, .string n3, .int .i64 r3, .int .i64 c3] 36)
      have hB7 : B WQ (w'.alloc (.cells #[.string n1, .int .i64 r1, .int .i64 c1, .string n2, .int .i64 r2, .int .i64 c2, .string n3, .int .i64 r3, .int .i64 c3] 36)) := hH.2.2.2.2.2.2.2.2
      have oP7 := hB7.obj oP
      have oD7 := hB7.obj oDp
      have hO7 := hOp.keep hB7
      clear hH hq cA1 cA2 cA3 m0 m1 m2 m3 m4 m5 m6 m7 hOp oDp oP g0 g1 g2 g3 g4 hO
      obtain ⟨g7, hg7⟩ : ∃ g7, w'.heap.size = g7 := ⟨_, rfl⟩
      rw [hg7] at oN
      obtain ⟨W7, hW7⟩ : ∃ W7, w'.alloc (.cells #[.string n1, .int .i64 r1, .int .i64 c1, .string n2, .int .i64 r2, .int .i64 c2, .string n3, .int .i64 r3, .int .i64 c3] 36) = W7 := ⟨_, rfl⟩
      rw [hW7] at oN hB7 oP7 oD7 hO7
      have hg7s : g7 < W7.heap.size := obj_lt oN
      have k0 : W7.cell? ⟨P, 0, none⟩ = some (.int .u8 (pk : Int)) := obj_cell oP7 0
      have k1 : W7.cell? ⟨P, 1, none⟩ = some (.int .u8 (pa : Int)) := obj_cell oP7 1
      have k2 : W7.cell? ⟨P, 2, none⟩ = some (.int .u8 (pb : Int)) := obj_cell oP7 2
      have k4 : W7.cell? ⟨P, 4, none⟩ = some (.int .u32 (pv : Int)) := obj_cell oP7 4
      have kD : W7.cell? ⟨H, 1, none⟩ = some (.slice bo d.ts.length bc) := obj_cell oD7 1
      have v1 : (pv : Int).tmod 7 = ((pv % 7 : Nat) : Int) := tmod_nat pv 7
      have v2 : (pv : Int).tmod 9000 = ((pv % 9000 : Nat) : Int) := tmod_nat pv 9000
      have v3 : (pv : Int).tmod 90000 = ((pv % 90000 : Nat) : Int) := tmod_nat pv 90000
      have hV : ∃ V, pieceV ⟨pk, pa, pb, pc, pv⟩ = V := ⟨_, rfl⟩
      obtain ⟨V, hV⟩ := hV
      have x1 : (pk : Int).tmod 10 = ((pk % 10 : Nat) : Int) := tmod_nat pk 10
      have x2 : (pa : Int).tmod 2 = ((pa % 2 : Nat) : Int) := tmod_nat pa 2
      have x3 : (pb : Int).tmod 3 = ((pb % 3 : Nat) : Int) := tmod_nat pb 3
      have hVd : pieceV ⟨pk, pa, pb, pc, pv⟩ = if pv % 7 = 0 then ((pv % 90000 + 1 : Nat) : Int) else ((pv % 9000 + 1 : Nat) : Int) := rfl
      rw [hV] at hVd
      have hpS : pieceS d ⟨pk, pa, pb, pc, pv⟩ = if pk % 10 = 0 then ⟨0, if pa % 2 = 1 ∧ 2 ≤ d.ts.length then nameT2 else nameT1, [], 0, 0⟩
        else if pk % 10 = 1 then ⟨1, ⟨#[]⟩, [], 0, ((pa % 2 : Nat) : Int)⟩
        else if pk % 10 = 2 then ⟨3, ⟨#[]⟩, pieceW d.ws ⟨pk, pa, pb, pc, pv⟩, pieceV ⟨pk, pa, pb, pc, pv⟩, 0⟩
        else if pk % 10 = 3 then ⟨4, ⟨#[]⟩, pieceW d.ws ⟨pk, pa, pb, pc, pv⟩, pieceV ⟨pk, pa, pb, pc, pv⟩, 0⟩
        else if pk % 10 = 4 then ⟨5, ⟨#[]⟩, (pieceW d.ws ⟨pk, pa, pb, pc, pv⟩).take 1, pieceV ⟨pk, pa, pb, pc, pv⟩, ((pb % 3 + 1 : Nat) : Int)⟩
        else if pk % 10 = 5 then ⟨6, ⟨#[]⟩, pieceW d.ws ⟨pk, pa, pb, pc, pv⟩, pieceV ⟨pk, pa, pb, pc, pv⟩, 0⟩
        else ⟨2, ⟨#[]⟩, (pieceW d.ws ⟨pk, pa, pb, pc, pv⟩).take 2, pieceV ⟨pk, pa, pb, pc, pv⟩, 0⟩ := rfl
      rw [hV, HK.out.1] at hpS
      clear hV
      have y1 : pk % 10 < 10 := by omega
      have y2 : pa % 2 < 2 := by omega
      have y3 : pb % 3 < 3 := by omega
      have y4 : pv % 7 < 7 := by omega
      have y5 : pv % 9000 < 9000 := by omega
      have y6 : pv % 90000 < 90000 := by omega
      generalize pk % 10 = K10 at *
      generalize pa % 2 = A2 at *
      generalize pb % 3 = B3 at *
      generalize pv % 7 = V7 at *
      generalize pv % 9000 = V9 at *
      generalize pv % 90000 = V90 at *
      have z1 := wrap_u8 (x := K10) (by omega)
      have z2 := wrap_u8 (x := A2) (by omega)
      have z2' := wrap_nat (x := A2) (by omega)
      have z3 := wrap_u8 (x := B3) (by omega)
      have z3' := wrap_nat (x := B3) (by omega)
      have z3p : IntKind.i64.wrap ((B3 : Int) + 1) = (B3 : Int) + 1 := by rw [IntKind.wrap_i64]; omega
      have z4 := wrap_u32 (x := V7) (by omega)
      have z5 := wrap_u32 (x := V9) (by omega)
      have z5' := wrap_nat (x := V9) (by omega)
      have z5p : IntKind.i64.wrap ((V9 : Int) + 1) = (V9 : Int) + 1 := by rw [IntKind.wrap_i64]; omega
      have z6 := wrap_u32 (x := V90) (by omega)
      have z6' := wrap_nat (x := V90) (by omega)
      have z6p : IntKind.i64.wrap ((V90 : Int) + 1) = (V90 : Int) + 1 := by rw [IntKind.wrap_i64]; omega
      replace hpS := Lib.hid hpS
      have hX : Hid (P < W7.heap.size) := Lib.hid (obj_lt oP7)
      have hNE : ¬ P = W7.heap.size := by have := obj_lt oP7; omega
      have hNE2 : ¬ W7.heap.size = P := by omega
      have hNH : ¬ H = W7.heap.size := by have := obj_lt oD7; omega
      have hNH2 : ¬ W7.heap.size = H := by omega
      replace hVd := Lib.hid hVd
      have hVV : (((V7 : Int) == 0) = true ∧ IntKind.i64.wrap ((V90 : Int) + 1) = V) ∨ (((V7 : Int) == 0) = false ∧ IntKind.i64.wrap ((V9 : Int) + 1) = V) := by
        have h := hVd.out
        by_cases h7 : V7 = 0
        · rw [if_pos h7] at h
          exact .inl ⟨by rw [h7]; rfl, by rw [z6p, h]; omega⟩
        · rw [if_neg h7] at h
          exact .inr ⟨by simp; omega, by rw [z5p, h]; omega⟩
      have hVl : 1 ≤ V ∧ V ≤ 90000 := by
        have h := hVd.out
        by_cases h7 : V7 = 0
        · rw [if_pos h7] at h; omega
        · rw [if_neg h7] at h; omega
      clear hVd z5p z6p
      have hgg : ¬ g = g7 := fun e => by
        rcases hO7.own.2 with ⟨h0, _⟩ | ⟨g', cp, cur, hv, _, ho, _⟩
        · cases h0
        · simp only [Value.slice.injEq, Option.some.injEq, Addr.mk.injEq] at hv
          obtain ⟨⟨rfl, _⟩, _⟩ := hv
          rw [e, oN] at ho
          simp at ho
      have HG := Lib.hid (And.intro hgg hg7s)
      have bX := (B.refl W7).alloc #[.int .i64 2, .string ⟨#[]⟩, .slice (some ⟨g7, 0, none⟩) 2 3, .int .i64 V, .int .i64 0] 27
      have oX := obj_new W7 (.cells #[.int .i64 2, .string ⟨#[]⟩, .slice (some ⟨g7, 0, none⟩) 2 3, .int .i64 V, .int .i64 0] 27)
      obtain ⟨X, hXs⟩ : ∃ X, W7.heap.size = X := ⟨_, rfl⟩
      obtain ⟨W8, hW8⟩ : ∃ W8, W7.alloc (.cells #[.int .i64 2, .string ⟨#[]⟩, .slice (some ⟨g7, 0, none⟩) 2 3, .int .i64 V, .int .i64 0] 27) = W8 := ⟨_, rfl⟩
      rw [hW8] at bX oX
      rw [hXs] at oX
      have HX8 := Lib.hid (And.intro hW8 hXs)
      have hXB : Hid (W7.heap.size ≤ X) := Lib.hid (by rw [hXs]; exact Nat.le_refl _)
      have hNN : Hid ((¬ P = X ∧ ¬ X = P) ∧ (¬ H = X ∧ ¬ X = H) ∧ g7 < X) := Lib.hid (by rw [← hXs]; exact ⟨⟨hNE, hNE2⟩, ⟨hNH, hNH2⟩, hg7s⟩)
      have n0 : W8.cell? ⟨P, 0, none⟩ = some (.int .u8 (pk : Int)) := bX.keep k0
      have n1' : W8.cell? ⟨P, 1, none⟩ = some (.int .u8 (pa : Int)) := bX.keep k1
      have n2' : W8.cell? ⟨P, 2, none⟩ = some (.int .u8 (pb : Int)) := bX.keep k2
      have nD : W8.cell? ⟨H, 1, none⟩ = some (.slice bo d.ts.length bc) := bX.keep kD
      clear hXs hW8
      try rw [hW7]
      try rw [hg7]
      clear hW7 hg7
      go_upto_if 79 with fail
      go_cut [12] (fun c wx => c = .int .i64 V ∧ wx = W7)
      case first =>
        rcases hVV with ⟨hv1, hv2⟩ | ⟨hv1, hv2⟩
        · go_wp2_with fail
          go_meet
          case rel => exact ⟨rfl, rfl⟩
        · go_wp2_with fail
          go_meet
          case rel =>
            have e : (V9 : Int) + 1 = V := by rw [← hv2, IntKind.wrap_i64]; omega
            exact ⟨by rw [e], rfl⟩
      case rest =>
        obtain ⟨hc12, hcw⟩ := hcut
        rw [hcw]
        subst hc12
        clear hcw
        go_upto_region 15 with fail
        rw [HX8.out.1, HX8.out.2]
        clear k0 k1 k2 k4 kD hNE hNE2 hNH hNH2 hg7s
        obtain ⟨⟨hNE, hNE2⟩, ⟨hNH, hNH2⟩, hg7X⟩ := hNN.out
        go_upto_block 2 with fail
        go_cut [13] (fun c wx => c = .pointer (some ⟨X, 0, none⟩) ∧ ∃ (s : Sp) (u : Value), wx.heap[X]? = some (.cells (s.cells u).toArray 27 (0, 0)) ∧ s = pieceS d ⟨pk, pa, pb, pc, pv⟩ ∧ IsWps W7 u s.w ∧ (∀ b, u.ownBlock = some b → b = g7) ∧ (∃ uo un uc, u = .slice uo un uc) ∧ B W7 wx)
        case first =>
          have x0 : W8.cell? ⟨X, 0, none⟩ = some (.int .i64 2) := obj_cell oX 0
          have x1' : W8.cell? ⟨X, 1, none⟩ = some (.string ⟨#[]⟩) := obj_cell oX 1
          have x2' : W8.cell? ⟨X, 2, none⟩ = some (.slice (some ⟨g7, 0, none⟩) 2 3) := obj_cell oX 2
          have x3' : W8.cell? ⟨X, 3, none⟩ = some (.int .i64 V) := obj_cell oX 3
          have x4' : W8.cell? ⟨X, 4, none⟩ = some (.int .i64 0) := obj_cell oX 4
          have f0 := obj_free oX 0
          have f1 := obj_free oX 1
          have f2 := obj_free oX 2
          have f3 := obj_free oX 3
          have f4 := obj_free oX 4
          have hw3 := wps_three (p1 := ⟨n1, r1, c1⟩) (p2 := ⟨n2, r2, c2⟩) (p3 := ⟨n3, r3, c3⟩) oN (n := 3) (by omega) (by omega)
          have hw2 := wps_three (p1 := ⟨n1, r1, c1⟩) (p2 := ⟨n2, r2, c2⟩) (p3 := ⟨n3, r3, c3⟩) oN (n := 2) (by omega) (by omega)
          have hw1 := wps_three (p1 := ⟨n1, r1, c1⟩) (p2 := ⟨n2, r2, c2⟩) (p3 := ⟨n3, r3, c3⟩) oN (n := 1) (by omega) (by omega)
          have ltX := obj_lt oX
          have ltP := obj_lt (bX.obj oP7)
          have ltD := obj_lt (bX.obj oD7)
          have w1 : ¬ X = W8.heap.size := by omega
          have w2 : ¬ W8.heap.size = X := by omega
          have w3 : ¬ P = W8.heap.size := by omega
          have w4 : ¬ W8.heap.size = P := by omega
          have w5 : ¬ H = W8.heap.size := by omega
          have w6 : ¬ W8.heap.size = H := by omega
          clear ltX ltP ltD
          have HH := Lib.hid (And.intro oX (And.intro bX (And.intro hw3 (And.intro hw2 hw1))))
          clear oX bX hw3 hw2 hw1 oN oP7 oD7 hO7 hB7
          have hj : K10 = 0 ∨ K10 = 1 ∨ K10 = 2 ∨ K10 = 3 ∨ K10 = 4 ∨ K10 = 5 ∨ 6 ≤ K10 := by omega
          rcases hj with rfl | rfl | rfl | rfl | rfl | rfl | hj
          · have hA2 : A2 = 0 ∨ A2 = 1 := by omega
            rcases hA2 with rfl | rfl
            · have b9 := (B.refl W8).alloc #[.string ⟨#[116, 49]⟩, .string ⟨#[116, 50]⟩] 9
              have oS := b9.obj HH.out.1
              have oL := obj_new W8 (.cells #[.string ⟨#[116, 49]⟩, .string ⟨#[116, 50]⟩] 9)
              obtain ⟨W9, hW9⟩ : ∃ W9, W8.alloc (.cells #[.string ⟨#[116, 49]⟩, .string ⟨#[116, 50]⟩] 9) = W9 := ⟨_, rfl⟩
              rw [hW9] at b9 oS oL
              have n1s : W9.cell? ⟨P, 1, none⟩ = some (.int .u8 (pa : Int)) := b9.keep n1'
              have nDs : W9.cell? ⟨H, 1, none⟩ = some (.slice bo d.ts.length bc) := b9.keep nD
              have l0 : W9.cell? ⟨W8.heap.size, 0, none⟩ = some (.string ⟨#[116, 49]⟩) := obj_cell oL 0
              have l1 : W9.cell? ⟨W8.heap.size, 1, none⟩ = some (.string ⟨#[116, 50]⟩) := obj_cell oL 1
              have s0 : W9.cell? ⟨X, 0, none⟩ = some (.int .i64 2) := obj_cell oS 0
              have s1 : W9.cell? ⟨X, 1, none⟩ = some (.string ⟨#[]⟩) := obj_cell oS 1
              have s2 : W9.cell? ⟨X, 2, none⟩ = some (.slice (some ⟨g7, 0, none⟩) 2 3) := obj_cell oS 2
              have s3 : W9.cell? ⟨X, 3, none⟩ = some (.int .i64 V) := obj_cell oS 3
              have s4 : W9.cell? ⟨X, 4, none⟩ = some (.int .i64 0) := obj_cell oS 4
              have t0 := obj_free oS 0
              have t1 := obj_free oS 1
              have t2 := obj_free oS 2
              have t3 := obj_free oS 3
              have t4 := obj_free oS 4
              have oU := obj_five oS (.int .i64 0) (.string ⟨#[116, 49]⟩) (.slice none 0 0) (.int .i64 0) (.int .i64 0)
              have bU := b_five (HH.out.2.1.trans b9) hXB.out (.int .i64 0) (.string ⟨#[116, 49]⟩) (.slice none 0 0) (.int .i64 0) (.int .i64 0)
              have n1u := cell_five n1s hNE2 (.int .i64 0) (.string ⟨#[116, 49]⟩) (.slice none 0 0) (.int .i64 0) (.int .i64 0)
              have nDu := cell_five nDs hNH2 (.int .i64 0) (.string ⟨#[116, 49]⟩) (.slice none 0 0) (.int .i64 0) (.int .i64 0)
              obtain ⟨U1, hU1⟩ : ∃ U1, (((((W9.setCell ⟨X, 0, none⟩ (.int .i64 0)).setCell ⟨X, 1, none⟩ (.string ⟨#[116, 49]⟩)).setCell ⟨X, 2, none⟩ (.slice none 0 0)).setCell ⟨X, 3, none⟩ (.int .i64 0)).setCell ⟨X, 4, none⟩ (.int .i64 0)) = U1 := ⟨_, rfl⟩
              rw [hU1] at oU bU n1u nDu
              have xu1 : U1.cell? ⟨X, 1, none⟩ = some (.string ⟨#[116, 49]⟩) := obj_cell oU 1
              have fu1 := obj_free oU 1
              have HU := Lib.hid (And.intro oU bU)
              clear oU bU oS oL b9 x0 x1' x2' x3' x4' f0 f1 f2 f3 f4
              go_wp2_with fail
              go_meet
              case rel =>
                skip
                exact ⟨rfl, ⟨0, ⟨#[116, 49]⟩, [], 0, 0⟩, .slice none 0 0, HU.out.1, by rw [hpS.out]; rfl, .inl ⟨rfl, rfl⟩, fun b hb => (by cases hb), ⟨_, _, _, rfl⟩, HU.out.2⟩
            · have b9 := (B.refl W8).alloc #[.string ⟨#[116, 49]⟩, .string ⟨#[116, 50]⟩] 9
              have oS := b9.obj HH.out.1
              have oL := obj_new W8 (.cells #[.string ⟨#[116, 49]⟩, .string ⟨#[116, 50]⟩] 9)
              obtain ⟨W9, hW9⟩ : ∃ W9, W8.alloc (.cells #[.string ⟨#[116, 49]⟩, .string ⟨#[116, 50]⟩] 9) = W9 := ⟨_, rfl⟩
              rw [hW9] at b9 oS oL
              have n1s : W9.cell? ⟨P, 1, none⟩ = some (.int .u8 (pa : Int)) := b9.keep n1'
              have nDs : W9.cell? ⟨H, 1, none⟩ = some (.slice bo d.ts.length bc) := b9.keep nD
              have l0 : W9.cell? ⟨W8.heap.size, 0, none⟩ = some (.string ⟨#[116, 49]⟩) := obj_cell oL 0
              have l1 : W9.cell? ⟨W8.heap.size, 1, none⟩ = some (.string ⟨#[116, 50]⟩) := obj_cell oL 1
              have s0 : W9.cell? ⟨X, 0, none⟩ = some (.int .i64 2) := obj_cell oS 0
              have s1 : W9.cell? ⟨X, 1, none⟩ = some (.string ⟨#[]⟩) := obj_cell oS 1
              have s2 : W9.cell? ⟨X, 2, none⟩ = some (.slice (some ⟨g7, 0, none⟩) 2 3) := obj_cell oS 2
              have s3 : W9.cell? ⟨X, 3, none⟩ = some (.int .i64 V) := obj_cell oS 3
              have s4 : W9.cell? ⟨X, 4, none⟩ = some (.int .i64 0) := obj_cell oS 4
              have t0 := obj_free oS 0
              have t1 := obj_free oS 1
              have t2 := obj_free oS 2
              have t3 := obj_free oS 3
              have t4 := obj_free oS 4
              have oU := obj_five oS (.int .i64 0) (.string ⟨#[116, 50]⟩) (.slice none 0 0) (.int .i64 0) (.int .i64 0)
              have bU := b_five (HH.out.2.1.trans b9) hXB.out (.int .i64 0) (.string ⟨#[116, 50]⟩) (.slice none 0 0) (.int .i64 0) (.int .i64 0)
              have n1u := cell_five n1s hNE2 (.int .i64 0) (.string ⟨#[116, 50]⟩) (.slice none 0 0) (.int .i64 0) (.int .i64 0)
              have nDu := cell_five nDs hNH2 (.int .i64 0) (.string ⟨#[116, 50]⟩) (.slice none 0 0) (.int .i64 0) (.int .i64 0)
              obtain ⟨U1, hU1⟩ : ∃ U1, (((((W9.setCell ⟨X, 0, none⟩ (.int .i64 0)).setCell ⟨X, 1, none⟩ (.string ⟨#[116, 50]⟩)).setCell ⟨X, 2, none⟩ (.slice none 0 0)).setCell ⟨X, 3, none⟩ (.int .i64 0)).setCell ⟨X, 4, none⟩ (.int .i64 0)) = U1 := ⟨_, rfl⟩
              rw [hU1] at oU bU n1u nDu
              have xu1 : U1.cell? ⟨X, 1, none⟩ = some (.string ⟨#[116, 50]⟩) := obj_cell oU 1
              have fu1 := obj_free oU 1
              have HU := Lib.hid (And.intro oU bU)
              clear oU bU oS oL b9 x0 x1' x2' x3' x4' f0 f1 f2 f3 f4
              by_cases h2 : 2 ≤ d.ts.length
              · have q2 : decide ((d.ts.length : Int) < 2) = false := decide_eq_false (by omega)
                have q2' : decide (d.ts.length < 2) = false := decide_eq_false (by omega)
                have hn2 := Lib.hid h2
                clear h2
                go_wp2_with fail
                go_meet
                case rel =>
                  skip
                  exact ⟨rfl, ⟨0, ⟨#[116, 50]⟩, [], 0, 0⟩, .slice none 0 0, HU.out.1, by rw [hpS.out]; simp only [hn2.out, if_true, true_and]; rfl, .inl ⟨rfl, rfl⟩, fun b hb => (by cases hb), ⟨_, _, _, rfl⟩, HU.out.2⟩
              · have q2 : decide ((d.ts.length : Int) < 2) = true := decide_eq_true (by omega)
                have q2' : decide (d.ts.length < 2) = true := decide_eq_true (by omega)
                have hn2 := Lib.hid h2
                clear h2
                go_wp2_with fail
                go_meet
                case rel =>
                  exact ⟨rfl, ⟨0, ⟨#[116, 49]⟩, [], 0, 0⟩, .slice none 0 0, obj_set HU.out.1 1 (.string ⟨#[116, 49]⟩), by rw [hpS.out]; simp only [hn2.out, if_true, if_false, and_false]; rfl, .inl ⟨rfl, rfl⟩, fun b hb => (by cases hb), ⟨_, _, _, rfl⟩, B.setCell (p := ⟨X, 1, none⟩) HU.out.2 hXB.out (.string ⟨#[116, 49]⟩)⟩
          · go_wp2_with fail
            go_meet
            case rel =>
              exact ⟨rfl, ⟨1, ⟨#[]⟩, [], 0, (A2 : Int)⟩, .slice none 0 0, obj_five HH.out.1 (.int .i64 1) (.string ⟨#[]⟩) (.slice none 0 0) (.int .i64 0) (.int .i64 (A2 : Int)), by rw [hpS.out]; rfl, .inl ⟨rfl, rfl⟩, fun b hb => (by cases hb), ⟨_, _, _, rfl⟩, b_five HH.out.2.1 hXB.out (.int .i64 1) (.string ⟨#[]⟩) (.slice none 0 0) (.int .i64 0) (.int .i64 (A2 : Int))⟩
          · go_wp2_with fail
            go_meet
            case rel =>
              exact ⟨rfl, ⟨3, ⟨#[]⟩, [⟨n1, r1, c1⟩, ⟨n2, r2, c2⟩, ⟨n3, r3, c3⟩], V, 0⟩, .slice (some ⟨g7, 0, none⟩) 3 3, obj_five HH.out.1 (.int .i64 3) (.string ⟨#[]⟩) (.slice (some ⟨g7, 0, none⟩) 3 3) (.int .i64 V) (.int .i64 0), by rw [hpS.out]; rfl, HH.out.2.2.1, fun b hb => (Option.some.inj hb).symm, ⟨_, _, _, rfl⟩, b_five HH.out.2.1 hXB.out (.int .i64 3) (.string ⟨#[]⟩) (.slice (some ⟨g7, 0, none⟩) 3 3) (.int .i64 V) (.int .i64 0)⟩
          · go_wp2_with fail
            go_meet
            case rel =>
              exact ⟨rfl, ⟨4, ⟨#[]⟩, [⟨n1, r1, c1⟩, ⟨n2, r2, c2⟩, ⟨n3, r3, c3⟩], V, 0⟩, .slice (some ⟨g7, 0, none⟩) 3 3, obj_five HH.out.1 (.int .i64 4) (.string ⟨#[]⟩) (.slice (some ⟨g7, 0, none⟩) 3 3) (.int .i64 V) (.int .i64 0), by rw [hpS.out]; rfl, HH.out.2.2.1, fun b hb => (Option.some.inj hb).symm, ⟨_, _, _, rfl⟩, b_five HH.out.2.1 hXB.out (.int .i64 4) (.string ⟨#[]⟩) (.slice (some ⟨g7, 0, none⟩) 3 3) (.int .i64 V) (.int .i64 0)⟩
          · go_wp2_with fail
            have n2d : W8.drew.cell? ⟨P, 2, none⟩ = some (.int .u8 (pb : Int)) := n2'
            have x0d : W8.drew.cell? ⟨X, 0, none⟩ = some (.int .i64 2) := x0
            have x1d : W8.drew.cell? ⟨X, 1, none⟩ = some (.string ⟨#[]⟩) := x1'
            have x2d : W8.drew.cell? ⟨X, 2, none⟩ = some (.slice (some ⟨g7, 0, none⟩) 2 3) := x2'
            have x3d : W8.drew.cell? ⟨X, 3, none⟩ = some (.int .i64 V) := x3'
            have x4d : W8.drew.cell? ⟨X, 4, none⟩ = some (.int .i64 0) := x4'
            have f0d : W8.drew.frozen? ⟨X, 0, none⟩ = false := f0
            have f1d : W8.drew.frozen? ⟨X, 1, none⟩ = false := f1
            have f2d : W8.drew.frozen? ⟨X, 2, none⟩ = false := f2
            have f3d : W8.drew.frozen? ⟨X, 3, none⟩ = false := f3
            have f4d : W8.drew.frozen? ⟨X, 4, none⟩ = false := f4
            have z3q : IntKind.i64.wrap ((B3 : Int) + 1) = ((B3 + 1 : Nat) : Int) := by rw [z3p]; omega
            go_region
            all_goals
              go_wp2_with fail
              go_meet
            case' rel =>
              exact ⟨rfl, ⟨5, ⟨#[]⟩, ([⟨n1, r1, c1⟩, ⟨n2, r2, c2⟩, ⟨n3, r3, c3⟩]).take 1, V, ((B3 + 1 : Nat) : Int)⟩, .slice (some ⟨g7, 0, none⟩) 1 3, obj_five (w := W8.drew) HH.out.1 (.int .i64 5) (.string ⟨#[]⟩) (.slice (some ⟨g7, 0, none⟩) 1 3) (.int .i64 V) (.int .i64 ((B3 + 1 : Nat) : Int)), by rw [hpS.out]; rfl, HH.out.2.2.2.2, fun b hb => (Option.some.inj hb).symm, ⟨_, _, _, rfl⟩, b_five HH.out.2.1.drew hXB.out (.int .i64 5) (.string ⟨#[]⟩) (.slice (some ⟨g7, 0, none⟩) 1 3) (.int .i64 V) (.int .i64 ((B3 + 1 : Nat) : Int))⟩
          · go_wp2_with fail
            go_meet
            case rel =>
              exact ⟨rfl, ⟨6, ⟨#[]⟩, [⟨n1, r1, c1⟩, ⟨n2, r2, c2⟩, ⟨n3, r3, c3⟩], V, 0⟩, .slice (some ⟨g7, 0, none⟩) 3 3, obj_five HH.out.1 (.int .i64 6) (.string ⟨#[]⟩) (.slice (some ⟨g7, 0, none⟩) 3 3) (.int .i64 V) (.int .i64 0), by rw [hpS.out]; rfl, HH.out.2.2.1, fun b hb => (Option.some.inj hb).symm, ⟨_, _, _, rfl⟩, b_five HH.out.2.1 hXB.out (.int .i64 6) (.string ⟨#[]⟩) (.slice (some ⟨g7, 0, none⟩) 3 3) (.int .i64 V) (.int .i64 0)⟩
          · have e0 : ((K10 : Int) == 0) = false := by simp; omega
            have e1 : ((K10 : Int) == 1) = false := by simp; omega
            have e2 : ((K10 : Int) == 2) = false := by simp; omega
            have e3 : ((K10 : Int) == 3) = false := by simp; omega
            have e4 : ((K10 : Int) == 4) = false := by simp; omega
            have e5 : ((K10 : Int) == 5) = false := by simp; omega
            go_wp2_with fail
            go_meet
            case rel =>
              exact ⟨rfl, ⟨2, ⟨#[]⟩, [⟨n1, r1, c1⟩, ⟨n2, r2, c2⟩, ⟨n3, r3, c3⟩].take 2, V, 0⟩, .slice (some ⟨g7, 0, none⟩) 2 3, HH.out.1, by rw [hpS.out, if_neg (by omega), if_neg (by omega), if_neg (by omega), if_neg (by omega), if_neg (by omega), if_neg (by omega)], HH.out.2.2.2.1, fun b hb => (Option.some.inj hb).symm, ⟨_, _, _, rfl⟩, HH.out.2.1⟩
        case rest =>
          have hgg := HG.out.1
          have hg7W := HG.out.2
          obtain ⟨rfl, ⟨sk, sn, sw, sv, sm⟩, u, oX2, hsE, hwu, hub, ⟨uo, un, uc, rfl⟩, hBc⟩ := hcut
          have hO9 := (hO7.keep hBc).keep ((B.refl wc).alloc #[.int .i64 sk, .string sn, .slice uo un uc, .int .i64 sv, .int .i64 sm] 27)
          have c0 : wc.cell? ⟨X, 0, none⟩ = some (.int .i64 sk) := obj_cell oX2 0
          have c1' : wc.cell? ⟨X, 1, none⟩ = some (.string sn) := obj_cell oX2 1
          have c2' : wc.cell? ⟨X, 2, none⟩ = some (.slice uo un uc) := obj_cell oX2 2
          have c3' : wc.cell? ⟨X, 3, none⟩ = some (.int .i64 sv) := obj_cell oX2 3
          have c4' : wc.cell? ⟨X, 4, none⟩ = some (.int .i64 sm) := obj_cell oX2 4
          have own2 := hO9.own
          have hlen := HK.out.2.2.1
          have hSSl : SS.length ≤ 1001 := by rw [hlen]; simp; omega
          have hgB : ∀ b, (Value.slice uo un uc).ownBlock = some b → (Value.slice (some ⟨g, 0, none⟩) SS.length cap).ownBlock ≠ some b ∧ b < (wc.alloc (.cells #[.int .i64 sk, .string sn, .slice uo un uc, .int .i64 sv, .int .i64 sm] 27)).heap.size := fun b hb => by
            have hbe := hub b hb
            subst hbe
            exact ⟨fun e => hgg (Option.some.inj e), Nat.lt_of_lt_of_le (Nat.lt_of_lt_of_le hg7W hBc.below.size) ((B.refl wc).alloc _ _).below.size⟩
          have hwu2 : IsWps (wc.alloc (.cells #[.int .i64 sk, .string sn, .slice uo un uc, .int .i64 sv, .int .i64 sm] 27)) (.slice uo un uc) sw := (hwu.keepB hBc).keepB ((B.refl wc).alloc _ _)
          have hBz := (((hBp.trans hB7).trans hBc).alloc #[.int .i64 sk, .string sn, .slice uo un uc, .int .i64 sv, .int .i64 sm] 27)
          have hbz : base ≤ (wc.alloc (.cells #[.int .i64 sk, .string sn, .slice uo un uc, .int .i64 sv, .int .i64 sm] 27)).heap.size := by rw [← hbs.out]; exact hBz.below.size
          have HS := Lib.hid (And.intro hO9 (And.intro hwu2 (And.intro hgB (And.intro hBz hsE))))
          clear hO9 hwu2 hgB hsE hwu hub hO7 oN oP7 oD7 oX2 hB7 hBc hlen
          go_wp2_with (at_builtin; refine wpList_append_lies _ rfl _ _ 22 rfl base 27 i0 _ 5 64 Tryd.underlying22 hi0 hz0 hz1 hz2 rfl (by omega) (.slice (some ⟨g, 0, none⟩) SS.length cap) SS.length (flatSp SS vs) rfl own2 ⟨wc.heap.size, 0, none⟩ 1 1 [.int .i64 sk, .string sn, .slice uo un uc, .int .i64 sv, .int .i64 sm] rfl rfl (newest rfl) (fun u hu => (by simp at hu; rcases hu with rfl | rfl | rfl | rfl | rfl <;> rfl)) (by omega) (by unfold maxLen; omega) (by omega) hbz _ rfl ?_; intro gb cp W4 hown4 hgrow hat4 hlt4; have hO4 := Lib.hid (steps_more (s := ⟨sk, sn, sw, sv, sm⟩) HS.out.1 hown4 hgrow hat4 HS.out.2.1 HS.out.2.2.1); have B4 := Lib.hid (HS.out.2.2.2.1.grownBy hgrow (fun x hx => (by rw [hbs.out]; exact (own2.lt x hx).1))); clear hgrow hat4 hlt4 hown4; go_wp2_with fail)
          refine ⟨⟨i + 1, gb, cp, SS ++ [⟨sk, sn, sw, sv, sm⟩], vs ++ [.slice uo un uc], by have := HK.out.2.2.2; omega, by go_num, by rw [List.length_append]; rfl, ?_, hO4.out, B4.out⟩, ?_⟩
          · rw [HK.out.2.2.1, List.take_add_one, HK.out.2.1, HS.out.2.2.2.2]
            simp
          · have := HK.out.2.2.2
            simp [intOf]
            omega
    · have hlB : decide ((i : Int) < (ps.length : Int)) = false := decide_eq_false (by omega)
      have hlN : decide (i < ps.length) = false := decide_eq_false hl
      rw [List.take_of_length_le (by omega)] at hSS
      have hfin : IsSps wo (.slice (some ⟨g, 0, none⟩) SS.length cap) (seatSteps d ps) := by
        have h := hO.is
        rw [show seatSteps d ps = SS from hSS.symm]
        exact h
      have HZ := Lib.hid (And.intro hfin (q0.trans hB))
      clear hO hSS hB hl hfin
      go_wp2
      go_ret
      exact ⟨_, rfl, HZ.out.1, HZ.out.2⟩
end Go.Proofs.YtnmcgleanpdlmaaDoor

namespace Go.Proofs.YtnmcgleanpdlmaaDoor
open Go.RowKit
theorem conv_b (w : World) (e : TypeId) (s : ByteArray) : B w (Lib.bytesWorld w e s) :=
  ⟨Lib.below_freeze (((B.refl w).drew.alloc _ _).below) (p := ⟨w.heap.size, _, none⟩) (Nat.le_refl _) _⟩
theorem isB_conv (w : World) (e : TypeId) (T : List UInt8) (h : T.length ≤ 1000000) : IsB (Lib.bytesWorld w e (strB T)) (some ⟨w.heap.size, 0, none⟩) (grownCap w (strB T).size 0 e) w.heap.size 0 T := by
  have hz : (strB T).size = T.length := strB_size T
  refine ⟨fun i c hc => ?_, fun _ => rfl, ?_, grownCap_le_maxLen _ _ _ _ (by rw [hz]; unfold maxLen; omega)⟩
  · have hi : i < T.length := (List.getElem?_eq_some_iff.1 hc).1
    rw [Nat.zero_add, Lib.bytesWorld_cell w e (strB T) i (by rw [hz]; exact hi)]
    have : (strB T).data.toList.getD i 0 = c := by
      show T.getD i 0 = c
      rw [List.getD_eq_getElem?_getD, hc]
      rfl
    rw [this]
  · rw [← hz]
    exact grownCap_ge _ _ _ _
end Go.Proofs.YtnmcgleanpdlmaaDoor
