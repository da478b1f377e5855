/-
 Contracts and what they rest on.
-/
import Derived.Test.YtglniapfnhedoaaGreatDoorY12
namespace Go.Proofs.YtglniapfnhedoaaGreatDoor
open Go.RowKit
theorem recs_take {w : World} {a : Addr} {cap : Nat} {L : List Rec} (h : IsRecs w (.slice (some a) L.length cap) L) {i : Nat} (hi : i ≤ L.length) : IsRecs w (.slice (some a) i cap) (L.take i) := by
 rcases h with ⟨e, _⟩ | ⟨b, c, e, h2, h3, h4⟩
 ·simp at e
 ·obtain ⟨rfl, rfl⟩ : a = b ∧ cap = c := by simpa using e
  refine .inr ⟨a, cap, by rw [List.length_take, Nat.min_eq_left hi], by rw [List.length_take]; omega, h3, fun j r hj => ?_⟩
  rw [List.getElem?_take] at hj
  split at hj
  ·exact h4 j r hj
  ·cases hj
theorem apart_no {ok : Wr → Bool} {ws : List Wr} {i : Nat} {F : Wr} (hF : ws[i]? = some F) (h : (ok F && !namedW (ws.take i) F.n) = false) : apartW ok ws = false := by
 have hi : i < ws.length := by obtain ⟨h, _⟩ := List.getElem?_eq_some_iff.1 hF; exact h
 refine List.all_eq_false.2 ⟨i, List.mem_range.2 hi, ?_⟩
 rw [hF]
 simp only
 rw [h]
 decide
theorem apart_yes {ok : Wr → Bool} {ws : List Wr} (h : ∀ j F, ws[j]? = some F → (ok F && !namedW (ws.take j) F.n) = true) : apartW ok ws = true := by
 refine List.all_eq_true.2 fun j hj => ?_
 cases e : ws[j]? with
 | none => rfl
 | some F => exact h j F e
theorem tipB_ok (n : ByteArray) (x y z : Int) (l : List Sec) : tipB n x y z l = tipOk ⟨n, x, y, z, l⟩ := by
 unfold tipB tipOk
 simp only
 cases nameS n <;> cases rightS l <;> simp
def UpTo (ok : Wr → Bool) (ws : List Wr) (i : Nat) : Prop := ∀ j F, ws[j]? = some F → j < i → (ok F && !namedW (ws.take j) F.n) = true
theorem UpTo.next {ok : Wr → Bool} {ws : List Wr} {i : Nat} {F : Wr} (h : UpTo ok ws i) (hF : ws[i]? = some F) (hg : (ok F && !namedW (ws.take i) F.n) = true) : UpTo ok ws (i + 1) := fun j G hG hj => by
 by_cases c : j = i
 ·subst c
  rw [hF] at hG
  obtain rfl : F = G := by simpa using hG
  exact hg
 ·exact h j G hG (by omega)
theorem fls_take {w : World} {a : Addr} {cap : Nat} {L : List Fl} (h : IsFls w (.slice (some a) L.length cap) L) {i : Nat} (hi : i ≤ L.length) : IsFls w (.slice (some a) i cap) (L.take i) := by
 rcases h with ⟨e, _⟩ | ⟨b, c, e, h2, h3, h4⟩
 ·simp at e
 ·obtain ⟨rfl, rfl⟩ : a = b ∧ cap = c := by simpa using e
  refine .inr ⟨a, cap, by rw [List.length_take, Nat.min_eq_left hi], by rw [List.length_take]; omega, h3, fun j r hj => ?_⟩
  rw [List.getElem?_take] at hj
  split at hj
  ·exact h4 j r hj
  ·cases hj
theorem fl_no {ws : List Wr} {fs : List Fl} {i : Nat} {F : Fl} (hF : fs[i]? = some F) (h : (hasW ws F.n F.r F.c && inB F.v 0 20000000 && !filledW (fs.take i) F.n F.r F.c) = false) : fillsOk ws fs = false := by
 have hi : i < fs.length := by obtain ⟨h, _⟩ := List.getElem?_eq_some_iff.1 hF; exact h
 refine List.all_eq_false.2 ⟨i, List.mem_range.2 hi, ?_⟩
 rw [hF]
 simp only
 rw [h]
 decide
theorem fl_yes {ws : List Wr} {fs : List Fl} (h : ∀ j F, fs[j]? = some F → (hasW ws F.n F.r F.c && inB F.v 0 20000000 && !filledW (fs.take j) F.n F.r F.c) = true) : fillsOk ws fs = true := by
 refine List.all_eq_true.2 fun j hj => ?_
 cases e : fs[j]? with
 | none => rfl
 | some F => exact h j F e
def FlTo (ws : List Wr) (fs : List Fl) (i : Nat) : Prop := ∀ j F, fs[j]? = some F → j < i → (hasW ws F.n F.r F.c && inB F.v 0 20000000 && !filledW (fs.take j) F.n F.r F.c) = true
theorem FlTo.next {ws : List Wr} {fs : List Fl} {i : Nat} {F : Fl} (h : FlTo ws fs i) (hF : fs[i]? = some F) (hg : (hasW ws F.n F.r F.c && inB F.v 0 20000000 && !filledW (fs.take i) F.n F.r F.c) = true) : FlTo ws fs (i + 1) := fun j G hG hj => by
 by_cases c : j = i
 ·subst c
  rw [hF] at hG
  obtain rfl : F = G := by simpa using hG
  exact hg
 ·exact h j G hG (by omega)
theorem wares_in {ws : List Wr} (h : apartW wareOk ws = true) : ∀ x ∈ ws, wareB x := fun x hx => by
 obtain ⟨i, hi, rfl⟩ := List.getElem_of_mem hx
 have e := List.all_eq_true.1 h i (List.mem_range.2 hi)
 rw [List.getElem?_eq_getElem hi] at e
 simp only [wareOk, inB, Bool.and_eq_true, decide_eq_true_eq] at e
 unfold wareB
 omega
set_option maxHeartbeats 4000000 in
set_option maxRecDepth 100000 in
theorem r8deckright_any (wv tv fv : Value) (d : Dk) (w : World) (h : IsDk w wv tv fv d) : Calls Tryz.prog 9 #[.agg #[wv, tv, fv]] w fun e w' => e = .returned (.bool (rightD d)) ∧ B w w' := by
 obtain ⟨ao, ac, bo, bc, co, cc, rfl, rfl, rfl⟩ := h.forms
 have hQ := (Q.refl w).alloc #[.slice ao d.ws.length ac, .slice bo d.ts.length bc, .slice co d.fs.length cc] 26
 have hD := h.keepB hQ.b
 have k0 : (w.alloc (.cells #[.slice ao d.ws.length ac, .slice bo d.ts.length bc, .slice co d.fs.length cc] 26)).cell? ⟨w.heap.size, 0, none⟩ = some (.slice ao d.ws.length ac) := by rw [World.cell?_alloc_new]; rfl
 have k1 : (w.alloc (.cells #[.slice ao d.ws.length ac, .slice bo d.ts.length bc, .slice co d.fs.length cc] 26)).cell? ⟨w.heap.size, 1, none⟩ = some (.slice bo d.ts.length bc) := by rw [World.cell?_alloc_new]; rfl
 have k2 : (w.alloc (.cells #[.slice ao d.ws.length ac, .slice bo d.ts.length bc, .slice co d.fs.length cc] 26)).cell? ⟨w.heap.size, 2, none⟩ = some (.slice co d.fs.length cc) := by rw [World.cell?_alloc_new]; rfl
 replace hQ := Lib.hid hQ
 have hR : ∀ b, rightD d = b → rightD d = b := fun _ h => h
 obtain ⟨R, hRR⟩ : ∃ R, rightD d = R := ⟨_, rfl⟩
 rw [hRR]
 clear h hR
 go_enter Tryz.func9, Tryz.ntmps9
 by_cases n0 : 8 < d.ws.length
 ·have n0B : decide ((8 : Int) < (d.ws.length : Int)) = true := decide_eq_true (by omega)
  have HR : R = false := by rw [← hRR]; unfold rightD; rw [decide_eq_false (by omega : ¬ d.ws.length ≤ 8)]; simp
  subst HR
  clear hD hRR
  go_wp2
  go_ret
  exact ⟨rfl, hQ.out.b⟩
 have n0B : decide ((8 : Int) < (d.ws.length : Int)) = false := decide_eq_false (by omega)
 by_cases n1 : 4 < d.ts.length
 ·have n1B : decide ((4 : Int) < (d.ts.length : Int)) = true := decide_eq_true (by omega)
  have HR : R = false := by rw [← hRR]; unfold rightD; rw [decide_eq_false (by omega : ¬ d.ts.length ≤ 4)]; simp
  subst HR
  clear hD hRR
  go_wp2
  go_ret
  exact ⟨rfl, hQ.out.b⟩
 have n1B : decide ((4 : Int) < (d.ts.length : Int)) = false := decide_eq_false (by omega)
 have hRW : apartW wareOk d.ws = false → R = false := fun e => by rw [← hRR]; unfold rightD; rw [e]; simp
 have hRT : apartW tipOk d.ts = false → R = false := fun e => by rw [← hRR]; unfold rightD; rw [e]; simp
 have hRF : apartW wareOk d.ws = true → apartW tipOk d.ts = true → R = fillsOk d.ws d.fs := fun e1 e2 => by rw [← hRR]; unfold rightD; rw [e1, e2, decide_eq_true (by omega), decide_eq_true (by omega)]; simp
 have n8 : d.ws.length ≤ 8 := by omega
 have n4 : d.ts.length ≤ 4 := by omega
 clear hRR n0 n1
 go_wp2
 generalize w.alloc (.cells #[.slice ao d.ws.length ac, .slice bo d.ts.length bc, .slice co d.fs.length cc] 26) = W at *
 generalize w.heap.size = H at *
 clear n0B n1B
 go_loopw [3] (fun iv wr => ∃ i : Nat, i ≤ d.ws.length ∧ iv = .int .i64 i ∧ UpTo wareOk d.ws i ∧ Q W wr) (fun iv _ => d.ws.length + 1 - (intOf iv).toNat)
 case atStart => exact ⟨0, Nat.zero_le _, rfl, fun j _ _ hj => by omega, Q.refl _⟩
 case round =>
  obtain ⟨i, hi, rfl, hall, hQi⟩ := hrel
  obtain ⟨wo, rfl⟩ : ∃ wo : World, wo = wr := ⟨_, rfl⟩
  replace k0 := hQi.keep k0
  replace k1 := hQi.keep k1
  replace k2 := hQi.keep k2
  replace hD := hD.keepB hQi.b
  by_cases hl : i < d.ws.length
  ·have hlB : decide ((i : Int) < (d.ws.length : Int)) = true := decide_eq_true (by omega)
   have hlI : (i : Int) < (d.ws.length : Int) := by omega
   have hi0 : (0 : Int) ≤ (i : Int) := by omega
   have wk1 : IntKind.i64.wrap ((i : Int) + 1) = (i : Int) + 1 := by rw [IntKind.wrap_i64]; omega
   obtain ⟨a, cap, e1, g8, g9, hr⟩ := hD.ws.at_ hl
   obtain ⟨rfl, _, rfl⟩ : ao = some a ∧ True ∧ ac = cap := by simpa using e1
   have htk := recs_take hD.ws (i := i) (by omega)
   have hle : i ≤ ac := by omega
   obtain ⟨F, hF⟩ : ∃ F, d.ws[i]? = some F := ⟨_, List.getElem?_eq_getElem hl⟩
   have hF2 : d.ws[i] = F := by rw [List.getElem?_eq_getElem hl] at hF; simpa using hF
   rw [hF2] at hr
   have hbad := fun e => hRW (apart_no hF e)
   have hgood := hall.next hF
   clear hF hF2 e1
   obtain ⟨N, X, Y, Z, SL⟩ := F
   obtain ⟨g1, g2, g3, g4, sv, g5, g6⟩ := hr
   simp only at g1 g2 g3 g4 g5 g6 hbad hgood
   have cn := fun w => r8name_any N w
   have cx := fun w => r8in_any X 1 8 w
   have cy := fun w => r8in_any Y 1 12 w
   have cz := fun w => r8in_any Z 0 1000000 w
   have cw := fun w2 (q : Q wo w2) => r8wnamed_any (.slice (some a) i ac) (.slice none 0 0) (.slice none 0 0) ⟨d.ws.take i, [], []⟩ N w2 ⟨htk.keepB q.b, .inl ⟨rfl, rfl⟩, .inl ⟨rfl, rfl⟩⟩
   have cl := fun w2 (q : Q wo w2) => r3right_any sv SL w2 (g6.keepB q.b)
   obtain ⟨so, sc, rfl⟩ := secs_form g6
   simp only [wareOk] at hbad hgood
   generalize nameS N = bn at *
   generalize inB X 1 8 = bx at *
   generalize inB Y 1 12 = by_ at *
   generalize inB Z 0 1000000 = bz at *
   generalize rightS SL = bl at *
   generalize namedW (d.ws.take i) N = bw at *
   have HF := Lib.hid hbad
   have HT := Lib.hid hgood
   have HL := Lib.hid hl
   obtain ⟨sn, hsn⟩ : ∃ sn, SL.length = sn := ⟨_, rfl⟩
   rw [hsn] at g5
   simp only [hsn] at cl
   have qa := (Q.refl wo).alloc #[.string N, .int .i64 X, .int .i64 Y, .int .i64 Z, .slice so sn sc] 33
   have HQ := Lib.hid (hQi)
   obtain ⟨W1, hW1⟩ : ∃ W1, wo.alloc (.cells #[.string N, .int .i64 X, .int .i64 Y, .int .i64 Z, .slice so sn sc] 33) = W1 := ⟨_, rfl⟩
   have p0 : W1.cell? ⟨wo.heap.size, 0, none⟩ = some (.string N) := by rw [← hW1, World.cell?_alloc_new]; rfl
   have p1 : W1.cell? ⟨wo.heap.size, 1, none⟩ = some (.int .i64 X) := by rw [← hW1, World.cell?_alloc_new]; rfl
   have p2 : W1.cell? ⟨wo.heap.size, 2, none⟩ = some (.int .i64 Y) := by rw [← hW1, World.cell?_alloc_new]; rfl
   have p3 : W1.cell? ⟨wo.heap.size, 3, none⟩ = some (.int .i64 Z) := by rw [← hW1, World.cell?_alloc_new]; rfl
   have p4 : W1.cell? ⟨wo.heap.size, 4, none⟩ = some (.slice so sn sc) := by rw [← hW1, World.cell?_alloc_new]; rfl
   clear hbad hgood hl hi hall htk hD hsn g6 n8 n4 hRT hRF
   go_wp2_with fail
   replace k0 := qa.keep k0
   rw [hW1] at qa k0
   try rw [hW1]
   have qd : Q wo W1.drew := qa.drew
   have qe : Q W1 W1.drew := (Q.refl W1).drew
   clear hW1 k1 k2 g1 g2 g3 g4 g5 qa
   generalize wo.heap.size = G at *
   cases bn
   ·refine wp_region_noPanic ?_
    refine wp_region_seq (S := fun w' => w'.cell? ⟨H, 0, none⟩ = some (.slice (some a) d.ws.length ac) ∧ w'.cell? ⟨G, 0, none⟩ = some (.string N) ∧ w'.cell? ⟨G, 1, none⟩ = some (.int .i64 X) ∧ w'.cell? ⟨G, 2, none⟩ = some (.int .i64 Y) ∧ w'.cell? ⟨G, 3, none⟩ = some (.int .i64 Z) ∧ w'.cell? ⟨G, 4, none⟩ = some (.slice so sn sc) ∧ Q wo w') [(0, 0), (1, 0), (2, 2), (3, 0), (4, 0), (5, 1), (6, 1), (7, 1), (8, 1), (9, 1), (10, 1), (11, 1), (12, 1), (13, 0), (14, 0), (15, 1), (16, 1), (17, 1), (18, 1), (19, 0), (20, 0), (21, 1), (22, 1), (23, 1), (24, 1), (25, 0), (26, 0), (27, 1), (28, 1), (29, 1), (30, 1), (31, 0), (32, 0), (33, 1), (34, 1), (35, 1), (36, 1), (37, 0)] [0, 1, 2, 4, 12, 16, 48, 16, 208, 272, 16, 1040, 2576, 4112, 12288, 16384, 49152, 81920, 147456, 278528, 655360, 1048576, 3145728, 5242880, 9437184, 17825792, 41943040, 67108864, 201326592, 335544320, 603979776, 1140850688, 2684354560, 4294967296, 12884901888, 21474836480, 38654705664, 73014444032] [0, 1, 2, 4, 8, 16, 48, 16, 208, 272, 16, 1040, 2576, 4112, 8192, 16384, 49152, 81920, 147456, 278528, 524288, 1048576, 3145728, 5242880, 9437184, 17825792, 33554432, 67108864, 201326592, 335544320, 603979776, 1140850688, 2147483648, 4294967296, 12884901888, 21474836480, 38654705664, 73014444032] (by kernel_rfl) (by kernel_rfl) (fun _ _ _ _ _ h => h) ?_ (fun hH => ?_)
    ·exact ⟨qe.keep k0, qe.keep p0, qe.keep p1, qe.keep p2, qe.keep p3, qe.keep p4, qd⟩
    refine wpSeq_take (d := 32) rfl rfl (by kernel_rfl) (fun w hS => by go_simp <;> with_reducible rfl) ?_
    dsimp only [sZ, sS]
    refine wpSeq_take (d := 33) rfl rfl (by kernel_rfl) (fun w hS => by go_simp <;> with_reducible rfl) ?_
    dsimp only [sZ, sS]
    refine wpSeq_call rfl (by kernel_rfl) (fun K hK => ?_)
    go_simp
    (with_reducible refine (cn _).mono ?_)
    rintro e w' ⟨rfl, rfl⟩
    refine hK.out _ _ hH fun hH => ?_
    clear hK
    refine wpSeq_take (d := 35) rfl rfl (by kernel_rfl) (fun w hS => by go_simp <;> with_reducible rfl) ?_
    dsimp only [sZ, sS]
    refine wpSeq_take (d := 36) rfl rfl (by kernel_rfl) (fun w hS => by go_simp <;> with_reducible rfl) ?_
    dsimp only [sZ, sS]
    refine wpSeq_pass (d := 37) rfl rfl (by kernel_rfl) ?_
    dsimp only [sZ, sS]
    refine wpSeq_pass (d := 38) rfl rfl (by kernel_rfl) ?_
    dsimp only [sZ, sS]
    refine wpSeq_pass (d := 39) rfl rfl (by kernel_rfl) ?_
    dsimp only [sZ, sS]
    refine wpSeq_pass (d := 40) rfl rfl (by kernel_rfl) ?_
    dsimp only [sZ, sS]
    refine wpSeq_pass (d := 41) rfl rfl (by kernel_rfl) ?_
    dsimp only [sZ, sS]
    refine wpSeq_pass (d := 42) rfl rfl (by kernel_rfl) ?_
    dsimp only [sZ, sS]
    refine wpSeq_pass (d := 43) rfl rfl (by kernel_rfl) ?_
    dsimp only [sZ, sS]
    refine wpSeq_pass (d := 44) rfl rfl (by kernel_rfl) ?_
    dsimp only [sZ, sS]
    refine wpSeq_take (d := 45) rfl rfl (by kernel_rfl) (fun w hS => by go_simp <;> with_reducible rfl) ?_
    dsimp only [sZ, sS]
    refine wpSeq_take (d := 46) rfl rfl (by kernel_rfl) (fun w hS => by go_simp <;> with_reducible rfl) ?_
    dsimp only [sZ, sS]
    refine wpSeq_pass (d := 47) rfl rfl (by kernel_rfl) ?_
    dsimp only [sZ, sS]
    refine wpSeq_pass (d := 48) rfl rfl (by kernel_rfl) ?_
    dsimp only [sZ, sS]
    refine wpSeq_pass (d := 49) rfl rfl (by kernel_rfl) ?_
    dsimp only [sZ, sS]
    refine wpSeq_pass (d := 50) rfl rfl (by kernel_rfl) ?_
    dsimp only [sZ, sS]
    refine wpSeq_take (d := 51) rfl rfl (by kernel_rfl) (fun w hS => by go_simp <;> with_reducible rfl) ?_
    dsimp only [sZ, sS]
    refine wpSeq_take (d := 52) rfl rfl (by kernel_rfl) (fun w hS => by go_simp <;> with_reducible rfl) ?_
    dsimp only [sZ, sS]
    refine wpSeq_pass (d := 53) rfl rfl (by kernel_rfl) ?_
    dsimp only [sZ, sS]
    refine wpSeq_pass (d := 54) rfl rfl (by kernel_rfl) ?_
    dsimp only [sZ, sS]
    refine wpSeq_pass (d := 55) rfl rfl (by kernel_rfl) ?_
    dsimp only [sZ, sS]
    refine wpSeq_pass (d := 56) rfl rfl (by kernel_rfl) ?_
    dsimp only [sZ, sS]
    refine wpSeq_take (d := 57) rfl rfl (by kernel_rfl) (fun w hS => by go_simp <;> with_reducible rfl) ?_
    dsimp only [sZ, sS]
    refine wpSeq_take (d := 58) rfl rfl (by kernel_rfl) (fun w hS => by go_simp <;> with_reducible rfl) ?_
    dsimp only [sZ, sS]
    refine wpSeq_pass (d := 59) rfl rfl (by kernel_rfl) ?_
    dsimp only [sZ, sS]
    refine wpSeq_pass (d := 60) rfl rfl (by kernel_rfl) ?_
    dsimp only [sZ, sS]
    refine wpSeq_pass (d := 61) rfl rfl (by kernel_rfl) ?_
    dsimp only [sZ, sS]
    refine wpSeq_pass (d := 62) rfl rfl (by kernel_rfl) ?_
    dsimp only [sZ, sS]
    refine wpSeq_take (d := 63) rfl rfl (by kernel_rfl) (fun w hS => by go_simp <;> with_reducible rfl) ?_
    dsimp only [sZ, sS]
    refine wpSeq_take (d := 64) rfl rfl (by kernel_rfl) (fun w hS => by go_simp <;> with_reducible rfl) ?_
    dsimp only [sZ, sS]
    refine wpSeq_pass (d := 65) rfl rfl (by kernel_rfl) ?_
    dsimp only [sZ, sS]
    refine wpSeq_pass (d := 66) rfl rfl (by kernel_rfl) ?_
    dsimp only [sZ, sS]
    refine wpSeq_pass (d := 67) rfl rfl (by kernel_rfl) ?_
    dsimp only [sZ, sS]
    refine wpSeq_pass (d := 68) rfl rfl (by kernel_rfl) ?_
    dsimp only [sZ, sS]
    refine wpSeq_take (d := 69) rfl rfl (by kernel_rfl) (fun w hS => by go_simp <;> with_reducible rfl) ?_
    dsimp only [sZ, sS]
    refine wpSeq_done ?_
    refine NoPanic.normal ?_
    have HZ := Lib.hid (HQ.out.trans hH.2.2.2.2.2.2)
    have HR := Lib.hid (HF.out (by simp))
    clear HF HT HQ
    go_wp2
    go_ret
    exact ⟨by rw [HR.out]; rfl, (hQ.out.trans HZ.out).b⟩
   ·cases bw
    ·cases bx
     ·refine wp_region_noPanic ?_
      refine wp_region_seq (S := fun w' => w'.cell? ⟨H, 0, none⟩ = some (.slice (some a) d.ws.length ac) ∧ w'.cell? ⟨G, 0, none⟩ = some (.string N) ∧ w'.cell? ⟨G, 1, none⟩ = some (.int .i64 X) ∧ w'.cell? ⟨G, 2, none⟩ = some (.int .i64 Y) ∧ w'.cell? ⟨G, 3, none⟩ = some (.int .i64 Z) ∧ w'.cell? ⟨G, 4, none⟩ = some (.slice so sn sc) ∧ Q wo w') [(0, 0), (1, 0), (2, 2), (3, 0), (4, 0), (5, 0), (6, 0), (7, 0), (8, 0), (9, 0), (10, 0), (11, 0), (12, 2), (13, 0), (14, 0), (15, 0), (16, 0), (17, 2), (18, 0), (19, 0), (20, 0), (21, 1), (22, 1), (23, 1), (24, 1), (25, 0), (26, 0), (27, 1), (28, 1), (29, 1), (30, 1), (31, 0), (32, 0), (33, 1), (34, 1), (35, 1), (36, 1), (37, 0)] [0, 1, 2, 4, 12, 16, 48, 16, 208, 272, 16, 1040, 2576, 4112, 12288, 16384, 49152, 81920, 147456, 278528, 655360, 1048576, 3145728, 5242880, 9437184, 17825792, 41943040, 67108864, 201326592, 335544320, 603979776, 1140850688, 2684354560, 4294967296, 12884901888, 21474836480, 38654705664, 73014444032] [0, 1, 2, 4, 8, 16, 48, 16, 208, 272, 16, 1040, 2576, 4112, 8192, 16384, 49152, 81920, 147456, 278528, 524288, 1048576, 3145728, 5242880, 9437184, 17825792, 33554432, 67108864, 201326592, 335544320, 603979776, 1140850688, 2147483648, 4294967296, 12884901888, 21474836480, 38654705664, 73014444032] (by kernel_rfl) (by kernel_rfl) (fun _ _ _ _ _ h => h) ?_ (fun hH => ?_)
      ·exact ⟨qe.keep k0, qe.keep p0, qe.keep p1, qe.keep p2, qe.keep p3, qe.keep p4, qd⟩
      refine wpSeq_take (d := 32) rfl rfl (by kernel_rfl) (fun w hS => by go_simp <;> with_reducible rfl) ?_
      dsimp only [sZ, sS]
      refine wpSeq_take (d := 33) rfl rfl (by kernel_rfl) (fun w hS => by go_simp <;> with_reducible rfl) ?_
      dsimp only [sZ, sS]
      refine wpSeq_call rfl (by kernel_rfl) (fun K hK => ?_)
      go_simp
      (with_reducible refine (cn _).mono ?_)
      rintro e w' ⟨rfl, rfl⟩
      refine hK.out _ _ hH fun hH => ?_
      clear hK
      refine wpSeq_take (d := 35) rfl rfl (by kernel_rfl) (fun w hS => by go_simp <;> with_reducible rfl) ?_
      dsimp only [sZ, sS]
      refine wpSeq_take (d := 36) rfl rfl (by kernel_rfl) (fun w hS => by go_simp <;> with_reducible rfl) ?_
      dsimp only [sZ, sS]
      refine wpSeq_take (d := 37) rfl rfl (by kernel_rfl) (fun w hS => by go_simp <;> with_reducible rfl) ?_
      dsimp only [sZ, sS]
      refine wpSeq_take (d := 38) rfl rfl (by kernel_rfl) (fun w hS => by go_simp <;> with_reducible rfl) ?_
      dsimp only [sZ, sS]
      refine wpSeq_take (d := 39) rfl rfl (by kernel_rfl) (fun w hS => by go_simp <;> with_reducible rfl) ?_
      dsimp only [sZ, sS]
      refine wpSeq_take (d := 40) rfl rfl (by kernel_rfl) (fun w hS => by go_simp <;> with_reducible rfl) ?_
      dsimp only [sZ, sS]
      refine wpSeq_take (d := 41) rfl rfl (by kernel_rfl) (fun w hS => by go_simp <;> with_reducible rfl) ?_
      dsimp only [sZ, sS]
      refine wpSeq_take (d := 42) rfl rfl (by kernel_rfl) (fun w hS => by go_simp <;> with_reducible rfl) ?_
      dsimp only [sZ, sS]
      refine wpSeq_take (d := 43) rfl rfl (by kernel_rfl) (fun w hS => by go_simp <;> with_reducible rfl) ?_
      dsimp only [sZ, sS]
      refine wpSeq_call rfl (by kernel_rfl) (fun K hK => ?_)
      go_simp
      (with_reducible refine (cw _ hH.2.2.2.2.2.2).mono ?_)
      rintro e w' ⟨rfl, hq⟩
      refine hK.out _ _ ?_ (fun hH => ?_)
      ·exact ⟨hq.keep hH.1, hq.keep hH.2.1, hq.keep hH.2.2.1, hq.keep hH.2.2.2.1, hq.keep hH.2.2.2.2.1, hq.keep hH.2.2.2.2.2.1, hH.2.2.2.2.2.2.trans hq⟩
      clear hK
      refine wpSeq_take (d := 45) rfl rfl (by kernel_rfl) (fun w hS => by go_simp <;> with_reducible rfl) ?_
      dsimp only [sZ, sS]
      refine wpSeq_take (d := 46) rfl rfl (by kernel_rfl) (fun w hS => by go_simp <;> with_reducible rfl) ?_
      dsimp only [sZ, sS]
      refine wpSeq_take (d := 47) rfl rfl (by kernel_rfl) (fun w hS => by go_simp <;> with_reducible rfl) ?_
      dsimp only [sZ, sS]
      refine wpSeq_take (d := 48) rfl rfl (by kernel_rfl) (fun w hS => by go_simp <;> with_reducible rfl) ?_
      dsimp only [sZ, sS]
      refine wpSeq_call rfl (by kernel_rfl) (fun K hK => ?_)
      go_simp
      (with_reducible refine (cx _).mono ?_)
      rintro e w' ⟨rfl, rfl⟩
      refine hK.out _ _ hH fun hH => ?_
      clear hK
      refine wpSeq_take (d := 50) rfl rfl (by kernel_rfl) (fun w hS => by go_simp <;> with_reducible rfl) ?_
      dsimp only [sZ, sS]
      refine wpSeq_take (d := 51) rfl rfl (by kernel_rfl) (fun w hS => by go_simp <;> with_reducible rfl) ?_
      dsimp only [sZ, sS]
      refine wpSeq_take (d := 52) rfl rfl (by kernel_rfl) (fun w hS => by go_simp <;> with_reducible rfl) ?_
      dsimp only [sZ, sS]
      refine wpSeq_pass (d := 53) rfl rfl (by kernel_rfl) ?_
      dsimp only [sZ, sS]
      refine wpSeq_pass (d := 54) rfl rfl (by kernel_rfl) ?_
      dsimp only [sZ, sS]
      refine wpSeq_pass (d := 55) rfl rfl (by kernel_rfl) ?_
      dsimp only [sZ, sS]
      refine wpSeq_pass (d := 56) rfl rfl (by kernel_rfl) ?_
      dsimp only [sZ, sS]
      refine wpSeq_take (d := 57) rfl rfl (by kernel_rfl) (fun w hS => by go_simp <;> with_reducible rfl) ?_
      dsimp only [sZ, sS]
      refine wpSeq_take (d := 58) rfl rfl (by kernel_rfl) (fun w hS => by go_simp <;> with_reducible rfl) ?_
      dsimp only [sZ, sS]
      refine wpSeq_pass (d := 59) rfl rfl (by kernel_rfl) ?_
      dsimp only [sZ, sS]
      refine wpSeq_pass (d := 60) rfl rfl (by kernel_rfl) ?_
      dsimp only [sZ, sS]
      refine wpSeq_pass (d := 61) rfl rfl (by kernel_rfl) ?_
      dsimp only [sZ, sS]
      refine wpSeq_pass (d := 62) rfl rfl (by kernel_rfl) ?_
      dsimp only [sZ, sS]
      refine wpSeq_take (d := 63) rfl rfl (by kernel_rfl) (fun w hS => by go_simp <;> with_reducible rfl) ?_
      dsimp only [sZ, sS]
      refine wpSeq_take (d := 64) rfl rfl (by kernel_rfl) (fun w hS => by go_simp <;> with_reducible rfl) ?_
      dsimp only [sZ, sS]
      refine wpSeq_pass (d := 65) rfl rfl (by kernel_rfl) ?_
      dsimp only [sZ, sS]
      refine wpSeq_pass (d := 66) rfl rfl (by kernel_rfl) ?_
      dsimp only [sZ, sS]
      refine wpSeq_pass (d := 67) rfl rfl (by kernel_rfl) ?_
      dsimp only [sZ, sS]
      refine wpSeq_pass (d := 68) rfl rfl (by kernel_rfl) ?_
      dsimp only [sZ, sS]
      refine wpSeq_take (d := 69) rfl rfl (by kernel_rfl) (fun w hS => by go_simp <;> with_reducible rfl) ?_
      dsimp only [sZ, sS]
      refine wpSeq_done ?_
      refine NoPanic.normal ?_
      have HZ := Lib.hid (HQ.out.trans hH.2.2.2.2.2.2)
      have HR := Lib.hid (HF.out (by simp))
      clear HF HT HQ
      go_wp2
      go_ret
      exact ⟨by rw [HR.out]; rfl, (hQ.out.trans HZ.out).b⟩
     ·cases by_
      ·refine wp_region_noPanic ?_
       refine wp_region_seq (S := fun w' => w'.cell? ⟨H, 0, none⟩ = some (.slice (some a) d.ws.length ac) ∧ w'.cell? ⟨G, 0, none⟩ = some (.string N) ∧ w'.cell? ⟨G, 1, none⟩ = some (.int .i64 X) ∧ w'.cell? ⟨G, 2, none⟩ = some (.int .i64 Y) ∧ w'.cell? ⟨G, 3, none⟩ = some (.int .i64 Z) ∧ w'.cell? ⟨G, 4, none⟩ = some (.slice so sn sc) ∧ Q wo w') [(0, 0), (1, 0), (2, 2), (3, 0), (4, 0), (5, 0), (6, 0), (7, 0), (8, 0), (9, 0), (10, 0), (11, 0), (12, 2), (13, 0), (14, 0), (15, 0), (16, 0), (17, 2), (18, 0), (19, 0), (20, 0), (21, 0), (22, 0), (23, 2), (24, 0), (25, 0), (26, 0), (27, 1), (28, 1), (29, 1), (30, 1), (31, 0), (32, 0), (33, 1), (34, 1), (35, 1), (36, 1), (37, 0)] [0, 1, 2, 4, 12, 16, 48, 16, 208, 272, 16, 1040, 2576, 4112, 12288, 16384, 49152, 81920, 147456, 278528, 655360, 1048576, 3145728, 5242880, 9437184, 17825792, 41943040, 67108864, 201326592, 335544320, 603979776, 1140850688, 2684354560, 4294967296, 12884901888, 21474836480, 38654705664, 73014444032] [0, 1, 2, 4, 8, 16, 48, 16, 208, 272, 16, 1040, 2576, 4112, 8192, 16384, 49152, 81920, 147456, 278528, 524288, 1048576, 3145728, 5242880, 9437184, 17825792, 33554432, 67108864, 201326592, 335544320, 603979776, 1140850688, 2147483648, 4294967296, 12884901888, 21474836480, 38654705664, 73014444032] (by kernel_rfl) (by kernel_rfl) (fun _ _ _ _ _ h => h) ?_ (fun hH => ?_)
       ·exact ⟨qe.keep k0, qe.keep p0, qe.keep p1, qe.keep p2, qe.keep p3, qe.keep p4, qd⟩
       refine wpSeq_take (d := 32) rfl rfl (by kernel_rfl) (fun w hS => by go_simp <;> with_reducible rfl) ?_
       dsimp only [sZ, sS]
       refine wpSeq_take (d := 33) rfl rfl (by kernel_rfl) (fun w hS => by go_simp <;> with_reducible rfl) ?_
       dsimp only [sZ, sS]
       refine wpSeq_call rfl (by kernel_rfl) (fun K hK => ?_)
       go_simp
       (with_reducible refine (cn _).mono ?_)
       rintro e w' ⟨rfl, rfl⟩
       refine hK.out _ _ hH fun hH => ?_
       clear hK
       refine wpSeq_take (d := 35) rfl rfl (by kernel_rfl) (fun w hS => by go_simp <;> with_reducible rfl) ?_
       dsimp only [sZ, sS]
       refine wpSeq_take (d := 36) rfl rfl (by kernel_rfl) (fun w hS => by go_simp <;> with_reducible rfl) ?_
       dsimp only [sZ, sS]
       refine wpSeq_take (d := 37) rfl rfl (by kernel_rfl) (fun w hS => by go_simp <;> with_reducible rfl) ?_
       dsimp only [sZ, sS]
       refine wpSeq_take (d := 38) rfl rfl (by kernel_rfl) (fun w hS => by go_simp <;> with_reducible rfl) ?_
       dsimp only [sZ, sS]
       refine wpSeq_take (d := 39) rfl rfl (by kernel_rfl) (fun w hS => by go_simp <;> with_reducible rfl) ?_
       dsimp only [sZ, sS]
       refine wpSeq_take (d := 40) rfl rfl (by kernel_rfl) (fun w hS => by go_simp <;> with_reducible rfl) ?_
       dsimp only [sZ, sS]
       refine wpSeq_take (d := 41) rfl rfl (by kernel_rfl) (fun w hS => by go_simp <;> with_reducible rfl) ?_
       dsimp only [sZ, sS]
       refine wpSeq_take (d := 42) rfl rfl (by kernel_rfl) (fun w hS => by go_simp <;> with_reducible rfl) ?_
       dsimp only [sZ, sS]
       refine wpSeq_take (d := 43) rfl rfl (by kernel_rfl) (fun w hS => by go_simp <;> with_reducible rfl) ?_
       dsimp only [sZ, sS]
       refine wpSeq_call rfl (by kernel_rfl) (fun K hK => ?_)
       go_simp
       (with_reducible refine (cw _ hH.2.2.2.2.2.2).mono ?_)
       rintro e w' ⟨rfl, hq⟩
       refine hK.out _ _ ?_ (fun hH => ?_)
       ·exact ⟨hq.keep hH.1, hq.keep hH.2.1, hq.keep hH.2.2.1, hq.keep hH.2.2.2.1, hq.keep hH.2.2.2.2.1, hq.keep hH.2.2.2.2.2.1, hH.2.2.2.2.2.2.trans hq⟩
       clear hK
       refine wpSeq_take (d := 45) rfl rfl (by kernel_rfl) (fun w hS => by go_simp <;> with_reducible rfl) ?_
       dsimp only [sZ, sS]
       refine wpSeq_take (d := 46) rfl rfl (by kernel_rfl) (fun w hS => by go_simp <;> with_reducible rfl) ?_
       dsimp only [sZ, sS]
       refine wpSeq_take (d := 47) rfl rfl (by kernel_rfl) (fun w hS => by go_simp <;> with_reducible rfl) ?_
       dsimp only [sZ, sS]
       refine wpSeq_take (d := 48) rfl rfl (by kernel_rfl) (fun w hS => by go_simp <;> with_reducible rfl) ?_
       dsimp only [sZ, sS]
       refine wpSeq_call rfl (by kernel_rfl) (fun K hK => ?_)
       go_simp
       (with_reducible refine (cx _).mono ?_)
       rintro e w' ⟨rfl, rfl⟩
       refine hK.out _ _ hH fun hH => ?_
       clear hK
       refine wpSeq_take (d := 50) rfl rfl (by kernel_rfl) (fun w hS => by go_simp <;> with_reducible rfl) ?_
       dsimp only [sZ, sS]
       refine wpSeq_take (d := 51) rfl rfl (by kernel_rfl) (fun w hS => by go_simp <;> with_reducible rfl) ?_
       dsimp only [sZ, sS]
       refine wpSeq_take (d := 52) rfl rfl (by kernel_rfl) (fun w hS => by go_simp <;> with_reducible rfl) ?_
       dsimp only [sZ, sS]
       refine wpSeq_take (d := 53) rfl rfl (by kernel_rfl) (fun w hS => by go_simp <;> with_reducible rfl) ?_
       dsimp only [sZ, sS]
       refine wpSeq_take (d := 54) rfl rfl (by kernel_rfl) (fun w hS => by go_simp <;> with_reducible rfl) ?_
       dsimp only [sZ, sS]
       refine wpSeq_call rfl (by kernel_rfl) (fun K hK => ?_)
       go_simp
       (with_reducible refine (cy _).mono ?_)
       rintro e w' ⟨rfl, rfl⟩
       refine hK.out _ _ hH fun hH => ?_
       clear hK
       refine wpSeq_take (d := 56) rfl rfl (by kernel_rfl) (fun w hS => by go_simp <;> with_reducible rfl) ?_
       dsimp only [sZ, sS]
       refine wpSeq_take (d := 57) rfl rfl (by kernel_rfl) (fun w hS => by go_simp <;> with_reducible rfl) ?_
       dsimp only [sZ, sS]
       refine wpSeq_take (d := 58) rfl rfl (by kernel_rfl) (fun w hS => by go_simp <;> with_reducible rfl) ?_
       dsimp only [sZ, sS]
       refine wpSeq_pass (d := 59) rfl rfl (by kernel_rfl) ?_
       dsimp only [sZ, sS]
       refine wpSeq_pass (d := 60) rfl rfl (by kernel_rfl) ?_
       dsimp only [sZ, sS]
       refine wpSeq_pass (d := 61) rfl rfl (by kernel_rfl) ?_
       dsimp only [sZ, sS]
       refine wpSeq_pass (d := 62) rfl rfl (by kernel_rfl) ?_
       dsimp only [sZ, sS]
       refine wpSeq_take (d := 63) rfl rfl (by kernel_rfl) (fun w hS => by go_simp <;> with_reducible rfl) ?_
       dsimp only [sZ, sS]
       refine wpSeq_take (d := 64) rfl rfl (by kernel_rfl) (fun w hS => by go_simp <;> with_reducible rfl) ?_
       dsimp only [sZ, sS]
       refine wpSeq_pass (d := 65) rfl rfl (by kernel_rfl) ?_
       dsimp only [sZ, sS]
       refine wpSeq_pass (d := 66) rfl rfl (by kernel_rfl) ?_
       dsimp only [sZ, sS]
       refine wpSeq_pass (d := 67) rfl rfl (by kernel_rfl) ?_
       dsimp only [sZ, sS]
       refine wpSeq_pass (d := 68) rfl rfl (by kernel_rfl) ?_
       dsimp only [sZ, sS]
       refine wpSeq_take (d := 69) rfl rfl (by kernel_rfl) (fun w hS => by go_simp <;> with_reducible rfl) ?_
       dsimp only [sZ, sS]
       refine wpSeq_done ?_
       refine NoPanic.normal ?_
       have HZ := Lib.hid (HQ.out.trans hH.2.2.2.2.2.2)
       have HR := Lib.hid (HF.out (by simp))
       clear HF HT HQ
       go_wp2
       go_ret
       exact ⟨by rw [HR.out]; rfl, (hQ.out.trans HZ.out).b⟩
      ·cases bz
       ·refine wp_region_noPanic ?_
        refine wp_region_seq (S := fun w' => w'.cell? ⟨H, 0, none⟩ = some (.slice (some a) d.ws.length ac) ∧ w'.cell? ⟨G, 0, none⟩ = some (.string N) ∧ w'.cell? ⟨G, 1, none⟩ = some (.int .i64 X) ∧ w'.cell? ⟨G, 2, none⟩ = some (.int .i64 Y) ∧ w'.cell? ⟨G, 3, none⟩ = some (.int .i64 Z) ∧ w'.cell? ⟨G, 4, none⟩ = some (.slice so sn sc) ∧ Q wo w') [(0, 0), (1, 0), (2, 2), (3, 0), (4, 0), (5, 0), (6, 0), (7, 0), (8, 0), (9, 0), (10, 0), (11, 0), (12, 2), (13, 0), (14, 0), (15, 0), (16, 0), (17, 2), (18, 0), (19, 0), (20, 0), (21, 0), (22, 0), (23, 2), (24, 0), (25, 0), (26, 0), (27, 0), (28, 0), (29, 2), (30, 0), (31, 0), (32, 0), (33, 1), (34, 1), (35, 1), (36, 1), (37, 0)] [0, 1, 2, 4, 12, 16, 48, 16, 208, 272, 16, 1040, 2576, 4112, 12288, 16384, 49152, 81920, 147456, 278528, 655360, 1048576, 3145728, 5242880, 9437184, 17825792, 41943040, 67108864, 201326592, 335544320, 603979776, 1140850688, 2684354560, 4294967296, 12884901888, 21474836480, 38654705664, 73014444032] [0, 1, 2, 4, 8, 16, 48, 16, 208, 272, 16, 1040, 2576, 4112, 8192, 16384, 49152, 81920, 147456, 278528, 524288, 1048576, 3145728, 5242880, 9437184, 17825792, 33554432, 67108864, 201326592, 335544320, 603979776, 1140850688, 2147483648, 4294967296, 12884901888, 21474836480, 38654705664, 73014444032] (by kernel_rfl) (by kernel_rfl) (fun _ _ _ _ _ h => h) ?_ (fun hH => ?_)
        ·exact ⟨qe.keep k0, qe.keep p0, qe.keep p1, qe.keep p2, qe.keep p3, qe.keep p4, qd⟩
        refine wpSeq_take (d := 32) rfl rfl (by kernel_rfl) (fun w hS => by go_simp <;> with_reducible rfl) ?_
        dsimp only [sZ, sS]
        refine wpSeq_take (d := 33) rfl rfl (by kernel_rfl) (fun w hS => by go_simp <;> with_reducible rfl) ?_
        dsimp only [sZ, sS]
        refine wpSeq_call rfl (by kernel_rfl) (fun K hK => ?_)
        go_simp
        (with_reducible refine (cn _).mono ?_)
        rintro e w' ⟨rfl, rfl⟩
        refine hK.out _ _ hH fun hH => ?_
        clear hK
        refine wpSeq_take (d := 35) rfl rfl (by kernel_rfl) (fun w hS => by go_simp <;> with_reducible rfl) ?_
        dsimp only [sZ, sS]
        refine wpSeq_take (d := 36) rfl rfl (by kernel_rfl) (fun w hS => by go_simp <;> with_reducible rfl) ?_
        dsimp only [sZ, sS]
        refine wpSeq_take (d := 37) rfl rfl (by kernel_rfl) (fun w hS => by go_simp <;> with_reducible rfl) ?_
        dsimp only [sZ, sS]
        refine wpSeq_take (d := 38) rfl rfl (by kernel_rfl) (fun w hS => by go_simp <;> with_reducible rfl) ?_
        dsimp only [sZ, sS]
        refine wpSeq_take (d := 39) rfl rfl (by kernel_rfl) (fun w hS => by go_simp <;> with_reducible rfl) ?_
        dsimp only [sZ, sS]
        refine wpSeq_take (d := 40) rfl rfl (by kernel_rfl) (fun w hS => by go_simp <;> with_reducible rfl) ?_
        dsimp only [sZ, sS]
        refine wpSeq_take (d := 41) rfl rfl (by kernel_rfl) (fun w hS => by go_simp <;> with_reducible rfl) ?_
        dsimp only [sZ, sS]
        refine wpSeq_take (d := 42) rfl rfl (by kernel_rfl) (fun w hS => by go_simp <;> with_reducible rfl) ?_
        dsimp only [sZ, sS]
        refine wpSeq_take (d := 43) rfl rfl (by kernel_rfl) (fun w hS => by go_simp <;> with_reducible rfl) ?_
        dsimp only [sZ, sS]
        refine wpSeq_call rfl (by kernel_rfl) (fun K hK => ?_)
        go_simp
        (with_reducible refine (cw _ hH.2.2.2.2.2.2).mono ?_)
        rintro e w' ⟨rfl, hq⟩
        refine hK.out _ _ ?_ (fun hH => ?_)
        ·exact ⟨hq.keep hH.1, hq.keep hH.2.1, hq.keep hH.2.2.1, hq.keep hH.2.2.2.1, hq.keep hH.2.2.2.2.1, hq.keep hH.2.2.2.2.2.1, hH.2.2.2.2.2.2.trans hq⟩
        clear hK
        refine wpSeq_take (d := 45) rfl rfl (by kernel_rfl) (fun w hS => by go_simp <;> with_reducible rfl) ?_
        dsimp only [sZ, sS]
        refine wpSeq_take (d := 46) rfl rfl (by kernel_rfl) (fun w hS => by go_simp <;> with_reducible rfl) ?_
        dsimp only [sZ, sS]
        refine wpSeq_take (d := 47) rfl rfl (by kernel_rfl) (fun w hS => by go_simp <;> with_reducible rfl) ?_
        dsimp only [sZ, sS]
        refine wpSeq_take (d := 48) rfl rfl (by kernel_rfl) (fun w hS => by go_simp <;> with_reducible rfl) ?_
        dsimp only [sZ, sS]
        refine wpSeq_call rfl (by kernel_rfl) (fun K hK => ?_)
        go_simp
        (with_reducible refine (cx _).mono ?_)
        rintro e w' ⟨rfl, rfl⟩
        refine hK.out _ _ hH fun hH => ?_
        clear hK
        refine wpSeq_take (d := 50) rfl rfl (by kernel_rfl) (fun w hS => by go_simp <;> with_reducible rfl) ?_
        dsimp only [sZ, sS]
        refine wpSeq_take (d := 51) rfl rfl (by kernel_rfl) (fun w hS => by go_simp <;> with_reducible rfl) ?_
        dsimp only [sZ, sS]
        refine wpSeq_take (d := 52) rfl rfl (by kernel_rfl) (fun w hS => by go_simp <;> with_reducible rfl) ?_
        dsimp only [sZ, sS]
        refine wpSeq_take (d := 53) rfl rfl (by kernel_rfl) (fun w hS => by go_simp <;> with_reducible rfl) ?_
        dsimp only [sZ, sS]
        refine wpSeq_take (d := 54) rfl rfl (by kernel_rfl) (fun w hS => by go_simp <;> with_reducible rfl) ?_
        dsimp only [sZ, sS]
        refine wpSeq_call rfl (by kernel_rfl) (fun K hK => ?_)
        go_simp
        (with_reducible refine (cy _).mono ?_)
        rintro e w' ⟨rfl, rfl⟩
        refine hK.out _ _ hH fun hH => ?_
        clear hK
        refine wpSeq_take (d := 56) rfl rfl (by kernel_rfl) (fun w hS => by go_simp <;> with_reducible rfl) ?_
        dsimp only [sZ, sS]
        refine wpSeq_take (d := 57) rfl rfl (by kernel_rfl) (fun w hS => by go_simp <;> with_reducible rfl) ?_
        dsimp only [sZ, sS]
        refine wpSeq_take (d := 58) rfl rfl (by kernel_rfl) (fun w hS => by go_simp <;> with_reducible rfl) ?_
        dsimp only [sZ, sS]
        refine wpSeq_take (d := 59) rfl rfl (by kernel_rfl) (fun w hS => by go_simp <;> with_reducible rfl) ?_
        dsimp only [sZ, sS]
        refine wpSeq_take (d := 60) rfl rfl (by kernel_rfl) (fun w hS => by go_simp <;> with_reducible rfl) ?_
        dsimp only [sZ, sS]
        refine wpSeq_call rfl (by kernel_rfl) (fun K hK => ?_)
        go_simp
        (with_reducible refine (cz _).mono ?_)
        rintro e w' ⟨rfl, rfl⟩
        refine hK.out _ _ hH fun hH => ?_
        clear hK
        refine wpSeq_take (d := 62) rfl rfl (by kernel_rfl) (fun w hS => by go_simp <;> with_reducible rfl) ?_
        dsimp only [sZ, sS]
        refine wpSeq_take (d := 63) rfl rfl (by kernel_rfl) (fun w hS => by go_simp <;> with_reducible rfl) ?_
        dsimp only [sZ, sS]
        refine wpSeq_take (d := 64) rfl rfl (by kernel_rfl) (fun w hS => by go_simp <;> with_reducible rfl) ?_
        dsimp only [sZ, sS]
        refine wpSeq_pass (d := 65) rfl rfl (by kernel_rfl) ?_
        dsimp only [sZ, sS]
        refine wpSeq_pass (d := 66) rfl rfl (by kernel_rfl) ?_
        dsimp only [sZ, sS]
        refine wpSeq_pass (d := 67) rfl rfl (by kernel_rfl) ?_
        dsimp only [sZ, sS]
        refine wpSeq_pass (d := 68) rfl rfl (by kernel_rfl) ?_
        dsimp only [sZ, sS]
        refine wpSeq_take (d := 69) rfl rfl (by kernel_rfl) (fun w hS => by go_simp <;> with_reducible rfl) ?_
        dsimp only [sZ, sS]
        refine wpSeq_done ?_
        refine NoPanic.normal ?_
        have HZ := Lib.hid (HQ.out.trans hH.2.2.2.2.2.2)
        have HR := Lib.hid (HF.out (by simp))
        clear HF HT HQ
        go_wp2
        go_ret
        exact ⟨by rw [HR.out]; rfl, (hQ.out.trans HZ.out).b⟩
       ·cases bl
        ·refine wp_region_noPanic ?_
         refine wp_region_seq (S := fun w' => w'.cell? ⟨H, 0, none⟩ = some (.slice (some a) d.ws.length ac) ∧ w'.cell? ⟨G, 0, none⟩ = some (.string N) ∧ w'.cell? ⟨G, 1, none⟩ = some (.int .i64 X) ∧ w'.cell? ⟨G, 2, none⟩ = some (.int .i64 Y) ∧ w'.cell? ⟨G, 3, none⟩ = some (.int .i64 Z) ∧ w'.cell? ⟨G, 4, none⟩ = some (.slice so sn sc) ∧ Q wo w') [(0, 0), (1, 0), (2, 2), (3, 0), (4, 0), (5, 0), (6, 0), (7, 0), (8, 0), (9, 0), (10, 0), (11, 0), (12, 2), (13, 0), (14, 0), (15, 0), (16, 0), (17, 2), (18, 0), (19, 0), (20, 0), (21, 0), (22, 0), (23, 2), (24, 0), (25, 0), (26, 0), (27, 0), (28, 0), (29, 2), (30, 0), (31, 0), (32, 0), (33, 0), (34, 0), (35, 2), (36, 0), (37, 0)] [0, 1, 2, 4, 12, 16, 48, 16, 208, 272, 16, 1040, 2576, 4112, 12288, 16384, 49152, 81920, 147456, 278528, 655360, 1048576, 3145728, 5242880, 9437184, 17825792, 41943040, 67108864, 201326592, 335544320, 603979776, 1140850688, 2684354560, 4294967296, 12884901888, 21474836480, 38654705664, 73014444032] [0, 1, 2, 4, 8, 16, 48, 16, 208, 272, 16, 1040, 2576, 4112, 8192, 16384, 49152, 81920, 147456, 278528, 524288, 1048576, 3145728, 5242880, 9437184, 17825792, 33554432, 67108864, 201326592, 335544320, 603979776, 1140850688, 2147483648, 4294967296, 12884901888, 21474836480, 38654705664, 73014444032] (by kernel_rfl) (by kernel_rfl) (fun _ _ _ _ _ h => h) ?_ (fun hH => ?_)
         ·exact ⟨qe.keep k0, qe.keep p0, qe.keep p1, qe.keep p2, qe.keep p3, qe.keep p4, qd⟩
         refine wpSeq_take (d := 32) rfl rfl (by kernel_rfl) (fun w hS => by go_simp <;> with_reducible rfl) ?_
         dsimp only [sZ, sS]
         refine wpSeq_take (d := 33) rfl rfl (by kernel_rfl) (fun w hS => by go_simp <;> with_reducible rfl) ?_
         dsimp only [sZ, sS]
         refine wpSeq_call rfl (by kernel_rfl) (fun K hK => ?_)
         go_simp
         (with_reducible refine (cn _).mono ?_)
         rintro e w' ⟨rfl, rfl⟩
         refine hK.out _ _ hH fun hH => ?_
         clear hK
         refine wpSeq_take (d := 35) rfl rfl (by kernel_rfl) (fun w hS => by go_simp <;> with_reducible rfl) ?_
         dsimp only [sZ, sS]
         refine wpSeq_take (d := 36) rfl rfl (by kernel_rfl) (fun w hS => by go_simp <;> with_reducible rfl) ?_
         dsimp only [sZ, sS]
         refine wpSeq_take (d := 37) rfl rfl (by kernel_rfl) (fun w hS => by go_simp <;> with_reducible rfl) ?_
         dsimp only [sZ, sS]
         refine wpSeq_take (d := 38) rfl rfl (by kernel_rfl) (fun w hS => by go_simp <;> with_reducible rfl) ?_
         dsimp only [sZ, sS]
         refine wpSeq_take (d := 39) rfl rfl (by kernel_rfl) (fun w hS => by go_simp <;> with_reducible rfl) ?_
         dsimp only [sZ, sS]
         refine wpSeq_take (d := 40) rfl rfl (by kernel_rfl) (fun w hS => by go_simp <;> with_reducible rfl) ?_
         dsimp only [sZ, sS]
         refine wpSeq_take (d := 41) rfl rfl (by kernel_rfl) (fun w hS => by go_simp <;> with_reducible rfl) ?_
         dsimp only [sZ, sS]
         refine wpSeq_take (d := 42) rfl rfl (by kernel_rfl) (fun w hS => by go_simp <;> with_reducible rfl) ?_
         dsimp only [sZ, sS]
         refine wpSeq_take (d := 43) rfl rfl (by kernel_rfl) (fun w hS => by go_simp <;> with_reducible rfl) ?_
         dsimp only [sZ, sS]
         refine wpSeq_call rfl (by kernel_rfl) (fun K hK => ?_)
         go_simp
         (with_reducible refine (cw _ hH.2.2.2.2.2.2).mono ?_)
         rintro e w' ⟨rfl, hq⟩
         refine hK.out _ _ ?_ (fun hH => ?_)
         ·exact ⟨hq.keep hH.1, hq.keep hH.2.1, hq.keep hH.2.2.1, hq.keep hH.2.2.2.1, hq.keep hH.2.2.2.2.1, hq.keep hH.2.2.2.2.2.1, hH.2.2.2.2.2.2.trans hq⟩
         clear hK
         refine wpSeq_take (d := 45) rfl rfl (by kernel_rfl) (fun w hS => by go_simp <;> with_reducible rfl) ?_
         dsimp only [sZ, sS]
         refine wpSeq_take (d := 46) rfl rfl (by kernel_rfl) (fun w hS => by go_simp <;> with_reducible rfl) ?_
         dsimp only [sZ, sS]
         refine wpSeq_take (d := 47) rfl rfl (by kernel_rfl) (fun w hS => by go_simp <;> with_reducible rfl) ?_
         dsimp only [sZ, sS]
         refine wpSeq_take (d := 48) rfl rfl (by kernel_rfl) (fun w hS => by go_simp <;> with_reducible rfl) ?_
         dsimp only [sZ, sS]
         refine wpSeq_call rfl (by kernel_rfl) (fun K hK => ?_)
         go_simp
         (with_reducible refine (cx _).mono ?_)
         rintro e w' ⟨rfl, rfl⟩
         refine hK.out _ _ hH fun hH => ?_
         clear hK
         refine wpSeq_take (d := 50) rfl rfl (by kernel_rfl) (fun w hS => by go_simp <;> with_reducible rfl) ?_
         dsimp only [sZ, sS]
         refine wpSeq_take (d := 51) rfl rfl (by kernel_rfl) (fun w hS => by go_simp <;> with_reducible rfl) ?_
         dsimp only [sZ, sS]
         refine wpSeq_take (d := 52) rfl rfl (by kernel_rfl) (fun w hS => by go_simp <;> with_reducible rfl) ?_
         dsimp only [sZ, sS]
         refine wpSeq_take (d := 53) rfl rfl (by kernel_rfl) (fun w hS => by go_simp <;> with_reducible rfl) ?_
         dsimp only [sZ, sS]
         refine wpSeq_take (d := 54) rfl rfl (by kernel_rfl) (fun w hS => by go_simp <;> with_reducible rfl) ?_
         dsimp only [sZ, sS]
         refine wpSeq_call rfl (by kernel_rfl) (fun K hK => ?_)
         go_simp
         (with_reducible refine (cy _).mono ?_)
         rintro e w' ⟨rfl, rfl⟩
         refine hK.out _ _ hH fun hH => ?_
         clear hK
         refine wpSeq_take (d := 56) rfl rfl (by kernel_rfl) (fun w hS => by go_simp <;> with_reducible rfl) ?_
         dsimp only [sZ, sS]
         refine wpSeq_take (d := 57) rfl rfl (by kernel_rfl) (fun w hS => by go_simp <;> with_reducible rfl) ?_
         dsimp only [sZ, sS]
         refine wpSeq_take (d := 58) rfl rfl (by kernel_rfl) (fun w hS => by go_simp <;> with_reducible rfl) ?_
         dsimp only [sZ, sS]
         refine wpSeq_take (d := 59) rfl rfl (by kernel_rfl) (fun w hS => by go_simp <;> with_reducible rfl) ?_
         dsimp only [sZ, sS]
         refine wpSeq_take (d := 60) rfl rfl (by kernel_rfl) (fun w hS => by go_simp <;> with_reducible rfl) ?_
         dsimp only [sZ, sS]
         refine wpSeq_call rfl (by kernel_rfl) (fun K hK => ?_)
         go_simp
         (with_reducible refine (cz _).mono ?_)
         rintro e w' ⟨rfl, rfl⟩
         refine hK.out _ _ hH fun hH => ?_
         clear hK
         refine wpSeq_take (d := 62) rfl rfl (by kernel_rfl) (fun w hS => by go_simp <;> with_reducible rfl) ?_
         dsimp only [sZ, sS]
         refine wpSeq_take (d := 63) rfl rfl (by kernel_rfl) (fun w hS => by go_simp <;> with_reducible rfl) ?_
         dsimp only [sZ, sS]
         refine wpSeq_take (d := 64) rfl rfl (by kernel_rfl) (fun w hS => by go_simp <;> with_reducible rfl) ?_
         dsimp only [sZ, sS]
         refine wpSeq_take (d := 65) rfl rfl (by kernel_rfl) (fun w hS => by go_simp <;> with_reducible rfl) ?_
         dsimp only [sZ, sS]
         refine wpSeq_take (d := 66) rfl rfl (by kernel_rfl) (fun w hS => by go_simp <;> with_reducible rfl) ?_
         dsimp only [sZ, sS]
         refine wpSeq_call rfl (by kernel_rfl) (fun K hK => ?_)
         go_simp
         (with_reducible refine (cl _ hH.2.2.2.2.2.2).mono ?_)
         rintro e w' ⟨rfl, hq⟩
         refine hK.out _ _ ?_ (fun hH => ?_)
         ·exact ⟨hq.keep hH.1, hq.keep hH.2.1, hq.keep hH.2.2.1, hq.keep hH.2.2.2.1, hq.keep hH.2.2.2.2.1, hq.keep hH.2.2.2.2.2.1, hH.2.2.2.2.2.2.trans hq⟩
         clear hK
         refine wpSeq_take (d := 68) rfl rfl (by kernel_rfl) (fun w hS => by go_simp <;> with_reducible rfl) ?_
         dsimp only [sZ, sS]
         refine wpSeq_take (d := 69) rfl rfl (by kernel_rfl) (fun w hS => by go_simp <;> with_reducible rfl) ?_
         dsimp only [sZ, sS]
         refine wpSeq_done ?_
         refine NoPanic.normal ?_
         have HZ := Lib.hid (HQ.out.trans hH.2.2.2.2.2.2)
         have HR := Lib.hid (HF.out (by simp))
         clear HF HT HQ
         go_wp2
         go_ret
         exact ⟨by rw [HR.out]; rfl, (hQ.out.trans HZ.out).b⟩
        ·refine wp_region_noPanic ?_
         refine wp_region_seq (S := fun w' => w'.cell? ⟨H, 0, none⟩ = some (.slice (some a) d.ws.length ac) ∧ w'.cell? ⟨G, 0, none⟩ = some (.string N) ∧ w'.cell? ⟨G, 1, none⟩ = some (.int .i64 X) ∧ w'.cell? ⟨G, 2, none⟩ = some (.int .i64 Y) ∧ w'.cell? ⟨G, 3, none⟩ = some (.int .i64 Z) ∧ w'.cell? ⟨G, 4, none⟩ = some (.slice so sn sc) ∧ Q wo w') [(0, 0), (1, 0), (2, 2), (3, 0), (4, 0), (5, 0), (6, 0), (7, 0), (8, 0), (9, 0), (10, 0), (11, 0), (12, 2), (13, 0), (14, 0), (15, 0), (16, 0), (17, 2), (18, 0), (19, 0), (20, 0), (21, 0), (22, 0), (23, 2), (24, 0), (25, 0), (26, 0), (27, 0), (28, 0), (29, 2), (30, 0), (31, 0), (32, 0), (33, 0), (34, 0), (35, 2), (36, 0), (37, 0)] [0, 1, 2, 4, 12, 16, 48, 16, 208, 272, 16, 1040, 2576, 4112, 12288, 16384, 49152, 81920, 147456, 278528, 655360, 1048576, 3145728, 5242880, 9437184, 17825792, 41943040, 67108864, 201326592, 335544320, 603979776, 1140850688, 2684354560, 4294967296, 12884901888, 21474836480, 38654705664, 73014444032] [0, 1, 2, 4, 8, 16, 48, 16, 208, 272, 16, 1040, 2576, 4112, 8192, 16384, 49152, 81920, 147456, 278528, 524288, 1048576, 3145728, 5242880, 9437184, 17825792, 33554432, 67108864, 201326592, 335544320, 603979776, 1140850688, 2147483648, 4294967296, 12884901888, 21474836480, 38654705664, 73014444032] (by kernel_rfl) (by kernel_rfl) (fun _ _ _ _ _ h => h) ?_ (fun hH => ?_)
         ·exact ⟨qe.keep k0, qe.keep p0, qe.keep p1, qe.keep p2, qe.keep p3, qe.keep p4, qd⟩
         refine wpSeq_take (d := 32) rfl rfl (by kernel_rfl) (fun w hS => by go_simp <;> with_reducible rfl) ?_
         dsimp only [sZ, sS]
         refine wpSeq_take (d := 33) rfl rfl (by kernel_rfl) (fun w hS => by go_simp <;> with_reducible rfl) ?_
         dsimp only [sZ, sS]
         refine wpSeq_call rfl (by kernel_rfl) (fun K hK => ?_)
         go_simp
         (with_reducible refine (cn _).mono ?_)
         rintro e w' ⟨rfl, rfl⟩
         refine hK.out _ _ hH fun hH => ?_
         clear hK
         refine wpSeq_take (d := 35) rfl rfl (by kernel_rfl) (fun w hS => by go_simp <;> with_reducible rfl) ?_
         dsimp only [sZ, sS]
         refine wpSeq_take (d := 36) rfl rfl (by kernel_rfl) (fun w hS => by go_simp <;> with_reducible rfl) ?_
         dsimp only [sZ, sS]
         refine wpSeq_take (d := 37) rfl rfl (by kernel_rfl) (fun w hS => by go_simp <;> with_reducible rfl) ?_
         dsimp only [sZ, sS]
         refine wpSeq_take (d := 38) rfl rfl (by kernel_rfl) (fun w hS => by go_simp <;> with_reducible rfl) ?_
         dsimp only [sZ, sS]
         refine wpSeq_take (d := 39) rfl rfl (by kernel_rfl) (fun w hS => by go_simp <;> with_reducible rfl) ?_
         dsimp only [sZ, sS]
         refine wpSeq_take (d := 40) rfl rfl (by kernel_rfl) (fun w hS => by go_simp <;> with_reducible rfl) ?_
         dsimp only [sZ, sS]
         refine wpSeq_take (d := 41) rfl rfl (by kernel_rfl) (fun w hS => by go_simp <;> with_reducible rfl) ?_
         dsimp only [sZ, sS]
         refine wpSeq_take (d := 42) rfl rfl (by kernel_rfl) (fun w hS => by go_simp <;> with_reducible rfl) ?_
         dsimp only [sZ, sS]
         refine wpSeq_take (d := 43) rfl rfl (by kernel_rfl) (fun w hS => by go_simp <;> with_reducible rfl) ?_
         dsimp only [sZ, sS]
         refine wpSeq_call rfl (by kernel_rfl) (fun K hK => ?_)
         go_simp
         (with_reducible refine (cw _ hH.2.2.2.2.2.2).mono ?_)
         rintro e w' ⟨rfl, hq⟩
         refine hK.out _ _ ?_ (fun hH => ?_)
         ·exact ⟨hq.keep hH.1, hq.keep hH.2.1, hq.keep hH.2.2.1, hq.keep hH.2.2.2.1, hq.keep hH.2.2.2.2.1, hq.keep hH.2.2.2.2.2.1, hH.2.2.2.2.2.2.trans hq⟩
         clear hK
         refine wpSeq_take (d := 45) rfl rfl (by kernel_rfl) (fun w hS => by go_simp <;> with_reducible rfl) ?_
         dsimp only [sZ, sS]
         refine wpSeq_take (d := 46) rfl rfl (by kernel_rfl) (fun w hS => by go_simp <;> with_reducible rfl) ?_
         dsimp only [sZ, sS]
         refine wpSeq_take (d := 47) rfl rfl (by kernel_rfl) (fun w hS => by go_simp <;> with_reducible rfl) ?_
         dsimp only [sZ, sS]
         refine wpSeq_take (d := 48) rfl rfl (by kernel_rfl) (fun w hS => by go_simp <;> with_reducible rfl) ?_
         dsimp only [sZ, sS]
         refine wpSeq_call rfl (by kernel_rfl) (fun K hK => ?_)
         go_simp
         (with_reducible refine (cx _).mono ?_)
         rintro e w' ⟨rfl, rfl⟩
         refine hK.out _ _ hH fun hH => ?_
         clear hK
         refine wpSeq_take (d := 50) rfl rfl (by kernel_rfl) (fun w hS => by go_simp <;> with_reducible rfl) ?_
         dsimp only [sZ, sS]
         refine wpSeq_take (d := 51) rfl rfl (by kernel_rfl) (fun w hS => by go_simp <;> with_reducible rfl) ?_
         dsimp only [sZ, sS]
         refine wpSeq_take (d := 52) rfl rfl (by kernel_rfl) (fun w hS => by go_simp <;> with_reducible rfl) ?_
         dsimp only [sZ, sS]
         refine wpSeq_take (d := 53) rfl rfl (by kernel_rfl) (fun w hS => by go_simp <;> with_reducible rfl) ?_
         dsimp only [sZ, sS]
         refine wpSeq_take (d := 54) rfl rfl (by kernel_rfl) (fun w hS => by go_simp <;> with_reducible rfl) ?_
         dsimp only [sZ, sS]
         refine wpSeq_call rfl (by kernel_rfl) (fun K hK => ?_)
         go_simp
         (with_reducible refine (cy _).mono ?_)
         rintro e w' ⟨rfl, rfl⟩
         refine hK.out _ _ hH fun hH => ?_
         clear hK
         refine wpSeq_take (d := 56) rfl rfl (by kernel_rfl) (fun w hS => by go_simp <;> with_reducible rfl) ?_
         dsimp only [sZ, sS]
         refine wpSeq_take (d := 57) rfl rfl (by kernel_rfl) (fun w hS => by go_simp <;> with_reducible rfl) ?_
         dsimp only [sZ, sS]
         refine wpSeq_take (d := 58) rfl rfl (by kernel_rfl) (fun w hS => by go_simp <;> with_reducible rfl) ?_
         dsimp only [sZ, sS]
         refine wpSeq_take (d := 59) rfl rfl (by kernel_rfl) (fun w hS => by go_simp <;> with_reducible rfl) ?_
         dsimp only [sZ, sS]
         refine wpSeq_take (d := 60) rfl rfl (by kernel_rfl) (fun w hS => by go_simp <;> with_reducible rfl) ?_
         dsimp only [sZ, sS]
         refine wpSeq_call rfl (by kernel_rfl) (fun K hK => ?_)
         go_simp
         (with_reducible refine (cz _).mono ?_)
         rintro e w' ⟨rfl, rfl⟩
         refine hK.out _ _ hH fun hH => ?_
         clear hK
         refine wpSeq_take (d := 62) rfl rfl (by kernel_rfl) (fun w hS => by go_simp <;> with_reducible rfl) ?_
         dsimp only [sZ, sS]
         refine wpSeq_take (d := 63) rfl rfl (by kernel_rfl) (fun w hS => by go_simp <;> with_reducible rfl) ?_
         dsimp only [sZ, sS]
         refine wpSeq_take (d := 64) rfl rfl (by kernel_rfl) (fun w hS => by go_simp <;> with_reducible rfl) ?_
         dsimp only [sZ, sS]
         refine wpSeq_take (d := 65) rfl rfl (by kernel_rfl) (fun w hS => by go_simp <;> with_reducible rfl) ?_
         dsimp only [sZ, sS]
         refine wpSeq_take (d := 66) rfl rfl (by kernel_rfl) (fun w hS => by go_simp <;> with_reducible rfl) ?_
         dsimp only [sZ, sS]
         refine wpSeq_call rfl (by kernel_rfl) (fun K hK => ?_)
         go_simp
         (with_reducible refine (cl _ hH.2.2.2.2.2.2).mono ?_)
         rintro e w' ⟨rfl, hq⟩
         refine hK.out _ _ ?_ (fun hH => ?_)
         ·exact ⟨hq.keep hH.1, hq.keep hH.2.1, hq.keep hH.2.2.1, hq.keep hH.2.2.2.1, hq.keep hH.2.2.2.2.1, hq.keep hH.2.2.2.2.2.1, hH.2.2.2.2.2.2.trans hq⟩
         clear hK
         refine wpSeq_take (d := 68) rfl rfl (by kernel_rfl) (fun w hS => by go_simp <;> with_reducible rfl) ?_
         dsimp only [sZ, sS]
         refine wpSeq_take (d := 69) rfl rfl (by kernel_rfl) (fun w hS => by go_simp <;> with_reducible rfl) ?_
         dsimp only [sZ, sS]
         refine wpSeq_done ?_
         refine NoPanic.normal ?_
         have HZ := Lib.hid (HQ.out.trans hH.2.2.2.2.2.2)
         have HA := Lib.hid (HT.out (by rfl))
         clear HF HT HQ cn cw cx cy cz cl hH
         go_wp2
         go_roundw
         case rel => exact ⟨i + 1, by have := HL.out; omega, by go_num, HA.out, HZ.out⟩
         case measure => have := HL.out; simp [intOf]; omega
    ·refine wp_region_noPanic ?_
     refine wp_region_seq (S := fun w' => w'.cell? ⟨H, 0, none⟩ = some (.slice (some a) d.ws.length ac) ∧ w'.cell? ⟨G, 0, none⟩ = some (.string N) ∧ w'.cell? ⟨G, 1, none⟩ = some (.int .i64 X) ∧ w'.cell? ⟨G, 2, none⟩ = some (.int .i64 Y) ∧ w'.cell? ⟨G, 3, none⟩ = some (.int .i64 Z) ∧ w'.cell? ⟨G, 4, none⟩ = some (.slice so sn sc) ∧ Q wo w') [(0, 0), (1, 0), (2, 2), (3, 0), (4, 0), (5, 0), (6, 0), (7, 0), (8, 0), (9, 0), (10, 0), (11, 0), (12, 2), (13, 0), (14, 0), (15, 1), (16, 1), (17, 1), (18, 1), (19, 0), (20, 0), (21, 1), (22, 1), (23, 1), (24, 1), (25, 0), (26, 0), (27, 1), (28, 1), (29, 1), (30, 1), (31, 0), (32, 0), (33, 1), (34, 1), (35, 1), (36, 1), (37, 0)] [0, 1, 2, 4, 12, 16, 48, 16, 208, 272, 16, 1040, 2576, 4112, 12288, 16384, 49152, 81920, 147456, 278528, 655360, 1048576, 3145728, 5242880, 9437184, 17825792, 41943040, 67108864, 201326592, 335544320, 603979776, 1140850688, 2684354560, 4294967296, 12884901888, 21474836480, 38654705664, 73014444032] [0, 1, 2, 4, 8, 16, 48, 16, 208, 272, 16, 1040, 2576, 4112, 8192, 16384, 49152, 81920, 147456, 278528, 524288, 1048576, 3145728, 5242880, 9437184, 17825792, 33554432, 67108864, 201326592, 335544320, 603979776, 1140850688, 2147483648, 4294967296, 12884901888, 21474836480, 38654705664, 73014444032] (by kernel_rfl) (by kernel_rfl) (fun _ _ _ _ _ h => h) ?_ (fun hH => ?_)
     ·exact ⟨qe.keep k0, qe.keep p0, qe.keep p1, qe.keep p2, qe.keep p3, qe.keep p4, qd⟩
     refine wpSeq_take (d := 32) rfl rfl (by kernel_rfl) (fun w hS => by go_simp <;> with_reducible rfl) ?_
     dsimp only [sZ, sS]
     refine wpSeq_take (d := 33) rfl rfl (by kernel_rfl) (fun w hS => by go_simp <;> with_reducible rfl) ?_
     dsimp only [sZ, sS]
     refine wpSeq_call rfl (by kernel_rfl) (fun K hK => ?_)
     go_simp
     (with_reducible refine (cn _).mono ?_)
     rintro e w' ⟨rfl, rfl⟩
     refine hK.out _ _ hH fun hH => ?_
     clear hK
     refine wpSeq_take (d := 35) rfl rfl (by kernel_rfl) (fun w hS => by go_simp <;> with_reducible rfl) ?_
     dsimp only [sZ, sS]
     refine wpSeq_take (d := 36) rfl rfl (by kernel_rfl) (fun w hS => by go_simp <;> with_reducible rfl) ?_
     dsimp only [sZ, sS]
     refine wpSeq_take (d := 37) rfl rfl (by kernel_rfl) (fun w hS => by go_simp <;> with_reducible rfl) ?_
     dsimp only [sZ, sS]
     refine wpSeq_take (d := 38) rfl rfl (by kernel_rfl) (fun w hS => by go_simp <;> with_reducible rfl) ?_
     dsimp only [sZ, sS]
     refine wpSeq_take (d := 39) rfl rfl (by kernel_rfl) (fun w hS => by go_simp <;> with_reducible rfl) ?_
     dsimp only [sZ, sS]
     refine wpSeq_take (d := 40) rfl rfl (by kernel_rfl) (fun w hS => by go_simp <;> with_reducible rfl) ?_
     dsimp only [sZ, sS]
     refine wpSeq_take (d := 41) rfl rfl (by kernel_rfl) (fun w hS => by go_simp <;> with_reducible rfl) ?_
     dsimp only [sZ, sS]
     refine wpSeq_take (d := 42) rfl rfl (by kernel_rfl) (fun w hS => by go_simp <;> with_reducible rfl) ?_
     dsimp only [sZ, sS]
     refine wpSeq_take (d := 43) rfl rfl (by kernel_rfl) (fun w hS => by go_simp <;> with_reducible rfl) ?_
     dsimp only [sZ, sS]
     refine wpSeq_call rfl (by kernel_rfl) (fun K hK => ?_)
     go_simp
     (with_reducible refine (cw _ hH.2.2.2.2.2.2).mono ?_)
     rintro e w' ⟨rfl, hq⟩
     refine hK.out _ _ ?_ (fun hH => ?_)
     ·exact ⟨hq.keep hH.1, hq.keep hH.2.1, hq.keep hH.2.2.1, hq.keep hH.2.2.2.1, hq.keep hH.2.2.2.2.1, hq.keep hH.2.2.2.2.2.1, hH.2.2.2.2.2.2.trans hq⟩
     clear hK
     refine wpSeq_take (d := 45) rfl rfl (by kernel_rfl) (fun w hS => by go_simp <;> with_reducible rfl) ?_
     dsimp only [sZ, sS]
     refine wpSeq_take (d := 46) rfl rfl (by kernel_rfl) (fun w hS => by go_simp <;> with_reducible rfl) ?_
     dsimp only [sZ, sS]
     refine wpSeq_pass (d := 47) rfl rfl (by kernel_rfl) ?_
     dsimp only [sZ, sS]
     refine wpSeq_pass (d := 48) rfl rfl (by kernel_rfl) ?_
     dsimp only [sZ, sS]
     refine wpSeq_pass (d := 49) rfl rfl (by kernel_rfl) ?_
     dsimp only [sZ, sS]
     refine wpSeq_pass (d := 50) rfl rfl (by kernel_rfl) ?_
     dsimp only [sZ, sS]
     refine wpSeq_take (d := 51) rfl rfl (by kernel_rfl) (fun w hS => by go_simp <;> with_reducible rfl) ?_
     dsimp only [sZ, sS]
     refine wpSeq_take (d := 52) rfl rfl (by kernel_rfl) (fun w hS => by go_simp <;> with_reducible rfl) ?_
     dsimp only [sZ, sS]
     refine wpSeq_pass (d := 53) rfl rfl (by kernel_rfl) ?_
     dsimp only [sZ, sS]
     refine wpSeq_pass (d := 54) rfl rfl (by kernel_rfl) ?_
     dsimp only [sZ, sS]
     refine wpSeq_pass (d := 55) rfl rfl (by kernel_rfl) ?_
     dsimp only [sZ, sS]
     refine wpSeq_pass (d := 56) rfl rfl (by kernel_rfl) ?_
     dsimp only [sZ, sS]
     refine wpSeq_take (d := 57) rfl rfl (by kernel_rfl) (fun w hS => by go_simp <;> with_reducible rfl) ?_
     dsimp only [sZ, sS]
     refine wpSeq_take (d := 58) rfl rfl (by kernel_rfl) (fun w hS => by go_simp <;> with_reducible rfl) ?_
     dsimp only [sZ, sS]
     refine wpSeq_pass (d := 59) rfl rfl (by kernel_rfl) ?_
     dsimp only [sZ, sS]
     refine wpSeq_pass (d := 60) rfl rfl (by kernel_rfl) ?_
     dsimp only [sZ, sS]
     refine wpSeq_pass (d := 61) rfl rfl (by kernel_rfl) ?_
     dsimp only [sZ, sS]
     refine wpSeq_pass (d := 62) rfl rfl (by kernel_rfl) ?_
     dsimp only [sZ, sS]
     refine wpSeq_take (d := 63) rfl rfl (by kernel_rfl) (fun w hS => by go_simp <;> with_reducible rfl) ?_
     dsimp only [sZ, sS]
     refine wpSeq_take (d := 64) rfl rfl (by kernel_rfl) (fun w hS => by go_simp <;> with_reducible rfl) ?_
     dsimp only [sZ, sS]
     refine wpSeq_pass (d := 65) rfl rfl (by kernel_rfl) ?_
     dsimp only [sZ, sS]
     refine wpSeq_pass (d := 66) rfl rfl (by kernel_rfl) ?_
     dsimp only [sZ, sS]
     refine wpSeq_pass (d := 67) rfl rfl (by kernel_rfl) ?_
     dsimp only [sZ, sS]
     refine wpSeq_pass (d := 68) rfl rfl (by kernel_rfl) ?_
     dsimp only [sZ, sS]
     refine wpSeq_take (d := 69) rfl rfl (by kernel_rfl) (fun w hS => by go_simp <;> with_reducible rfl) ?_
     dsimp only [sZ, sS]
     refine wpSeq_done ?_
     refine NoPanic.normal ?_
     have HZ := Lib.hid (HQ.out.trans hH.2.2.2.2.2.2)
     have HR := Lib.hid (HF.out (by simp))
     clear HF HT HQ
     go_wp2
     go_ret
     exact ⟨by rw [HR.out]; rfl, (hQ.out.trans HZ.out).b⟩
  ·have hlB : decide ((i : Int) < (d.ws.length : Int)) = false := decide_eq_false (by omega)
   have hWS := Lib.hid (apart_yes (ok := wareOk) (ws := d.ws) fun j F hF => hall j F hF (by obtain ⟨x, _⟩ := List.getElem?_eq_some_iff.1 hF; omega))
   clear hRW hall hi
   replace hQ := Lib.hid (hQ.out.trans hQi).b
   go_wp2
   clear hl hlB hQi
   go_loopw [5] (fun iv wr => ∃ i : Nat, i ≤ d.ts.length ∧ iv = .int .i64 i ∧ UpTo tipOk d.ts i ∧ B wo wr) (fun iv _ => d.ts.length + 1 - (intOf iv).toNat)
   case atStart => exact ⟨0, Nat.zero_le _, rfl, fun j _ _ hj => by omega, B.refl _⟩
   case round =>
    obtain ⟨i, hi, rfl, hall, hQi⟩ := hrel
    obtain ⟨wt, rfl⟩ : ∃ wt : World, wt = wr := ⟨_, rfl⟩
    replace k0 := hQi.keep k0
    replace k1 := hQi.keep k1
    replace k2 := hQi.keep k2
    replace hD := hD.keepB hQi
    by_cases hl : i < d.ts.length
    ·have hlB : decide ((i : Int) < (d.ts.length : Int)) = true := decide_eq_true (by omega)
     have hlI : (i : Int) < (d.ts.length : Int) := by omega
     have hi0 : (0 : Int) ≤ (i : Int) := by omega
     have wk1 : IntKind.i64.wrap ((i : Int) + 1) = (i : Int) + 1 := by rw [IntKind.wrap_i64]; omega
     obtain ⟨a, cap, e1, g8, g9, hr⟩ := hD.ts.at_ hl
     obtain ⟨rfl, _, rfl⟩ : bo = some a ∧ True ∧ bc = cap := by simpa using e1
     have htk := recs_take hD.ts (i := i) (by omega)
     have hle : i ≤ bc := by omega
     obtain ⟨F, hF⟩ : ∃ F, d.ts[i]? = some F := ⟨_, List.getElem?_eq_getElem hl⟩
     have hF2 : d.ts[i] = F := by rw [List.getElem?_eq_getElem hl] at hF; simpa using hF
     rw [hF2] at hr
     have hbad := fun e => hRT (apart_no hF e)
     have hgood := hall.next hF
     clear hF hF2 e1
     obtain ⟨N, X, Y, Z, SL⟩ := F
     obtain ⟨g1, g2, g3, g4, sv, g5, g6⟩ := hr
     simp only at g1 g2 g3 g4 g5 g6 hbad hgood
     have ct := fun w2 (q : B wt w2) => r8tipright_any N X Y Z sv SL w2 (g6.keepB q)
     have cw := fun w2 (q : B wt w2) => r8tnamed_any (.slice none 0 0) (.slice (some a) i bc) (.slice none 0 0) ⟨[], d.ts.take i, []⟩ N w2 ⟨.inl ⟨rfl, rfl⟩, htk.keepB q, .inl ⟨rfl, rfl⟩⟩
     obtain ⟨so, sc, rfl⟩ := secs_form g6
     rw [← tipB_ok] at hbad hgood
     generalize tipB N X Y Z SL = bt at *
     generalize namedW (d.ts.take i) N = bw at *
     have HF := Lib.hid hbad
     have HT := Lib.hid hgood
     have HL := Lib.hid hl
     obtain ⟨sn, hsn⟩ : ∃ sn, SL.length = sn := ⟨_, rfl⟩
     rw [hsn] at g5
     simp only [hsn] at ct
     have qe : B wt wt.drew := ((Q.refl wt).drew).b
     have HQ := Lib.hid (hQi)
     clear hbad hgood hl hi hall htk hD hsn g6 n8 n4 hRT hRF hQi
     go_wp2_with fail
     cases bt
     ·refine wp_region_noPanic ?_
      refine wp_region_seq (S := fun w' => w'.cell? (⟨H, 1, none⟩) = some (.slice (some a) d.ts.length bc) ∧ w'.cell? (a.add (i * 5)) = some (.string N) ∧ w'.cell? (⟨(a.add (i * 5)).block, (a.add (i * 5)).off + 1, none⟩) = some (.int .i64 X) ∧ w'.cell? (⟨(a.add (i * 5)).block, (a.add (i * 5)).off + 2, none⟩) = some (.int .i64 Y) ∧ w'.cell? (⟨(a.add (i * 5)).block, (a.add (i * 5)).off + 3, none⟩) = some (.int .i64 Z) ∧ w'.cell? (⟨(a.add (i * 5)).block, (a.add (i * 5)).off + 4, none⟩) = some (.slice so sn sc) ∧ B wt w') [(0, 0), (1, 0), (2, 0), (3, 0), (4, 0), (5, 2), (6, 0), (7, 0), (8, 1), (9, 1), (10, 1), (11, 1), (12, 1), (13, 1), (14, 1), (15, 1), (16, 1), (17, 1), (18, 1), (19, 1), (20, 0)] [0, 1, 0, 6, 8, 16, 32, 96, 128, 384, 128, 1664, 2176, 128, 8320, 128, 49280, 65664, 131200, 266368, 524416] [0, 1, 0, 6, 8, 16, 32, 64, 128, 384, 128, 1664, 2176, 128, 8320, 128, 49280, 65664, 131200, 266368, 524416] (by kernel_rfl) (by kernel_rfl) (fun _ _ _ _ _ h => h) ?_ (fun hH => ?_)
      ·exact ⟨qe.keep k1, qe.keep g1, qe.keep g2, qe.keep g3, qe.keep g4, qe.keep g5, qe⟩
      refine wpSeq_take (d := 77) rfl rfl (by kernel_rfl) (fun w hS => by go_simp <;> with_reducible rfl) ?_
      dsimp only [sZ, sS]
      refine wpSeq_take (d := 78) rfl rfl (by kernel_rfl) (fun w hS => by go_simp <;> with_reducible rfl) ?_
      dsimp only [sZ, sS]
      refine wpSeq_take (d := 79) rfl rfl (by kernel_rfl) (fun w hS => by go_simp <;> with_reducible rfl) ?_
      dsimp only [sZ, sS]
      refine wpSeq_take (d := 80) rfl rfl (by kernel_rfl) (fun w hS => by go_simp <;> with_reducible rfl) ?_
      dsimp only [sZ, sS]
      refine wpSeq_take (d := 81) rfl rfl (by kernel_rfl) (fun w hS => by go_simp <;> with_reducible rfl) ?_
      dsimp only [sZ, sS]
      refine wpSeq_call rfl (by kernel_rfl) (fun K hK => ?_)
      go_simp
      (with_reducible refine (ct _ hH.2.2.2.2.2.2).mono ?_)
      rintro e w' ⟨rfl, hq⟩
      refine hK.out _ _ ?_ (fun hH => ?_)
      ·exact ⟨hq.keep hH.1, hq.keep hH.2.1, hq.keep hH.2.2.1, hq.keep hH.2.2.2.1, hq.keep hH.2.2.2.2.1, hq.keep hH.2.2.2.2.2.1, hH.2.2.2.2.2.2.trans hq⟩
      clear hK
      refine wpSeq_take (d := 83) rfl rfl (by kernel_rfl) (fun w hS => by go_simp <;> with_reducible rfl) ?_
      dsimp only [sZ, sS]
      refine wpSeq_take (d := 84) rfl rfl (by kernel_rfl) (fun w hS => by go_simp <;> with_reducible rfl) ?_
      dsimp only [sZ, sS]
      refine wpSeq_pass (d := 85) rfl rfl (by kernel_rfl) ?_
      dsimp only [sZ, sS]
      refine wpSeq_pass (d := 86) rfl rfl (by kernel_rfl) ?_
      dsimp only [sZ, sS]
      refine wpSeq_pass (d := 87) rfl rfl (by kernel_rfl) ?_
      dsimp only [sZ, sS]
      refine wpSeq_pass (d := 88) rfl rfl (by kernel_rfl) ?_
      dsimp only [sZ, sS]
      refine wpSeq_pass (d := 89) rfl rfl (by kernel_rfl) ?_
      dsimp only [sZ, sS]
      refine wpSeq_pass (d := 90) rfl rfl (by kernel_rfl) ?_
      dsimp only [sZ, sS]
      refine wpSeq_pass (d := 91) rfl rfl (by kernel_rfl) ?_
      dsimp only [sZ, sS]
      refine wpSeq_pass (d := 92) rfl rfl (by kernel_rfl) ?_
      dsimp only [sZ, sS]
      refine wpSeq_pass (d := 93) rfl rfl (by kernel_rfl) ?_
      dsimp only [sZ, sS]
      refine wpSeq_pass (d := 94) rfl rfl (by kernel_rfl) ?_
      dsimp only [sZ, sS]
      refine wpSeq_pass (d := 95) rfl rfl (by kernel_rfl) ?_
      dsimp only [sZ, sS]
      refine wpSeq_pass (d := 96) rfl rfl (by kernel_rfl) ?_
      dsimp only [sZ, sS]
      refine wpSeq_take (d := 97) rfl rfl (by kernel_rfl) (fun w hS => by go_simp <;> with_reducible rfl) ?_
      dsimp only [sZ, sS]
      refine wpSeq_done ?_
      refine NoPanic.normal ?_
      have HZ := Lib.hid (HQ.out.trans hH.2.2.2.2.2.2)
      have HR := Lib.hid (HF.out (by simp))
      clear HF HT HQ cw ct hH
      go_wp2
      go_ret
      exact ⟨by rw [HR.out]; rfl, hQ.out.trans HZ.out⟩
     ·cases bw
      ·refine wp_region_noPanic ?_
       refine wp_region_seq (S := fun w' => w'.cell? (⟨H, 1, none⟩) = some (.slice (some a) d.ts.length bc) ∧ w'.cell? (a.add (i * 5)) = some (.string N) ∧ w'.cell? (⟨(a.add (i * 5)).block, (a.add (i * 5)).off + 1, none⟩) = some (.int .i64 X) ∧ w'.cell? (⟨(a.add (i * 5)).block, (a.add (i * 5)).off + 2, none⟩) = some (.int .i64 Y) ∧ w'.cell? (⟨(a.add (i * 5)).block, (a.add (i * 5)).off + 3, none⟩) = some (.int .i64 Z) ∧ w'.cell? (⟨(a.add (i * 5)).block, (a.add (i * 5)).off + 4, none⟩) = some (.slice so sn sc) ∧ B wt w') [(0, 0), (1, 0), (2, 0), (3, 0), (4, 0), (5, 2), (6, 0), (7, 0), (8, 0), (9, 0), (10, 0), (11, 0), (12, 0), (13, 0), (14, 0), (15, 0), (16, 0), (17, 0), (18, 0), (19, 2), (20, 0)] [0, 1, 0, 6, 8, 16, 32, 96, 128, 384, 128, 1664, 2176, 128, 8320, 128, 49280, 65664, 131200, 266368, 524416] [0, 1, 0, 6, 8, 16, 32, 64, 128, 384, 128, 1664, 2176, 128, 8320, 128, 49280, 65664, 131200, 266368, 524416] (by kernel_rfl) (by kernel_rfl) (fun _ _ _ _ _ h => h) ?_ (fun hH => ?_)
       ·exact ⟨qe.keep k1, qe.keep g1, qe.keep g2, qe.keep g3, qe.keep g4, qe.keep g5, qe⟩
       refine wpSeq_take (d := 77) rfl rfl (by kernel_rfl) (fun w hS => by go_simp <;> with_reducible rfl) ?_
       dsimp only [sZ, sS]
       refine wpSeq_take (d := 78) rfl rfl (by kernel_rfl) (fun w hS => by go_simp <;> with_reducible rfl) ?_
       dsimp only [sZ, sS]
       refine wpSeq_take (d := 79) rfl rfl (by kernel_rfl) (fun w hS => by go_simp <;> with_reducible rfl) ?_
       dsimp only [sZ, sS]
       refine wpSeq_take (d := 80) rfl rfl (by kernel_rfl) (fun w hS => by go_simp <;> with_reducible rfl) ?_
       dsimp only [sZ, sS]
       refine wpSeq_take (d := 81) rfl rfl (by kernel_rfl) (fun w hS => by go_simp <;> with_reducible rfl) ?_
       dsimp only [sZ, sS]
       refine wpSeq_call rfl (by kernel_rfl) (fun K hK => ?_)
       go_simp
       (with_reducible refine (ct _ hH.2.2.2.2.2.2).mono ?_)
       rintro e w' ⟨rfl, hq⟩
       refine hK.out _ _ ?_ (fun hH => ?_)
       ·exact ⟨hq.keep hH.1, hq.keep hH.2.1, hq.keep hH.2.2.1, hq.keep hH.2.2.2.1, hq.keep hH.2.2.2.2.1, hq.keep hH.2.2.2.2.2.1, hH.2.2.2.2.2.2.trans hq⟩
       clear hK
       refine wpSeq_take (d := 83) rfl rfl (by kernel_rfl) (fun w hS => by go_simp <;> with_reducible rfl) ?_
       dsimp only [sZ, sS]
       refine wpSeq_take (d := 84) rfl rfl (by kernel_rfl) (fun w hS => by go_simp <;> with_reducible rfl) ?_
       dsimp only [sZ, sS]
       refine wpSeq_take (d := 85) rfl rfl (by kernel_rfl) (fun w hS => by go_simp <;> with_reducible rfl) ?_
       dsimp only [sZ, sS]
       refine wpSeq_take (d := 86) rfl rfl (by kernel_rfl) (fun w hS => by go_simp <;> with_reducible rfl) ?_
       dsimp only [sZ, sS]
       refine wpSeq_take (d := 87) rfl rfl (by kernel_rfl) (fun w hS => by go_simp <;> with_reducible rfl) ?_
       dsimp only [sZ, sS]
       refine wpSeq_take (d := 88) rfl rfl (by kernel_rfl) (fun w hS => by go_simp <;> with_reducible rfl) ?_
       dsimp only [sZ, sS]
       refine wpSeq_take (d := 89) rfl rfl (by kernel_rfl) (fun w hS => by go_simp <;> with_reducible rfl) ?_
       dsimp only [sZ, sS]
       refine wpSeq_take (d := 90) rfl rfl (by kernel_rfl) (fun w hS => by go_simp <;> with_reducible rfl) ?_
       dsimp only [sZ, sS]
       refine wpSeq_take (d := 91) rfl rfl (by kernel_rfl) (fun w hS => by go_simp <;> with_reducible rfl) ?_
       dsimp only [sZ, sS]
       refine wpSeq_take (d := 92) rfl rfl (by kernel_rfl) (fun w hS => by go_simp <;> with_reducible rfl) ?_
       dsimp only [sZ, sS]
       refine wpSeq_take (d := 93) rfl rfl (by kernel_rfl) (fun w hS => by go_simp <;> with_reducible rfl) ?_
       dsimp only [sZ, sS]
       refine wpSeq_take (d := 94) rfl rfl (by kernel_rfl) (fun w hS => by go_simp <;> with_reducible rfl) ?_
       dsimp only [sZ, sS]
       refine wpSeq_take (d := 95) rfl rfl (by kernel_rfl) (fun w hS => by go_simp <;> with_reducible rfl) ?_
       dsimp only [sZ, sS]
       refine wpSeq_call rfl (by kernel_rfl) (fun K hK => ?_)
       go_simp
       (with_reducible refine (cw _ hH.2.2.2.2.2.2).mono ?_)
       rintro e w' ⟨rfl, hq⟩
       refine hK.out _ _ ?_ (fun hH => ?_)
       ·exact ⟨hq.b.keep hH.1, hq.b.keep hH.2.1, hq.b.keep hH.2.2.1, hq.b.keep hH.2.2.2.1, hq.b.keep hH.2.2.2.2.1, hq.b.keep hH.2.2.2.2.2.1, hH.2.2.2.2.2.2.trans hq.b⟩
       clear hK
       refine wpSeq_take (d := 97) rfl rfl (by kernel_rfl) (fun w hS => by go_simp <;> with_reducible rfl) ?_
       dsimp only [sZ, sS]
       refine wpSeq_done ?_
       refine NoPanic.normal ?_
       have HZ := Lib.hid (HQ.out.trans hH.2.2.2.2.2.2)
       have HA := Lib.hid (HT.out (by rfl))
       clear HF HT HQ cw ct hH
       go_wp2
       go_roundw
       case rel => exact ⟨i + 1, by have := HL.out; omega, by go_num, HA.out, HZ.out⟩
       case measure => have := HL.out; simp [intOf]; omega
      ·refine wp_region_noPanic ?_
       refine wp_region_seq (S := fun w' => w'.cell? (⟨H, 1, none⟩) = some (.slice (some a) d.ts.length bc) ∧ w'.cell? (a.add (i * 5)) = some (.string N) ∧ w'.cell? (⟨(a.add (i * 5)).block, (a.add (i * 5)).off + 1, none⟩) = some (.int .i64 X) ∧ w'.cell? (⟨(a.add (i * 5)).block, (a.add (i * 5)).off + 2, none⟩) = some (.int .i64 Y) ∧ w'.cell? (⟨(a.add (i * 5)).block, (a.add (i * 5)).off + 3, none⟩) = some (.int .i64 Z) ∧ w'.cell? (⟨(a.add (i * 5)).block, (a.add (i * 5)).off + 4, none⟩) = some (.slice so sn sc) ∧ B wt w') [(0, 0), (1, 0), (2, 0), (3, 0), (4, 0), (5, 2), (6, 0), (7, 0), (8, 0), (9, 0), (10, 0), (11, 0), (12, 0), (13, 0), (14, 0), (15, 0), (16, 0), (17, 0), (18, 0), (19, 2), (20, 0)] [0, 1, 0, 6, 8, 16, 32, 96, 128, 384, 128, 1664, 2176, 128, 8320, 128, 49280, 65664, 131200, 266368, 524416] [0, 1, 0, 6, 8, 16, 32, 64, 128, 384, 128, 1664, 2176, 128, 8320, 128, 49280, 65664, 131200, 266368, 524416] (by kernel_rfl) (by kernel_rfl) (fun _ _ _ _ _ h => h) ?_ (fun hH => ?_)
       ·exact ⟨qe.keep k1, qe.keep g1, qe.keep g2, qe.keep g3, qe.keep g4, qe.keep g5, qe⟩
       refine wpSeq_take (d := 77) rfl rfl (by kernel_rfl) (fun w hS => by go_simp <;> with_reducible rfl) ?_
       dsimp only [sZ, sS]
       refine wpSeq_take (d := 78) rfl rfl (by kernel_rfl) (fun w hS => by go_simp <;> with_reducible rfl) ?_
       dsimp only [sZ, sS]
       refine wpSeq_take (d := 79) rfl rfl (by kernel_rfl) (fun w hS => by go_simp <;> with_reducible rfl) ?_
       dsimp only [sZ, sS]
       refine wpSeq_take (d := 80) rfl rfl (by kernel_rfl) (fun w hS => by go_simp <;> with_reducible rfl) ?_
       dsimp only [sZ, sS]
       refine wpSeq_take (d := 81) rfl rfl (by kernel_rfl) (fun w hS => by go_simp <;> with_reducible rfl) ?_
       dsimp only [sZ, sS]
       refine wpSeq_call rfl (by kernel_rfl) (fun K hK => ?_)
       go_simp
       (with_reducible refine (ct _ hH.2.2.2.2.2.2).mono ?_)
       rintro e w' ⟨rfl, hq⟩
       refine hK.out _ _ ?_ (fun hH => ?_)
       ·exact ⟨hq.keep hH.1, hq.keep hH.2.1, hq.keep hH.2.2.1, hq.keep hH.2.2.2.1, hq.keep hH.2.2.2.2.1, hq.keep hH.2.2.2.2.2.1, hH.2.2.2.2.2.2.trans hq⟩
       clear hK
       refine wpSeq_take (d := 83) rfl rfl (by kernel_rfl) (fun w hS => by go_simp <;> with_reducible rfl) ?_
       dsimp only [sZ, sS]
       refine wpSeq_take (d := 84) rfl rfl (by kernel_rfl) (fun w hS => by go_simp <;> with_reducible rfl) ?_
       dsimp only [sZ, sS]
       refine wpSeq_take (d := 85) rfl rfl (by kernel_rfl) (fun w hS => by go_simp <;> with_reducible rfl) ?_
       dsimp only [sZ, sS]
       refine wpSeq_take (d := 86) rfl rfl (by kernel_rfl) (fun w hS => by go_simp <;> with_reducible rfl) ?_
       dsimp only [sZ, sS]
       refine wpSeq_take (d := 87) rfl rfl (by kernel_rfl) (fun w hS => by go_simp <;> with_reducible rfl) ?_
       dsimp only [sZ, sS]
       refine wpSeq_take (d := 88) rfl rfl (by kernel_rfl) (fun w hS => by go_simp <;> with_reducible rfl) ?_
       dsimp only [sZ, sS]
       refine wpSeq_take (d := 89) rfl rfl (by kernel_rfl) (fun w hS => by go_simp <;> with_reducible rfl) ?_
       dsimp only [sZ, sS]
       refine wpSeq_take (d := 90) rfl rfl (by kernel_rfl) (fun w hS => by go_simp <;> with_reducible rfl) ?_
       dsimp only [sZ, sS]
       refine wpSeq_take (d := 91) rfl rfl (by kernel_rfl) (fun w hS => by go_simp <;> with_reducible rfl) ?_
       dsimp only [sZ, sS]
       refine wpSeq_take (d := 92) rfl rfl (by kernel_rfl) (fun w hS => by go_simp <;> with_reducible rfl) ?_
       dsimp only [sZ, sS]
       refine wpSeq_take (d := 93) rfl rfl (by kernel_rfl) (fun w hS => by go_simp <;> with_reducible rfl) ?_
       dsimp only [sZ, sS]
       refine wpSeq_take (d := 94) rfl rfl (by kernel_rfl) (fun w hS => by go_simp <;> with_reducible rfl) ?_
       dsimp only [sZ, sS]
       refine wpSeq_take (d := 95) rfl rfl (by kernel_rfl) (fun w hS => by go_simp <;> with_reducible rfl) ?_
       dsimp only [sZ, sS]
       refine wpSeq_call rfl (by kernel_rfl) (fun K hK => ?_)
       go_simp
       (with_reducible refine (cw _ hH.2.2.2.2.2.2).mono ?_)
       rintro e w' ⟨rfl, hq⟩
       refine hK.out _ _ ?_ (fun hH => ?_)
       ·exact ⟨hq.b.keep hH.1, hq.b.keep hH.2.1, hq.b.keep hH.2.2.1, hq.b.keep hH.2.2.2.1, hq.b.keep hH.2.2.2.2.1, hq.b.keep hH.2.2.2.2.2.1, hH.2.2.2.2.2.2.trans hq.b⟩
       clear hK
       refine wpSeq_take (d := 97) rfl rfl (by kernel_rfl) (fun w hS => by go_simp <;> with_reducible rfl) ?_
       dsimp only [sZ, sS]
       refine wpSeq_done ?_
       refine NoPanic.normal ?_
       have HZ := Lib.hid (HQ.out.trans hH.2.2.2.2.2.2)
       have HR := Lib.hid (HF.out (by simp))
       clear HF HT HQ cw ct hH
       go_wp2
       go_ret
       exact ⟨by rw [HR.out]; rfl, hQ.out.trans HZ.out⟩
    ·have hlB : decide ((i : Int) < (d.ts.length : Int)) = false := decide_eq_false (by omega)
     have hTS := apart_yes (ok := tipOk) (ws := d.ts) fun j F hF => hall j F hF (by obtain ⟨x, _⟩ := List.getElem?_eq_some_iff.1 hF; omega)
     have hR := hRF hWS.out hTS
     have hwb := wares_in hWS.out
     have hlen := hD.fs.len
     clear hRT hRF hTS hWS hall hi
     replace hQ := Lib.hid (hQ.out.trans hQi)
     go_wp2
     clear hl hlB hQi
     go_loopw [6] (fun iv wr => ∃ i : Nat, i ≤ d.fs.length ∧ iv = .int .i64 i ∧ FlTo d.ws d.fs i ∧ B wt wr) (fun iv _ => d.fs.length + 1 - (intOf iv).toNat)
     case atStart => exact ⟨0, Nat.zero_le _, rfl, fun j _ _ hj => by omega, B.refl _⟩
     case round =>
      obtain ⟨i, hi, rfl, hall, hQi⟩ := hrel
      obtain ⟨wf, rfl⟩ : ∃ wf : World, wf = wr := ⟨_, rfl⟩
      replace k0 := hQi.keep k0
      replace k1 := hQi.keep k1
      replace k2 := hQi.keep k2
      replace hD := hD.keepB hQi
      by_cases hl : i < d.fs.length
      ·have hlB : decide ((i : Int) < (d.fs.length : Int)) = true := decide_eq_true (by omega)
       have hlI : (i : Int) < (d.fs.length : Int) := by omega
       have hi0 : (0 : Int) ≤ (i : Int) := by omega
       have wk1 : IntKind.i64.wrap ((i : Int) + 1) = (i : Int) + 1 := by rw [IntKind.wrap_i64]; omega
       obtain ⟨a, cap, e1, g8, g9, hr⟩ := hD.fs.at_ hl
       obtain ⟨rfl, _, rfl⟩ : co = some a ∧ True ∧ cc = cap := by simpa using e1
       have htk := fls_take hD.fs (i := i) (by omega)
       have hle : i ≤ cc := by omega
       obtain ⟨F, hF⟩ : ∃ F, d.fs[i]? = some F := ⟨_, List.getElem?_eq_getElem hl⟩
       have hF2 : d.fs[i] = F := by rw [List.getElem?_eq_getElem hl] at hF; simpa using hF
       rw [hF2] at hr
       have hbad := fun e => hR.trans (fl_no hF e)
       have hgood := hall.next hF
       clear hF hF2 e1
       obtain ⟨N, r, c, V⟩ := F
       obtain ⟨g1, g2, g3, g4⟩ := hr
       simp only at g1 g2 g3 g4 hbad hgood
       have cix := fun w2 (q : B wf w2) => r8index_any _ _ _ d N r c w2 (hD.keepB q) hwb (by omega)
       have ci := fun w => r8in_any V 0 20000000 w
       have cf := fun w2 (q : B wf w2) => r8filled_any (.slice none 0 0) (.slice none 0 0) (.slice (some a) i cc) ⟨[], [], d.fs.take i⟩ N r c w2 ⟨.inl ⟨rfl, rfl⟩, .inl ⟨rfl, rfl⟩, htk.keepB q⟩
       generalize hasW d.ws N r c = bh at *
       generalize (indexW d.ws 0 N r c).getD 0 = ix at *
       generalize inB V 0 20000000 = bi at *
       generalize filledW (d.fs.take i) N r c = bf at *
       have HF := Lib.hid hbad
       have HT := Lib.hid hgood
       have HL := Lib.hid hl
       have HQ := Lib.hid (hQi)
       have qa := (Q.refl wf).alloc #[.string N, .int .i64 r, .int .i64 c, .int .i64 V] 41
       obtain ⟨W1, hW1⟩ : ∃ W1, wf.alloc (.cells #[.string N, .int .i64 r, .int .i64 c, .int .i64 V] 41) = W1 := ⟨_, rfl⟩
       have p0 : W1.cell? ⟨wf.heap.size, 0, none⟩ = some (.string N) := by rw [← hW1, World.cell?_alloc_new]; rfl
       have p1 : W1.cell? ⟨wf.heap.size, 1, none⟩ = some (.int .i64 r) := by rw [← hW1, World.cell?_alloc_new]; rfl
       have p2 : W1.cell? ⟨wf.heap.size, 2, none⟩ = some (.int .i64 c) := by rw [← hW1, World.cell?_alloc_new]; rfl
       have p3 : W1.cell? ⟨wf.heap.size, 3, none⟩ = some (.int .i64 V) := by rw [← hW1, World.cell?_alloc_new]; rfl
       have m0 := qa.keep k0
       have m1 := qa.keep k1
       have m2 := qa.keep k2
       rw [hW1] at qa m0 m1 m2
       have cx := cix W1 qa.b
       clear cix hbad hgood hl hi hall htk hD n8 n4 hQi hwb hR hlen
       go_wp2_with fail
       try rw [hW1]
       clear hW1 k0 k1 k2 g1 g2 g3 g4
       generalize wf.heap.size = G at *
       refine (Calls.mono cx ?_)
       rintro _ w2 ⟨rfl, q3⟩
       have k2 := q3.keep m2
       replace p0 := q3.keep p0
       replace p1 := q3.keep p1
       replace p2 := q3.keep p2
       replace p3 := q3.keep p3
       have qd : B wf w2.drew := (qa.b.trans q3.b).trans ((Q.refl w2).drew).b
       have qe : B w2 w2.drew := ((Q.refl w2).drew).b
       clear q3 qa m0 m1 m2 cx
       go_wp2_with fail
       cases bh
       ·refine wp_region_noPanic ?_
        refine wp_region_seq (S := fun w' => w'.cell? (⟨H, 2, none⟩) = some (.slice (some a) d.fs.length cc) ∧ w'.cell? (⟨G, 0, none⟩) = some (.string N) ∧ w'.cell? (⟨G, 1, none⟩) = some (.int .i64 r) ∧ w'.cell? (⟨G, 2, none⟩) = some (.int .i64 c) ∧ w'.cell? (⟨G, 3, none⟩) = some (.int .i64 V) ∧ B wf w') [(0, 0), (1, 0), (2, 0), (3, 1), (4, 1), (5, 1), (6, 1), (7, 0), (8, 0), (9, 1), (10, 1), (11, 1), (12, 1), (13, 1), (14, 1), (15, 1), (16, 1), (17, 0)] [0, 1, 2, 4, 12, 20, 36, 68, 160, 256, 768, 256, 3328, 4352, 256, 16640, 41216, 65792] [0, 1, 2, 4, 12, 20, 36, 68, 128, 256, 768, 256, 3328, 4352, 256, 16640, 41216, 65792] (by kernel_rfl) (by kernel_rfl) (fun _ _ _ _ _ h => h) ?_ (fun hH => ?_)
        ·exact ⟨qe.keep k2, qe.keep p0, qe.keep p1, qe.keep p2, qe.keep p3, qd⟩
        refine wpSeq_take (d := 117) rfl rfl (by kernel_rfl) (fun w hS => by go_simp <;> with_reducible rfl) ?_
        dsimp only [sZ, sS]
        refine wpSeq_take (d := 118) rfl rfl (by kernel_rfl) (fun w hS => by go_simp <;> with_reducible rfl) ?_
        dsimp only [sZ, sS]
        refine wpSeq_take (d := 119) rfl rfl (by kernel_rfl) (fun w hS => by go_simp <;> with_reducible rfl) ?_
        dsimp only [sZ, sS]
        refine wpSeq_pass (d := 120) rfl rfl (by kernel_rfl) ?_
        dsimp only [sZ, sS]
        refine wpSeq_pass (d := 121) rfl rfl (by kernel_rfl) ?_
        dsimp only [sZ, sS]
        refine wpSeq_pass (d := 122) rfl rfl (by kernel_rfl) ?_
        dsimp only [sZ, sS]
        refine wpSeq_pass (d := 123) rfl rfl (by kernel_rfl) ?_
        dsimp only [sZ, sS]
        refine wpSeq_take (d := 124) rfl rfl (by kernel_rfl) (fun w hS => by go_simp <;> with_reducible rfl) ?_
        dsimp only [sZ, sS]
        refine wpSeq_take (d := 125) rfl rfl (by kernel_rfl) (fun w hS => by go_simp <;> with_reducible rfl) ?_
        dsimp only [sZ, sS]
        refine wpSeq_pass (d := 126) rfl rfl (by kernel_rfl) ?_
        dsimp only [sZ, sS]
        refine wpSeq_pass (d := 127) rfl rfl (by kernel_rfl) ?_
        dsimp only [sZ, sS]
        refine wpSeq_pass (d := 128) rfl rfl (by kernel_rfl) ?_
        dsimp only [sZ, sS]
        refine wpSeq_pass (d := 129) rfl rfl (by kernel_rfl) ?_
        dsimp only [sZ, sS]
        refine wpSeq_pass (d := 130) rfl rfl (by kernel_rfl) ?_
        dsimp only [sZ, sS]
        refine wpSeq_pass (d := 131) rfl rfl (by kernel_rfl) ?_
        dsimp only [sZ, sS]
        refine wpSeq_pass (d := 132) rfl rfl (by kernel_rfl) ?_
        dsimp only [sZ, sS]
        refine wpSeq_pass (d := 133) rfl rfl (by kernel_rfl) ?_
        dsimp only [sZ, sS]
        refine wpSeq_take (d := 134) rfl rfl (by kernel_rfl) (fun w hS => by go_simp <;> with_reducible rfl) ?_
        dsimp only [sZ, sS]
        refine wpSeq_done ?_
        refine NoPanic.normal ?_
        have HZ := Lib.hid (HQ.out.trans hH.2.2.2.2.2)
        have HR := Lib.hid (HF.out (by simp))
        clear HF HT HQ cf ci hH
        go_wp2
        go_ret
        exact ⟨by rw [HR.out]; rfl, hQ.out.trans HZ.out⟩
       ·cases bi
        ·refine wp_region_noPanic ?_
         refine wp_region_seq (S := fun w' => w'.cell? (⟨H, 2, none⟩) = some (.slice (some a) d.fs.length cc) ∧ w'.cell? (⟨G, 0, none⟩) = some (.string N) ∧ w'.cell? (⟨G, 1, none⟩) = some (.int .i64 r) ∧ w'.cell? (⟨G, 2, none⟩) = some (.int .i64 c) ∧ w'.cell? (⟨G, 3, none⟩) = some (.int .i64 V) ∧ B wf w') [(0, 0), (1, 0), (2, 0), (3, 0), (4, 0), (5, 2), (6, 0), (7, 0), (8, 0), (9, 1), (10, 1), (11, 1), (12, 1), (13, 1), (14, 1), (15, 1), (16, 1), (17, 0)] [0, 1, 2, 4, 12, 20, 36, 68, 160, 256, 768, 256, 3328, 4352, 256, 16640, 41216, 65792] [0, 1, 2, 4, 12, 20, 36, 68, 128, 256, 768, 256, 3328, 4352, 256, 16640, 41216, 65792] (by kernel_rfl) (by kernel_rfl) (fun _ _ _ _ _ h => h) ?_ (fun hH => ?_)
         ·exact ⟨qe.keep k2, qe.keep p0, qe.keep p1, qe.keep p2, qe.keep p3, qd⟩
         refine wpSeq_take (d := 117) rfl rfl (by kernel_rfl) (fun w hS => by go_simp <;> with_reducible rfl) ?_
         dsimp only [sZ, sS]
         refine wpSeq_take (d := 118) rfl rfl (by kernel_rfl) (fun w hS => by go_simp <;> with_reducible rfl) ?_
         dsimp only [sZ, sS]
         refine wpSeq_take (d := 119) rfl rfl (by kernel_rfl) (fun w hS => by go_simp <;> with_reducible rfl) ?_
         dsimp only [sZ, sS]
         refine wpSeq_take (d := 120) rfl rfl (by kernel_rfl) (fun w hS => by go_simp <;> with_reducible rfl) ?_
         dsimp only [sZ, sS]
         refine wpSeq_take (d := 121) rfl rfl (by kernel_rfl) (fun w hS => by go_simp <;> with_reducible rfl) ?_
         dsimp only [sZ, sS]
         refine wpSeq_call rfl (by kernel_rfl) (fun K hK => ?_)
         go_simp
         (with_reducible refine (ci _).mono ?_)
         rintro e w' ⟨rfl, rfl⟩
         refine hK.out _ _ hH fun hH => ?_
         clear hK
         refine wpSeq_take (d := 123) rfl rfl (by kernel_rfl) (fun w hS => by go_simp <;> with_reducible rfl) ?_
         dsimp only [sZ, sS]
         refine wpSeq_take (d := 124) rfl rfl (by kernel_rfl) (fun w hS => by go_simp <;> with_reducible rfl) ?_
         dsimp only [sZ, sS]
         refine wpSeq_take (d := 125) rfl rfl (by kernel_rfl) (fun w hS => by go_simp <;> with_reducible rfl) ?_
         dsimp only [sZ, sS]
         refine wpSeq_pass (d := 126) rfl rfl (by kernel_rfl) ?_
         dsimp only [sZ, sS]
         refine wpSeq_pass (d := 127) rfl rfl (by kernel_rfl) ?_
         dsimp only [sZ, sS]
         refine wpSeq_pass (d := 128) rfl rfl (by kernel_rfl) ?_
         dsimp only [sZ, sS]
         refine wpSeq_pass (d := 129) rfl rfl (by kernel_rfl) ?_
         dsimp only [sZ, sS]
         refine wpSeq_pass (d := 130) rfl rfl (by kernel_rfl) ?_
         dsimp only [sZ, sS]
         refine wpSeq_pass (d := 131) rfl rfl (by kernel_rfl) ?_
         dsimp only [sZ, sS]
         refine wpSeq_pass (d := 132) rfl rfl (by kernel_rfl) ?_
         dsimp only [sZ, sS]
         refine wpSeq_pass (d := 133) rfl rfl (by kernel_rfl) ?_
         dsimp only [sZ, sS]
         refine wpSeq_take (d := 134) rfl rfl (by kernel_rfl) (fun w hS => by go_simp <;> with_reducible rfl) ?_
         dsimp only [sZ, sS]
         refine wpSeq_done ?_
         refine NoPanic.normal ?_
         have HZ := Lib.hid (HQ.out.trans hH.2.2.2.2.2)
         have HR := Lib.hid (HF.out (by simp))
         clear HF HT HQ cf ci hH
         go_wp2
         go_ret
         exact ⟨by rw [HR.out]; rfl, hQ.out.trans HZ.out⟩
        ·cases bf
         ·refine wp_region_noPanic ?_
          refine wp_region_seq (S := fun w' => w'.cell? (⟨H, 2, none⟩) = some (.slice (some a) d.fs.length cc) ∧ w'.cell? (⟨G, 0, none⟩) = some (.string N) ∧ w'.cell? (⟨G, 1, none⟩) = some (.int .i64 r) ∧ w'.cell? (⟨G, 2, none⟩) = some (.int .i64 c) ∧ w'.cell? (⟨G, 3, none⟩) = some (.int .i64 V) ∧ B wf w') [(0, 0), (1, 0), (2, 0), (3, 0), (4, 0), (5, 2), (6, 0), (7, 0), (8, 0), (9, 0), (10, 0), (11, 0), (12, 0), (13, 0), (14, 0), (15, 0), (16, 2), (17, 0)] [0, 1, 2, 4, 12, 20, 36, 68, 160, 256, 768, 256, 3328, 4352, 256, 16640, 41216, 65792] [0, 1, 2, 4, 12, 20, 36, 68, 128, 256, 768, 256, 3328, 4352, 256, 16640, 41216, 65792] (by kernel_rfl) (by kernel_rfl) (fun _ _ _ _ _ h => h) ?_ (fun hH => ?_)
          ·exact ⟨qe.keep k2, qe.keep p0, qe.keep p1, qe.keep p2, qe.keep p3, qd⟩
          refine wpSeq_take (d := 117) rfl rfl (by kernel_rfl) (fun w hS => by go_simp <;> with_reducible rfl) ?_
          dsimp only [sZ, sS]
          refine wpSeq_take (d := 118) rfl rfl (by kernel_rfl) (fun w hS => by go_simp <;> with_reducible rfl) ?_
          dsimp only [sZ, sS]
          refine wpSeq_take (d := 119) rfl rfl (by kernel_rfl) (fun w hS => by go_simp <;> with_reducible rfl) ?_
          dsimp only [sZ, sS]
          refine wpSeq_take (d := 120) rfl rfl (by kernel_rfl) (fun w hS => by go_simp <;> with_reducible rfl) ?_
          dsimp only [sZ, sS]
          refine wpSeq_take (d := 121) rfl rfl (by kernel_rfl) (fun w hS => by go_simp <;> with_reducible rfl) ?_
          dsimp only [sZ, sS]
          refine wpSeq_call rfl (by kernel_rfl) (fun K hK => ?_)
          go_simp
          (with_reducible refine (ci _).mono ?_)
          rintro e w' ⟨rfl, rfl⟩
          refine hK.out _ _ hH fun hH => ?_
          clear hK
          refine wpSeq_take (d := 123) rfl rfl (by kernel_rfl) (fun w hS => by go_simp <;> with_reducible rfl) ?_
          dsimp only [sZ, sS]
          refine wpSeq_take (d := 124) rfl rfl (by kernel_rfl) (fun w hS => by go_simp <;> with_reducible rfl) ?_
          dsimp only [sZ, sS]
          refine wpSeq_take (d := 125) rfl rfl (by kernel_rfl) (fun w hS => by go_simp <;> with_reducible rfl) ?_
          dsimp only [sZ, sS]
          refine wpSeq_take (d := 126) rfl rfl (by kernel_rfl) (fun w hS => by go_simp <;> with_reducible rfl) ?_
          dsimp only [sZ, sS]
          refine wpSeq_take (d := 127) rfl rfl (by kernel_rfl) (fun w hS => by go_simp <;> with_reducible rfl) ?_
          dsimp only [sZ, sS]
          refine wpSeq_take (d := 128) rfl rfl (by kernel_rfl) (fun w hS => by go_simp <;> with_reducible rfl) ?_
          dsimp only [sZ, sS]
          refine wpSeq_take (d := 129) rfl rfl (by kernel_rfl) (fun w hS => by go_simp <;> with_reducible rfl) ?_
          dsimp only [sZ, sS]
          refine wpSeq_take (d := 130) rfl rfl (by kernel_rfl) (fun w hS => by go_simp <;> with_reducible rfl) ?_
          dsimp only [sZ, sS]
          refine wpSeq_take (d := 131) rfl rfl (by kernel_rfl) (fun w hS => by go_simp <;> with_reducible rfl) ?_
          dsimp only [sZ, sS]
          refine wpSeq_take (d := 132) rfl rfl (by kernel_rfl) (fun w hS => by go_simp <;> with_reducible rfl) ?_
          dsimp only [sZ, sS]
          refine wpSeq_call rfl (by kernel_rfl) (fun K hK => ?_)
          go_simp
          (with_reducible refine (cf _ hH.2.2.2.2.2).mono ?_)
          rintro e w' ⟨rfl, hq⟩
          refine hK.out _ _ ?_ (fun hH => ?_)
          ·exact ⟨hq.keep hH.1, hq.keep hH.2.1, hq.keep hH.2.2.1, hq.keep hH.2.2.2.1, hq.keep hH.2.2.2.2.1, hH.2.2.2.2.2.trans hq.b⟩
          clear hK
          refine wpSeq_take (d := 134) rfl rfl (by kernel_rfl) (fun w hS => by go_simp <;> with_reducible rfl) ?_
          dsimp only [sZ, sS]
          refine wpSeq_done ?_
          refine NoPanic.normal ?_
          have HZ := Lib.hid (HQ.out.trans hH.2.2.2.2.2)
          have HA := Lib.hid (HT.out (by rfl))
          clear HF HT HQ cf ci hH
          go_wp2
          go_roundw
          case rel => exact ⟨i + 1, by have := HL.out; omega, by go_num, HA.out, HZ.out⟩
          case measure => have := HL.out; simp [intOf]; omega
         ·refine wp_region_noPanic ?_
          refine wp_region_seq (S := fun w' => w'.cell? (⟨H, 2, none⟩) = some (.slice (some a) d.fs.length cc) ∧ w'.cell? (⟨G, 0, none⟩) = some (.string N) ∧ w'.cell? (⟨G, 1, none⟩) = some (.int .i64 r) ∧ w'.cell? (⟨G, 2, none⟩) = some (.int .i64 c) ∧ w'.cell? (⟨G, 3, none⟩) = some (.int .i64 V) ∧ B wf w') [(0, 0), (1, 0), (2, 0), (3, 0), (4, 0), (5, 2), (6, 0), (7, 0), (8, 0), (9, 0), (10, 0), (11, 0), (12, 0), (13, 0), (14, 0), (15, 0), (16, 2), (17, 0)] [0, 1, 2, 4, 12, 20, 36, 68, 160, 256, 768, 256, 3328, 4352, 256, 16640, 41216, 65792] [0, 1, 2, 4, 12, 20, 36, 68, 128, 256, 768, 256, 3328, 4352, 256, 16640, 41216, 65792] (by kernel_rfl) (by kernel_rfl) (fun _ _ _ _ _ h => h) ?_ (fun hH => ?_)
          ·exact ⟨qe.keep k2, qe.keep p0, qe.keep p1, qe.keep p2, qe.keep p3, qd⟩
          refine wpSeq_take (d := 117) rfl rfl (by kernel_rfl) (fun w hS => by go_simp <;> with_reducible rfl) ?_
          dsimp only [sZ, sS]
          refine wpSeq_take (d := 118) rfl rfl (by kernel_rfl) (fun w hS => by go_simp <;> with_reducible rfl) ?_
          dsimp only [sZ, sS]
          refine wpSeq_take (d := 119) rfl rfl (by kernel_rfl) (fun w hS => by go_simp <;> with_reducible rfl) ?_
          dsimp only [sZ, sS]
          refine wpSeq_take (d := 120) rfl rfl (by kernel_rfl) (fun w hS => by go_simp <;> with_reducible rfl) ?_
          dsimp only [sZ, sS]
          refine wpSeq_take (d := 121) rfl rfl (by kernel_rfl) (fun w hS => by go_simp <;> with_reducible rfl) ?_
          dsimp only [sZ, sS]
          refine wpSeq_call rfl (by kernel_rfl) (fun K hK => ?_)
          go_simp
          (with_reducible refine (ci _).mono ?_)
          rintro e w' ⟨rfl, rfl⟩
          refine hK.out _ _ hH fun hH => ?_
          clear hK
          refine wpSeq_take (d := 123) rfl rfl (by kernel_rfl) (fun w hS => by go_simp <;> with_reducible rfl) ?_
          dsimp only [sZ, sS]
          refine wpSeq_take (d := 124) rfl rfl (by kernel_rfl) (fun w hS => by go_simp <;> with_reducible rfl) ?_
          dsimp only [sZ, sS]
          refine wpSeq_take (d := 125) rfl rfl (by kernel_rfl) (fun w hS => by go_simp <;> with_reducible rfl) ?_
          dsimp only [sZ, sS]
          refine wpSeq_take (d := 126) rfl rfl (by kernel_rfl) (fun w hS => by go_simp <;> with_reducible rfl) ?_
          dsimp only [sZ, sS]
          refine wpSeq_take (d := 127) rfl rfl (by kernel_rfl) (fun w hS => by go_simp <;> with_reducible rfl) ?_
          dsimp only [sZ, sS]
          refine wpSeq_take (d := 128) rfl rfl (by kernel_rfl) (fun w hS => by go_simp <;> with_reducible rfl) ?_
          dsimp only [sZ, sS]
          refine wpSeq_take (d := 129) rfl rfl (by kernel_rfl) (fun w hS => by go_simp <;> with_reducible rfl) ?_
          dsimp only [sZ, sS]
          refine wpSeq_take (d := 130) rfl rfl (by kernel_rfl) (fun w hS => by go_simp <;> with_reducible rfl) ?_
          dsimp only [sZ, sS]
          refine wpSeq_take (d := 131) rfl rfl (by kernel_rfl) (fun w hS => by go_simp <;> with_reducible rfl) ?_
          dsimp only [sZ, sS]
          refine wpSeq_take (d := 132) rfl rfl (by kernel_rfl) (fun w hS => by go_simp <;> with_reducible rfl) ?_
          dsimp only [sZ, sS]
          refine wpSeq_call rfl (by kernel_rfl) (fun K hK => ?_)
          go_simp
          (with_reducible refine (cf _ hH.2.2.2.2.2).mono ?_)
          rintro e w' ⟨rfl, hq⟩
          refine hK.out _ _ ?_ (fun hH => ?_)
          ·exact ⟨hq.keep hH.1, hq.keep hH.2.1, hq.keep hH.2.2.1, hq.keep hH.2.2.2.1, hq.keep hH.2.2.2.2.1, hH.2.2.2.2.2.trans hq.b⟩
          clear hK
          refine wpSeq_take (d := 134) rfl rfl (by kernel_rfl) (fun w hS => by go_simp <;> with_reducible rfl) ?_
          dsimp only [sZ, sS]
          refine wpSeq_done ?_
          refine NoPanic.normal ?_
          have HZ := Lib.hid (HQ.out.trans hH.2.2.2.2.2)
          have HR := Lib.hid (HF.out (by simp))
          clear HF HT HQ cf ci hH
          go_wp2
          go_ret
          exact ⟨by rw [HR.out]; rfl, hQ.out.trans HZ.out⟩
      ·have hlB : decide ((i : Int) < (d.fs.length : Int)) = false := decide_eq_false (by omega)
       have HR := Lib.hid (hR.trans (fl_yes (ws := d.ws) (fs := d.fs) fun j F hF => hall j F hF (by obtain ⟨x, _⟩ := List.getElem?_eq_some_iff.1 hF; omega)))
       have HZ := Lib.hid (hQ.out.trans hQi)
       clear hR hall hi hD hQi hwb
       go_wp2
       go_ret
       exact ⟨by rw [HR.out]; rfl, HZ.out⟩
end Go.Proofs.YtglniapfnhedoaaGreatDoor
