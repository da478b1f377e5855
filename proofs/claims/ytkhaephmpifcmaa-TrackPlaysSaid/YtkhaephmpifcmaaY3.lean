/-
  Contract of the document's DeckRight; The code's Right is the document's; Layer 11: a new board; The code's within; The code's wells: within, written, size, has; Contract of the document's well of a number; The code's wells: the number of a well, the well of a number; Contract of the document's number of wells; The statements' shapes of a number; The statements' outer shapes of a tip, of a number; The statements' decks of numbers, without fills.
-/
import Derived.Deep.AppendLies
import Derived.Test.YtkhaephmpifcmaaChecked
import Derived.Lib.Hide
import Derived.KernelRfl
import Derived.Deep.QuietTactic
import Derived.BigQuiet
import Derived.OwnWalk
import Derived.Laws.Strings2
import Derived.Laws.Slices
import Derived.Test.YtkhaephmpifcmaaY1
import Derived.Test.YtkhaephmpifcmaaY2
namespace Go.Proofs.Ytkhaephmpifcmaa
open Go.RowKit
theorem recs_take {w : World} {a : Addr} {cap : Nat} {L : List Rec} (h : IsRecs w (.slice (some a) L.length cap) L) {i : Nat} (hi : i ≤ L.length) : IsRecs w (.slice (some a) i cap) (L.take i) := by
  rcases h with ⟨e, _⟩ | ⟨b, c, e, h2, h3, h4⟩
  · simp at e
  · obtain ⟨rfl, rfl⟩ : a = b ∧ cap = c := by simpa using e
    refine .inr ⟨a, cap, by rw [List.length_take, Nat.min_eq_left hi], by rw [List.length_take]; omega, h3, fun j r hj => ?_⟩
    rw [List.getElem?_take] at hj
    split at hj
    · exact h4 j r hj
    · cases hj
theorem apart_no {ok : Wr → Bool} {ws : List Wr} {i : Nat} {F : Wr} (hF : ws[i]? = some F) (h : (ok F && !namedW (ws.take i) F.n) = false) : apartW ok ws = false := by
  have hi : i < ws.length := by obtain ⟨h, _⟩ := List.getElem?_eq_some_iff.1 hF; exact h
  refine List.all_eq_false.2 ⟨i, List.mem_range.2 hi, ?_⟩
  rw [hF]
  simp only
  rw [h]
  decide
theorem apart_yes {ok : Wr → Bool} {ws : List Wr} (h : ∀ j F, ws[j]? = some F → (ok F && !namedW (ws.take j) F.n) = true) : apartW ok ws = true := by
  refine List.all_eq_true.2 fun j hj => ?_
  cases e : ws[j]? with
  | none => rfl
  | some F => exact h j F e
/-- The first i are right. -/
def UpTo (ok : Wr → Bool) (ws : List Wr) (i : Nat) : Prop := ∀ j F, ws[j]? = some F → j < i → (ok F && !namedW (ws.take j) F.n) = true
theorem UpTo.next {ok : Wr → Bool} {ws : List Wr} {i : Nat} {F : Wr} (h : UpTo ok ws i) (hF : ws[i]? = some F) (hg : (ok F && !namedW (ws.take i) F.n) = true) : UpTo ok ws (i + 1) := fun j G hG hj => by
  by_cases c : j = i
  · subst c
    rw [hF] at hG
    obtain rfl : F = G := by simpa using hG
    exact hg
  · exact h j G hG (by omega)
theorem fls_take {w : World} {a : Addr} {cap : Nat} {L : List Fl} (h : IsFls w (.slice (some a) L.length cap) L) {i : Nat} (hi : i ≤ L.length) : IsFls w (.slice (some a) i cap) (L.take i) := by
  rcases h with ⟨e, _⟩ | ⟨b, c, e, h2, h3, h4⟩
  · simp at e
  · obtain ⟨rfl, rfl⟩ : a = b ∧ cap = c := by simpa using e
    refine .inr ⟨a, cap, by rw [List.length_take, Nat.min_eq_left hi], by rw [List.length_take]; omega, h3, fun j r hj => ?_⟩
    rw [List.getElem?_take] at hj
    split at hj
    · exact h4 j r hj
    · cases hj
theorem fl_no {ws : List Wr} {fs : List Fl} {i : Nat} {F : Fl} (hF : fs[i]? = some F) (h : (hasW ws F.n F.r F.c && inB F.v 0 20000000 && !filledW (fs.take i) F.n F.r F.c) = false) : fillsOk ws fs = false := by
  have hi : i < fs.length := by obtain ⟨h, _⟩ := List.getElem?_eq_some_iff.1 hF; exact h
  refine List.all_eq_false.2 ⟨i, List.mem_range.2 hi, ?_⟩
  rw [hF]
  simp only
  rw [h]
  decide
theorem fl_yes {ws : List Wr} {fs : List Fl} (h : ∀ j F, fs[j]? = some F → (hasW ws F.n F.r F.c && inB F.v 0 20000000 && !filledW (fs.take j) F.n F.r F.c) = true) : fillsOk ws fs = true := by
  refine List.all_eq_true.2 fun j hj => ?_
  cases e : fs[j]? with
  | none => rfl
  | some F => exact h j F e
/-- The first i fills are right. -/
def FlTo (ws : List Wr) (fs : List Fl) (i : Nat) : Prop := ∀ j F, fs[j]? = some F → j < i → (hasW ws F.n F.r F.c && inB F.v 0 20000000 && !filledW (fs.take j) F.n F.r F.c) = true
theorem FlTo.next {ws : List Wr} {fs : List Fl} {i : Nat} {F : Fl} (h : FlTo ws fs i) (hF : fs[i]? = some F) (hg : (hasW ws F.n F.r F.c && inB F.v 0 20000000 && !filledW (fs.take i) F.n F.r F.c) = true) : FlTo ws fs (i + 1) := fun j G hG hj => by
  by_cases c : j = i
  · subst c
    rw [hF] at hG
    obtain rfl : F = G := by simpa using hG
    exact hg
  · exact h j G hG (by omega)
theorem wares_in {ws : List Wr} (h : apartW wareOk ws = true) : ∀ x ∈ ws, wareB x := fun x hx => by
  obtain ⟨i, hi, rfl⟩ := List.getElem_of_mem hx
  have e := List.all_eq_true.1 h i (List.mem_range.2 hi)
  rw [List.getElem?_eq_getElem hi] at e
  simp only [wareOk, inB, Bool.and_eq_true, decide_eq_true_eq] at e
  unfold wareB
  omega
set_option maxHeartbeats 4000000 in
set_option maxRecDepth 100000 in
theorem r8deckright_any (wv tv fv : Value) (d : Dk) (w : World) (h : IsDk w wv tv fv d) : Calls Try.prog 39 #[.agg #[wv, tv, fv]] w fun e w' => e = .returned (.bool (rightD d)) ∧ B w w' := by
  obtain ⟨ao, ac, bo, bc, co, cc, rfl, rfl, rfl⟩ := h.forms
  have hQ := (Q.refl w).alloc #[.slice ao d.ws.length ac, .slice bo d.ts.length bc, .slice co d.fs.length cc] 67
  have hD := h.keepB hQ.b
  have k0 : (w.alloc (.cells #[.slice ao d.ws.length ac, .slice bo d.ts.length bc, .slice co d.fs.length cc] 67)).cell? ⟨w.heap.size, 0, none⟩ = some (.slice ao d.ws.length ac) := by rw [World.cell?_alloc_new]; rfl
  have k1 : (w.alloc (.cells #[.slice ao d.ws.length ac, .slice bo d.ts.length bc, .slice co d.fs.length cc] 67)).cell? ⟨w.heap.size, 1, none⟩ = some (.slice bo d.ts.length bc) := by rw [World.cell?_alloc_new]; rfl
  have k2 : (w.alloc (.cells #[.slice ao d.ws.length ac, .slice bo d.ts.length bc, .slice co d.fs.length cc] 67)).cell? ⟨w.heap.size, 2, none⟩ = some (.slice co d.fs.length cc) := by rw [World.cell?_alloc_new]; rfl
  replace hQ := Lib.hid hQ
  have hR : ∀ b, rightD d = b → rightD d = b := fun _ h => h
  obtain ⟨R, hRR⟩ : ∃ R, rightD d = R := ⟨_, rfl⟩
  rw [hRR]
  clear h hR
  go_enter Try.func39, Try.ntmps39
  by_cases n0 : 8 < d.ws.length
  · have n0B : decide ((8 : Int) < (d.ws.length : Int)) = true := decide_eq_true (by omega)
    have HR : R = false := by rw [← hRR]; unfold rightD; rw [decide_eq_false (by omega : ¬ d.ws.length ≤ 8)]; simp
    subst HR
    clear hD hRR
    go_wp2
    go_ret
    exact ⟨rfl, hQ.out.b⟩
  have n0B : decide ((8 : Int) < (d.ws.length : Int)) = false := decide_eq_false (by omega)
  by_cases n1 : 4 < d.ts.length
  · have n1B : decide ((4 : Int) < (d.ts.length : Int)) = true := decide_eq_true (by omega)
    have HR : R = false := by rw [← hRR]; unfold rightD; rw [decide_eq_false (by omega : ¬ d.ts.length ≤ 4)]; simp
    subst HR
    clear hD hRR
    go_wp2
    go_ret
    exact ⟨rfl, hQ.out.b⟩
  have n1B : decide ((4 : Int) < (d.ts.length : Int)) = false := decide_eq_false (by omega)
  have hRW : apartW wareOk d.ws = false → R = false := fun e => by rw [← hRR]; unfold rightD; rw [e]; simp
  have hRT : apartW tipOk d.ts = false → R = false := fun e => by rw [← hRR]; unfold rightD; rw [e]; simp
  have hRF : apartW wareOk d.ws = true → apartW tipOk d.ts = true → R = fillsOk d.ws d.fs := fun e1 e2 => by rw [← hRR]; unfold rightD; rw [e1, e2, decide_eq_true (by omega), decide_eq_true (by omega)]; simp
  have n8 : d.ws.length ≤ 8 := by omega
  have n4 : d.ts.length ≤ 4 := by omega
  clear hRR n0 n1
  go_wp2
  generalize w.alloc (.cells #[.slice ao d.ws.length ac, .slice bo d.ts.length bc, .slice co d.fs.length cc] 67) = W at *
  generalize w.heap.size = H at *
  clear n0B n1B
  go_loopw [3] (fun iv wr => ∃ i : Nat, i ≤ d.ws.length ∧ iv = .int .i64 i ∧ UpTo wareOk d.ws i ∧ Q W wr) (fun iv _ => d.ws.length + 1 - (intOf iv).toNat)
  case atStart => exact ⟨0, Nat.zero_le _, rfl, fun j _ _ hj => by omega, Q.refl _⟩
  case round =>
    obtain ⟨i, hi, rfl, hall, hQi⟩ := hrel
    obtain ⟨wo, rfl⟩ : ∃ wo : World, wo = wr := ⟨_, rfl⟩
    replace k0 := hQi.keep k0
    replace k1 := hQi.keep k1
    replace k2 := hQi.keep k2
    replace hD := hD.keepB hQi.b
    by_cases hl : i < d.ws.length
    · have hlB : decide ((i : Int) < (d.ws.length : Int)) = true := decide_eq_true (by omega)
      have hlI : (i : Int) < (d.ws.length : Int) := by omega
      have hi0 : (0 : Int) ≤ (i : Int) := by omega
      have wk1 : IntKind.i64.wrap ((i : Int) + 1) = (i : Int) + 1 := by rw [IntKind.wrap_i64]; omega
      obtain ⟨a, cap, e1, g8, g9, hr⟩ := hD.ws.at_ hl
      obtain ⟨rfl, _, rfl⟩ : ao = some a ∧ True ∧ ac = cap := by simpa using e1
      have htk := recs_take hD.ws (i := i) (by omega)
      have hle : i ≤ ac := by omega
      obtain ⟨F, hF⟩ : ∃ F, d.ws[i]? = some F := ⟨_, List.getElem?_eq_getElem hl⟩
      have hF2 : d.ws[i] = F := by rw [List.getElem?_eq_getElem hl] at hF; simpa using hF
      rw [hF2] at hr
      have hbad := fun e => hRW (apart_no hF e)
      have hgood := hall.next hF
      clear hF hF2 e1
      obtain ⟨N, X, Y, Z, SL⟩ := F
      obtain ⟨g1, g2, g3, g4, sv, g5, g6⟩ := hr
      simp only at g1 g2 g3 g4 g5 g6 hbad hgood
      have cn := fun w => r8name_any N w
      have cx := fun w => r8in_any X 1 8 w
      have cy := fun w => r8in_any Y 1 12 w
      have cz := fun w => r8in_any Z 0 1000000 w
      have cw := fun w2 (q : Q wo w2) => r8wnamed_any (.slice (some a) i ac) (.slice none 0 0) (.slice none 0 0) ⟨d.ws.take i, [], []⟩ N w2 ⟨htk.keepB q.b, .inl ⟨rfl, rfl⟩, .inl ⟨rfl, rfl⟩⟩
      have cl := fun w2 (q : Q wo w2) => r3right_any sv SL w2 (g6.keepB q.b)
      obtain ⟨so, sc, rfl⟩ := secs_form g6
      simp only [wareOk] at hbad hgood
      generalize nameS N = bn at *
      generalize inB X 1 8 = bx at *
      generalize inB Y 1 12 = by_ at *
      generalize inB Z 0 1000000 = bz at *
      generalize rightS SL = bl at *
      generalize namedW (d.ws.take i) N = bw at *
      have HF := Lib.hid hbad
      have HT := Lib.hid hgood
      have HL := Lib.hid hl
      obtain ⟨sn, hsn⟩ : ∃ sn, SL.length = sn := ⟨_, rfl⟩
      rw [hsn] at g5
      simp only [hsn] at cl
      have qa := (Q.refl wo).alloc #[.string N, .int .i64 X, .int .i64 Y, .int .i64 Z, .slice so sn sc] 58
      have HQ := Lib.hid (hQi)
      obtain ⟨W1, hW1⟩ : ∃ W1, wo.alloc (.cells #[.string N, .int .i64 X, .int .i64 Y, .int .i64 Z, .slice so sn sc] 58) = W1 := ⟨_, rfl⟩
      have p0 : W1.cell? ⟨wo.heap.size, 0, none⟩ = some (.string N) := by rw [← hW1, World.cell?_alloc_new]; rfl
      have p1 : W1.cell? ⟨wo.heap.size, 1, none⟩ = some (.int .i64 X) := by rw [← hW1, World.cell?_alloc_new]; rfl
      have p2 : W1.cell? ⟨wo.heap.size, 2, none⟩ = some (.int .i64 Y) := by rw [← hW1, World.cell?_alloc_new]; rfl
      have p3 : W1.cell? ⟨wo.heap.size, 3, none⟩ = some (.int .i64 Z) := by rw [← hW1, World.cell?_alloc_new]; rfl
      have p4 : W1.cell? ⟨wo.heap.size, 4, none⟩ = some (.slice so sn sc) := by rw [← hW1, World.cell?_alloc_new]; rfl
      clear hbad hgood hl hi hall htk hD hsn g6 n8 n4 hRT hRF
      go_wp2_with fail
      replace k0 := qa.keep k0
      rw [hW1] at qa k0
      try rw [hW1]
      have qd : Q wo W1.drew := qa.drew
      have qe : Q W1 W1.drew := (Q.refl W1).drew
      clear hW1 k1 k2 g1 g2 g3 g4 g5 qa
      generalize wo.heap.size = G at *
      cases bn
      · refine wp_region_noPanic ?_
        refine wp_region_seq (S := fun w' => w'.cell? ⟨H, 0, none⟩ = some (.slice (some a) d.ws.length ac) ∧ w'.cell? ⟨G, 0, none⟩ = some (.string N) ∧ w'.cell? ⟨G, 1, none⟩ = some (.int .i64 X) ∧ w'.cell? ⟨G, 2, none⟩ = some (.int .i64 Y) ∧ w'.cell? ⟨G, 3, none⟩ = some (.int .i64 Z) ∧ w'.cell? ⟨G, 4, none⟩ = some (.slice so sn sc) ∧ Q wo w') [(0, 0), (1, 0), (2, 2), (3, 0), (4, 0), (5, 1), (6, 1), (7, 1), (8, 1), (9, 1), (10, 1), (11, 1), (12, 1), (13, 0), (14, 0), (15, 1), (16, 1), (17, 1), (18, 1), (19, 0), (20, 0), (21, 1), (22, 1), (23, 1), (24, 1), (25, 0), (26, 0), (27, 1), (28, 1), (29, 1), (30, 1), (31, 0), (32, 0), (33, 1), (34, 1), (35, 1), (36, 1), (37, 0)] [0, 1, 2, 4, 12, 16, 48, 16, 208, 272, 16, 1040, 2576, 4112, 12288, 16384, 49152, 81920, 147456, 278528, 655360, 1048576, 3145728, 5242880, 9437184, 17825792, 41943040, 67108864, 201326592, 335544320, 603979776, 1140850688, 2684354560, 4294967296, 12884901888, 21474836480, 38654705664, 73014444032] [0, 1, 2, 4, 8, 16, 48, 16, 208, 272, 16, 1040, 2576, 4112, 8192, 16384, 49152, 81920, 147456, 278528, 524288, 1048576, 3145728, 5242880, 9437184, 17825792, 33554432, 67108864, 201326592, 335544320, 603979776, 1140850688, 2147483648, 4294967296, 12884901888, 21474836480, 38654705664, 73014444032] (by kernel_rfl) (by kernel_rfl) (fun _ _ _ _ _ h => h) ?_ (fun hH => ?_)
        · exact ⟨qe.keep k0, qe.keep p0, qe.keep p1, qe.keep p2, qe.keep p3, qe.keep p4, qd⟩
        refine wpSeq_take (d := 32) (v := ?_) rfl rfl (by kernel_rfl) (fun w hS => ?_) ?_
        rotate_left
        · go_simp <;> with_reducible rfl
        dsimp only [List.set_cons_zero, List.set_cons_succ]
        refine wpSeq_take (d := 33) (v := ?_) rfl rfl (by kernel_rfl) (fun w hS => ?_) ?_
        rotate_left
        · go_simp <;> with_reducible rfl
        dsimp only [List.set_cons_zero, List.set_cons_succ]
        refine wpSeq_call rfl (by kernel_rfl) (fun K hK => ?_)
        go_simp
        (with_reducible refine (cn _).mono ?_)
        rintro e w' ⟨rfl, rfl⟩
        refine hK.out _ _ hH (fun hH => ?_)
        clear hK
        refine wpSeq_take (d := 35) (v := ?_) rfl rfl (by kernel_rfl) (fun w hS => ?_) ?_
        rotate_left
        · go_simp <;> with_reducible rfl
        dsimp only [List.set_cons_zero, List.set_cons_succ]
        refine wpSeq_take (d := 36) (v := ?_) rfl rfl (by kernel_rfl) (fun w hS => ?_) ?_
        rotate_left
        · go_simp <;> with_reducible rfl
        dsimp only [List.set_cons_zero, List.set_cons_succ]
        refine wpSeq_pass (d := 37) rfl rfl (by kernel_rfl) ?_
        dsimp only [List.set_cons_zero, List.set_cons_succ]
        refine wpSeq_pass (d := 38) rfl rfl (by kernel_rfl) ?_
        dsimp only [List.set_cons_zero, List.set_cons_succ]
        refine wpSeq_pass (d := 39) rfl rfl (by kernel_rfl) ?_
        dsimp only [List.set_cons_zero, List.set_cons_succ]
        refine wpSeq_pass (d := 40) rfl rfl (by kernel_rfl) ?_
        dsimp only [List.set_cons_zero, List.set_cons_succ]
        refine wpSeq_pass (d := 41) rfl rfl (by kernel_rfl) ?_
        dsimp only [List.set_cons_zero, List.set_cons_succ]
        refine wpSeq_pass (d := 42) rfl rfl (by kernel_rfl) ?_
        dsimp only [List.set_cons_zero, List.set_cons_succ]
        refine wpSeq_pass (d := 43) rfl rfl (by kernel_rfl) ?_
        dsimp only [List.set_cons_zero, List.set_cons_succ]
        refine wpSeq_pass (d := 44) rfl rfl (by kernel_rfl) ?_
        dsimp only [List.set_cons_zero, List.set_cons_succ]
        refine wpSeq_take (d := 45) (v := ?_) rfl rfl (by kernel_rfl) (fun w hS => ?_) ?_
        rotate_left
        · go_simp <;> with_reducible rfl
        dsimp only [List.set_cons_zero, List.set_cons_succ]
        refine wpSeq_take (d := 46) (v := ?_) rfl rfl (by kernel_rfl) (fun w hS => ?_) ?_
        rotate_left
        · go_simp <;> with_reducible rfl
        dsimp only [List.set_cons_zero, List.set_cons_succ]
        refine wpSeq_pass (d := 47) rfl rfl (by kernel_rfl) ?_
        dsimp only [List.set_cons_zero, List.set_cons_succ]
        refine wpSeq_pass (d := 48) rfl rfl (by kernel_rfl) ?_
        dsimp only [List.set_cons_zero, List.set_cons_succ]
        refine wpSeq_pass (d := 49) rfl rfl (by kernel_rfl) ?_
        dsimp only [List.set_cons_zero, List.set_cons_succ]
        refine wpSeq_pass (d := 50) rfl rfl (by kernel_rfl) ?_
        dsimp only [List.set_cons_zero, List.set_cons_succ]
        refine wpSeq_take (d := 51) (v := ?_) rfl rfl (by kernel_rfl) (fun w hS => ?_) ?_
        rotate_left
        · go_simp <;> with_reducible rfl
        dsimp only [List.set_cons_zero, List.set_cons_succ]
        refine wpSeq_take (d := 52) (v := ?_) rfl rfl (by kernel_rfl) (fun w hS => ?_) ?_
        rotate_left
        · go_simp <;> with_reducible rfl
        dsimp only [List.set_cons_zero, List.set_cons_succ]
        refine wpSeq_pass (d := 53) rfl rfl (by kernel_rfl) ?_
        dsimp only [List.set_cons_zero, List.set_cons_succ]
        refine wpSeq_pass (d := 54) rfl rfl (by kernel_rfl) ?_
        dsimp only [List.set_cons_zero, List.set_cons_succ]
        refine wpSeq_pass (d := 55) rfl rfl (by kernel_rfl) ?_
        dsimp only [List.set_cons_zero, List.set_cons_succ]
        refine wpSeq_pass (d := 56) rfl rfl (by kernel_rfl) ?_
        dsimp only [List.set_cons_zero, List.set_cons_succ]
        refine wpSeq_take (d := 57) (v := ?_) rfl rfl (by kernel_rfl) (fun w hS => ?_) ?_
        rotate_left
        · go_simp <;> with_reducible rfl
        dsimp only [List.set_cons_zero, List.set_cons_succ]
        refine wpSeq_take (d := 58) (v := ?_) rfl rfl (by kernel_rfl) (fun w hS => ?_) ?_
        rotate_left
        · go_simp <;> with_reducible rfl
        dsimp only [List.set_cons_zero, List.set_cons_succ]
        refine wpSeq_pass (d := 59) rfl rfl (by kernel_rfl) ?_
        dsimp only [List.set_cons_zero, List.set_cons_succ]
        refine wpSeq_pass (d := 60) rfl rfl (by kernel_rfl) ?_
        dsimp only [List.set_cons_zero, List.set_cons_succ]
        refine wpSeq_pass (d := 61) rfl rfl (by kernel_rfl) ?_
        dsimp only [List.set_cons_zero, List.set_cons_succ]
        refine wpSeq_pass (d := 62) rfl rfl (by kernel_rfl) ?_
        dsimp only [List.set_cons_zero, List.set_cons_succ]
        refine wpSeq_take (d := 63) (v := ?_) rfl rfl (by kernel_rfl) (fun w hS => ?_) ?_
        rotate_left
        · go_simp <;> with_reducible rfl
        dsimp only [List.set_cons_zero, List.set_cons_succ]
        refine wpSeq_take (d := 64) (v := ?_) rfl rfl (by kernel_rfl) (fun w hS => ?_) ?_
        rotate_left
        · go_simp <;> with_reducible rfl
        dsimp only [List.set_cons_zero, List.set_cons_succ]
        refine wpSeq_pass (d := 65) rfl rfl (by kernel_rfl) ?_
        dsimp only [List.set_cons_zero, List.set_cons_succ]
        refine wpSeq_pass (d := 66) rfl rfl (by kernel_rfl) ?_
        dsimp only [List.set_cons_zero, List.set_cons_succ]
        refine wpSeq_pass (d := 67) rfl rfl (by kernel_rfl) ?_
        dsimp only [List.set_cons_zero, List.set_cons_succ]
        refine wpSeq_pass (d := 68) rfl rfl (by kernel_rfl) ?_
        dsimp only [List.set_cons_zero, List.set_cons_succ]
        refine wpSeq_take (d := 69) (v := ?_) rfl rfl (by kernel_rfl) (fun w hS => ?_) ?_
        rotate_left
        · go_simp <;> with_reducible rfl
        dsimp only [List.set_cons_zero, List.set_cons_succ]
        refine wpSeq_done ?_
        refine NoPanic.normal ?_
        have HZ := Lib.hid (HQ.out.trans hH.2.2.2.2.2.2)
        have HR := Lib.hid (HF.out (by simp))
        clear HF HT HQ
        go_wp2
        go_ret
        exact ⟨by rw [HR.out]; rfl, (hQ.out.trans HZ.out).b⟩
      · cases bw
        · cases bx
          · refine wp_region_noPanic ?_
            refine wp_region_seq (S := fun w' => w'.cell? ⟨H, 0, none⟩ = some (.slice (some a) d.ws.length ac) ∧ w'.cell? ⟨G, 0, none⟩ = some (.string N) ∧ w'.cell? ⟨G, 1, none⟩ = some (.int .i64 X) ∧ w'.cell? ⟨G, 2, none⟩ = some (.int .i64 Y) ∧ w'.cell? ⟨G, 3, none⟩ = some (.int .i64 Z) ∧ w'.cell? ⟨G, 4, none⟩ = some (.slice so sn sc) ∧ Q wo w') [(0, 0), (1, 0), (2, 2), (3, 0), (4, 0), (5, 0), (6, 0), (7, 0), (8, 0), (9, 0), (10, 0), (11, 0), (12, 2), (13, 0), (14, 0), (15, 0), (16, 0), (17, 2), (18, 0), (19, 0), (20, 0), (21, 1), (22, 1), (23, 1), (24, 1), (25, 0), (26, 0), (27, 1), (28, 1), (29, 1), (30, 1), (31, 0), (32, 0), (33, 1), (34, 1), (35, 1), (36, 1), (37, 0)] [0, 1, 2, 4, 12, 16, 48, 16, 208, 272, 16, 1040, 2576, 4112, 12288, 16384, 49152, 81920, 147456, 278528, 655360, 1048576, 3145728, 5242880, 9437184, 17825792, 41943040, 67108864, 201326592, 335544320, 603979776, 1140850688, 2684354560, 4294967296, 12884901888, 21474836480, 38654705664, 73014444032] [0, 1, 2, 4, 8, 16, 48, 16, 208, 272, 16, 1040, 2576, 4112, 8192, 16384, 49152, 81920, 147456, 278528, 524288, 1048576, 3145728, 5242880, 9437184, 17825792, 33554432, 67108864, 201326592, 335544320, 603979776, 1140850688, 2147483648, 4294967296, 12884901888, 21474836480, 38654705664, 73014444032] (by kernel_rfl) (by kernel_rfl) (fun _ _ _ _ _ h => h) ?_ (fun hH => ?_)
            · exact ⟨qe.keep k0, qe.keep p0, qe.keep p1, qe.keep p2, qe.keep p3, qe.keep p4, qd⟩
            refine wpSeq_take (d := 32) (v := ?_) rfl rfl (by kernel_rfl) (fun w hS => ?_) ?_
            rotate_left
            · go_simp <;> with_reducible rfl
            dsimp only [List.set_cons_zero, List.set_cons_succ]
            refine wpSeq_take (d := 33) (v := ?_) rfl rfl (by kernel_rfl) (fun w hS => ?_) ?_
            rotate_left
            · go_simp <;> with_reducible rfl
            dsimp only [List.set_cons_zero, List.set_cons_succ]
            refine wpSeq_call rfl (by kernel_rfl) (fun K hK => ?_)
            go_simp
            (with_reducible refine (cn _).mono ?_)
            rintro e w' ⟨rfl, rfl⟩
            refine hK.out _ _ hH (fun hH => ?_)
            clear hK
            refine wpSeq_take (d := 35) (v := ?_) rfl rfl (by kernel_rfl) (fun w hS => ?_) ?_
            rotate_left
            · go_simp <;> with_reducible rfl
            dsimp only [List.set_cons_zero, List.set_cons_succ]
            refine wpSeq_take (d := 36) (v := ?_) rfl rfl (by kernel_rfl) (fun w hS => ?_) ?_
            rotate_left
            · go_simp <;> with_reducible rfl
            dsimp only [List.set_cons_zero, List.set_cons_succ]
            refine wpSeq_take (d := 37) (v := ?_) rfl rfl (by kernel_rfl) (fun w hS => ?_) ?_
            rotate_left
            · go_simp <;> with_reducible rfl
            dsimp only [List.set_cons_zero, List.set_cons_succ]
            refine wpSeq_take (d := 38) (v := ?_) rfl rfl (by kernel_rfl) (fun w hS => ?_) ?_
            rotate_left
            · go_simp <;> with_reducible rfl
            dsimp only [List.set_cons_zero, List.set_cons_succ]
            refine wpSeq_take (d := 39) (v := ?_) rfl rfl (by kernel_rfl) (fun w hS => ?_) ?_
            rotate_left
            · go_simp <;> with_reducible rfl
            dsimp only [List.set_cons_zero, List.set_cons_succ]
            refine wpSeq_take (d := 40) (v := ?_) rfl rfl (by kernel_rfl) (fun w hS => ?_) ?_
            rotate_left
            · go_simp <;> with_reducible rfl
            dsimp only [List.set_cons_zero, List.set_cons_succ]
            refine wpSeq_take (d := 41) (v := ?_) rfl rfl (by kernel_rfl) (fun w hS => ?_) ?_
            rotate_left
            · go_simp <;> with_reducible rfl
            dsimp only [List.set_cons_zero, List.set_cons_succ]
            refine wpSeq_take (d := 42) (v := ?_) rfl rfl (by kernel_rfl) (fun w hS => ?_) ?_
            rotate_left
            · go_simp <;> with_reducible rfl
            dsimp only [List.set_cons_zero, List.set_cons_succ]
            refine wpSeq_take (d := 43) (v := ?_) rfl rfl (by kernel_rfl) (fun w hS => ?_) ?_
            rotate_left
            · go_simp <;> with_reducible rfl
            dsimp only [List.set_cons_zero, List.set_cons_succ]
            refine wpSeq_call rfl (by kernel_rfl) (fun K hK => ?_)
            go_simp
            (with_reducible refine (cw _ hH.2.2.2.2.2.2).mono ?_)
            rintro e w' ⟨rfl, hq⟩
            refine hK.out _ _ ?_ (fun hH => ?_)
            · exact ⟨hq.keep hH.1, hq.keep hH.2.1, hq.keep hH.2.2.1, hq.keep hH.2.2.2.1, hq.keep hH.2.2.2.2.1, hq.keep hH.2.2.2.2.2.1, hH.2.2.2.2.2.2.trans hq⟩
            clear hK
            refine wpSeq_take (d := 45) (v := ?_) rfl rfl (by kernel_rfl) (fun w hS => ?_) ?_
            rotate_left
            · go_simp <;> with_reducible rfl
            dsimp only [List.set_cons_zero, List.set_cons_succ]
            refine wpSeq_take (d := 46) (v := ?_) rfl rfl (by kernel_rfl) (fun w hS => ?_) ?_
            rotate_left
            · go_simp <;> with_reducible rfl
            dsimp only [List.set_cons_zero, List.set_cons_succ]
            refine wpSeq_take (d := 47) (v := ?_) rfl rfl (by kernel_rfl) (fun w hS => ?_) ?_
            rotate_left
            · go_simp <;> with_reducible rfl
            dsimp only [List.set_cons_zero, List.set_cons_succ]
            refine wpSeq_take (d := 48) (v := ?_) rfl rfl (by kernel_rfl) (fun w hS => ?_) ?_
            rotate_left
            · go_simp <;> with_reducible rfl
            dsimp only [List.set_cons_zero, List.set_cons_succ]
            refine wpSeq_call rfl (by kernel_rfl) (fun K hK => ?_)
            go_simp
            (with_reducible refine (cx _).mono ?_)
            rintro e w' ⟨rfl, rfl⟩
            refine hK.out _ _ hH (fun hH => ?_)
            clear hK
            refine wpSeq_take (d := 50) (v := ?_) rfl rfl (by kernel_rfl) (fun w hS => ?_) ?_
            rotate_left
            · go_simp <;> with_reducible rfl
            dsimp only [List.set_cons_zero, List.set_cons_succ]
            refine wpSeq_take (d := 51) (v := ?_) rfl rfl (by kernel_rfl) (fun w hS => ?_) ?_
            rotate_left
            · go_simp <;> with_reducible rfl
            dsimp only [List.set_cons_zero, List.set_cons_succ]
            refine wpSeq_take (d := 52) (v := ?_) rfl rfl (by kernel_rfl) (fun w hS => ?_) ?_
            rotate_left
            · go_simp <;> with_reducible rfl
            dsimp only [List.set_cons_zero, List.set_cons_succ]
            refine wpSeq_pass (d := 53) rfl rfl (by kernel_rfl) ?_
            dsimp only [List.set_cons_zero, List.set_cons_succ]
            refine wpSeq_pass (d := 54) rfl rfl (by kernel_rfl) ?_
            dsimp only [List.set_cons_zero, List.set_cons_succ]
            refine wpSeq_pass (d := 55) rfl rfl (by kernel_rfl) ?_
            dsimp only [List.set_cons_zero, List.set_cons_succ]
            refine wpSeq_pass (d := 56) rfl rfl (by kernel_rfl) ?_
            dsimp only [List.set_cons_zero, List.set_cons_succ]
            refine wpSeq_take (d := 57) (v := ?_) rfl rfl (by kernel_rfl) (fun w hS => ?_) ?_
            rotate_left
            · go_simp <;> with_reducible rfl
            dsimp only [List.set_cons_zero, List.set_cons_succ]
            refine wpSeq_take (d := 58) (v := ?_) rfl rfl (by kernel_rfl) (fun w hS => ?_) ?_
            rotate_left
            · go_simp <;> with_reducible rfl
            dsimp only [List.set_cons_zero, List.set_cons_succ]
            refine wpSeq_pass (d := 59) rfl rfl (by kernel_rfl) ?_
            dsimp only [List.set_cons_zero, List.set_cons_succ]
            refine wpSeq_pass (d := 60) rfl rfl (by kernel_rfl) ?_
            dsimp only [List.set_cons_zero, List.set_cons_succ]
            refine wpSeq_pass (d := 61) rfl rfl (by kernel_rfl) ?_
            dsimp only [List.set_cons_zero, List.set_cons_succ]
            refine wpSeq_pass (d := 62) rfl rfl (by kernel_rfl) ?_
            dsimp only [List.set_cons_zero, List.set_cons_succ]
            refine wpSeq_take (d := 63) (v := ?_) rfl rfl (by kernel_rfl) (fun w hS => ?_) ?_
            rotate_left
            · go_simp <;> with_reducible rfl
            dsimp only [List.set_cons_zero, List.set_cons_succ]
            refine wpSeq_take (d := 64) (v := ?_) rfl rfl (by kernel_rfl) (fun w hS => ?_) ?_
            rotate_left
            · go_simp <;> with_reducible rfl
            dsimp only [List.set_cons_zero, List.set_cons_succ]
            refine wpSeq_pass (d := 65) rfl rfl (by kernel_rfl) ?_
            dsimp only [List.set_cons_zero, List.set_cons_succ]
            refine wpSeq_pass (d := 66) rfl rfl (by kernel_rfl) ?_
            dsimp only [List.set_cons_zero, List.set_cons_succ]
            refine wpSeq_pass (d := 67) rfl rfl (by kernel_rfl) ?_
            dsimp only [List.set_cons_zero, List.set_cons_succ]
            refine wpSeq_pass (d := 68) rfl rfl (by kernel_rfl) ?_
            dsimp only [List.set_cons_zero, List.set_cons_succ]
            refine wpSeq_take (d := 69) (v := ?_) rfl rfl (by kernel_rfl) (fun w hS => ?_) ?_
            rotate_left
            · go_simp <;> with_reducible rfl
            dsimp only [List.set_cons_zero, List.set_cons_succ]
            refine wpSeq_done ?_
            refine NoPanic.normal ?_
            have HZ := Lib.hid (HQ.out.trans hH.2.2.2.2.2.2)
            have HR := Lib.hid (HF.out (by simp))
            clear HF HT HQ
            go_wp2
            go_ret
            exact ⟨by rw [HR.out]; rfl, (hQ.out.trans HZ.out).b⟩
          · cases by_
            · refine wp_region_noPanic ?_
              refine wp_region_seq (S := fun w' => w'.cell? ⟨H, 0, none⟩ = some (.slice (some a) d.ws.length ac) ∧ w'.cell? ⟨G, 0, none⟩ = some (.string N) ∧ w'.cell? ⟨G, 1, none⟩ = some (.int .i64 X) ∧ w'.cell? ⟨G, 2, none⟩ = some (.int .i64 Y) ∧ w'.cell? ⟨G, 3, none⟩ = some (.int .i64 Z) ∧ w'.cell? ⟨G, 4, none⟩ = some (.slice so sn sc) ∧ Q wo w') [(0, 0), (1, 0), (2, 2), (3, 0), (4, 0), (5, 0), (6, 0), (7, 0), (8, 0), (9, 0), (10, 0), (11, 0), (12, 2), (13, 0), (14, 0), (15, 0), (16, 0), (17, 2), (18, 0), (19, 0), (20, 0), (21, 0), (22, 0), (23, 2), (24, 0), (25, 0), (26, 0), (27, 1), (28, 1), (29, 1), (30, 1), (31, 0), (32, 0), (33, 1), (34, 1), (35, 1), (36, 1), (37, 0)] [0, 1, 2, 4, 12, 16, 48, 16, 208, 272, 16, 1040, 2576, 4112, 12288, 16384, 49152, 81920, 147456, 278528, 655360, 1048576, 3145728, 5242880, 9437184, 17825792, 41943040, 67108864, 201326592, 335544320, 603979776, 1140850688, 2684354560, 4294967296, 12884901888, 21474836480, 38654705664, 73014444032] [0, 1, 2, 4, 8, 16, 48, 16, 208, 272, 16, 1040, 2576, 4112, 8192, 16384, 49152, 81920, 147456, 278528, 524288, 1048576, 3145728, 5242880, 9437184, 17825792, 33554432, 67108864, 201326592, 335544320, 603979776, 1140850688, 2147483648, 4294967296, 12884901888, 21474836480, 38654705664, 73014444032] (by kernel_rfl) (by kernel_rfl) (fun _ _ _ _ _ h => h) ?_ (fun hH => ?_)
              · exact ⟨qe.keep k0, qe.keep p0, qe.keep p1, qe.keep p2, qe.keep p3, qe.keep p4, qd⟩
              refine wpSeq_take (d := 32) (v := ?_) rfl rfl (by kernel_rfl) (fun w hS => ?_) ?_
              rotate_left
              · go_simp <;> with_reducible rfl
              dsimp only [List.set_cons_zero, List.set_cons_succ]
              refine wpSeq_take (d := 33) (v := ?_) rfl rfl (by kernel_rfl) (fun w hS => ?_) ?_
              rotate_left
              · go_simp <;> with_reducible rfl
              dsimp only [List.set_cons_zero, List.set_cons_succ]
              refine wpSeq_call rfl (by kernel_rfl) (fun K hK => ?_)
              go_simp
              (with_reducible refine (cn _).mono ?_)
              rintro e w' ⟨rfl, rfl⟩
              refine hK.out _ _ hH (fun hH => ?_)
              clear hK
              refine wpSeq_take (d := 35) (v := ?_) rfl rfl (by kernel_rfl) (fun w hS => ?_) ?_
              rotate_left
              · go_simp <;> with_reducible rfl
              dsimp only [List.set_cons_zero, List.set_cons_succ]
              refine wpSeq_take (d := 36) (v := ?_) rfl rfl (by kernel_rfl) (fun w hS => ?_) ?_
              rotate_left
              · go_simp <;> with_reducible rfl
              dsimp only [List.set_cons_zero, List.set_cons_succ]
              refine wpSeq_take (d := 37) (v := ?_) rfl rfl (by kernel_rfl) (fun w hS => ?_) ?_
              rotate_left
              · go_simp <;> with_reducible rfl
              dsimp only [List.set_cons_zero, List.set_cons_succ]
              refine wpSeq_take (d := 38) (v := ?_) rfl rfl (by kernel_rfl) (fun w hS => ?_) ?_
              rotate_left
              · go_simp <;> with_reducible rfl
              dsimp only [List.set_cons_zero, List.set_cons_succ]
              refine wpSeq_take (d := 39) (v := ?_) rfl rfl (by kernel_rfl) (fun w hS => ?_) ?_
              rotate_left
              · go_simp <;> with_reducible rfl
              dsimp only [List.set_cons_zero, List.set_cons_succ]
              refine wpSeq_take (d := 40) (v := ?_) rfl rfl (by kernel_rfl) (fun w hS => ?_) ?_
              rotate_left
              · go_simp <;> with_reducible rfl
              dsimp only [List.set_cons_zero, List.set_cons_succ]
              refine wpSeq_take (d := 41) (v := ?_) rfl rfl (by kernel_rfl) (fun w hS => ?_) ?_
              rotate_left
              · go_simp <;> with_reducible rfl
              dsimp only [List.set_cons_zero, List.set_cons_succ]
              refine wpSeq_take (d := 42) (v := ?_) rfl rfl (by kernel_rfl) (fun w hS => ?_) ?_
              rotate_left
              · go_simp <;> with_reducible rfl
              dsimp only [List.set_cons_zero, List.set_cons_succ]
              refine wpSeq_take (d := 43) (v := ?_) rfl rfl (by kernel_rfl) (fun w hS => ?_) ?_
              rotate_left
              · go_simp <;> with_reducible rfl
              dsimp only [List.set_cons_zero, List.set_cons_succ]
              refine wpSeq_call rfl (by kernel_rfl) (fun K hK => ?_)
              go_simp
              (with_reducible refine (cw _ hH.2.2.2.2.2.2).mono ?_)
              rintro e w' ⟨rfl, hq⟩
              refine hK.out _ _ ?_ (fun hH => ?_)
              · exact ⟨hq.keep hH.1, hq.keep hH.2.1, hq.keep hH.2.2.1, hq.keep hH.2.2.2.1, hq.keep hH.2.2.2.2.1, hq.keep hH.2.2.2.2.2.1, hH.2.2.2.2.2.2.trans hq⟩
              clear hK
              refine wpSeq_take (d := 45) (v := ?_) rfl rfl (by kernel_rfl) (fun w hS => ?_) ?_
              rotate_left
              · go_simp <;> with_reducible rfl
              dsimp only [List.set_cons_zero, List.set_cons_succ]
              refine wpSeq_take (d := 46) (v := ?_) rfl rfl (by kernel_rfl) (fun w hS => ?_) ?_
              rotate_left
              · go_simp <;> with_reducible rfl
              dsimp only [List.set_cons_zero, List.set_cons_succ]
              refine wpSeq_take (d := 47) (v := ?_) rfl rfl (by kernel_rfl) (fun w hS => ?_) ?_
              rotate_left
              · go_simp <;> with_reducible rfl
              dsimp only [List.set_cons_zero, List.set_cons_succ]
              refine wpSeq_take (d := 48) (v := ?_) rfl rfl (by kernel_rfl) (fun w hS => ?_) ?_
              rotate_left
              · go_simp <;> with_reducible rfl
              dsimp only [List.set_cons_zero, List.set_cons_succ]
              refine wpSeq_call rfl (by kernel_rfl) (fun K hK => ?_)
              go_simp
              (with_reducible refine (cx _).mono ?_)
              rintro e w' ⟨rfl, rfl⟩
              refine hK.out _ _ hH (fun hH => ?_)
              clear hK
              refine wpSeq_take (d := 50) (v := ?_) rfl rfl (by kernel_rfl) (fun w hS => ?_) ?_
              rotate_left
              · go_simp <;> with_reducible rfl
              dsimp only [List.set_cons_zero, List.set_cons_succ]
              refine wpSeq_take (d := 51) (v := ?_) rfl rfl (by kernel_rfl) (fun w hS => ?_) ?_
              rotate_left
              · go_simp <;> with_reducible rfl
              dsimp only [List.set_cons_zero, List.set_cons_succ]
              refine wpSeq_take (d := 52) (v := ?_) rfl rfl (by kernel_rfl) (fun w hS => ?_) ?_
              rotate_left
              · go_simp <;> with_reducible rfl
              dsimp only [List.set_cons_zero, List.set_cons_succ]
              refine wpSeq_take (d := 53) (v := ?_) rfl rfl (by kernel_rfl) (fun w hS => ?_) ?_
              rotate_left
              · go_simp <;> with_reducible rfl
              dsimp only [List.set_cons_zero, List.set_cons_succ]
              refine wpSeq_take (d := 54) (v := ?_) rfl rfl (by kernel_rfl) (fun w hS => ?_) ?_
              rotate_left
              · go_simp <;> with_reducible rfl
              dsimp only [List.set_cons_zero, List.set_cons_succ]
              refine wpSeq_call rfl (by kernel_rfl) (fun K hK => ?_)
              go_simp
              (with_reducible refine (cy _).mono ?_)
              rintro e w' ⟨rfl, rfl⟩
              refine hK.out _ _ hH (fun hH => ?_)
              clear hK
              refine wpSeq_take (d := 56) (v := ?_) rfl rfl (by kernel_rfl) (fun w hS => ?_) ?_
              rotate_left
              · go_simp <;> with_reducible rfl
              dsimp only [List.set_cons_zero, List.set_cons_succ]
              refine wpSeq_take (d := 57) (v := ?_) rfl rfl (by kernel_rfl) (fun w hS => ?_) ?_
              rotate_left
              · go_simp <;> with_reducible rfl
              dsimp only [List.set_cons_zero, List.set_cons_succ]
              refine wpSeq_take (d := 58) (v := ?_) rfl rfl (by kernel_rfl) (fun w hS => ?_) ?_
              rotate_left
              · go_simp <;> with_reducible rfl
              dsimp only [List.set_cons_zero, List.set_cons_succ]
              refine wpSeq_pass (d := 59) rfl rfl (by kernel_rfl) ?_
              dsimp only [List.set_cons_zero, List.set_cons_succ]
              refine wpSeq_pass (d := 60) rfl rfl (by kernel_rfl) ?_
              dsimp only [List.set_cons_zero, List.set_cons_succ]
              refine wpSeq_pass (d := 61) rfl rfl (by kernel_rfl) ?_
              dsimp only [List.set_cons_zero, List.set_cons_succ]
              refine wpSeq_pass (d := 62) rfl rfl (by kernel_rfl) ?_
              dsimp only [List.set_cons_zero, List.set_cons_succ]
              refine wpSeq_take (d := 63) (v := ?_) rfl rfl (by kernel_rfl) (fun w hS => ?_) ?_
              rotate_left
              · go_simp <;> with_reducible rfl
              dsimp only [List.set_cons_zero, List.set_cons_succ]
              refine wpSeq_take (d := 64) (v := ?_) rfl rfl (by kernel_rfl) (fun w hS => ?_) ?_
              rotate_left
              · go_simp <;> with_reducible rfl
              dsimp only [List.set_cons_zero, List.set_cons_succ]
              refine wpSeq_pass (d := 65) rfl rfl (by kernel_rfl) ?_
              dsimp only [List.set_cons_zero, List.set_cons_succ]
              refine wpSeq_pass (d := 66) rfl rfl (by kernel_rfl) ?_
              dsimp only [List.set_cons_zero, List.set_cons_succ]
              refine wpSeq_pass (d := 67) rfl rfl (by kernel_rfl) ?_
              dsimp only [List.set_cons_zero, List.set_cons_succ]
              refine wpSeq_pass (d := 68) rfl rfl (by kernel_rfl) ?_
              dsimp only [List.set_cons_zero, List.set_cons_succ]
              refine wpSeq_take (d := 69) (v := ?_) rfl rfl (by kernel_rfl) (fun w hS => ?_) ?_
              rotate_left
              · go_simp <;> with_reducible rfl
              dsimp only [List.set_cons_zero, List.set_cons_succ]
              refine wpSeq_done ?_
              refine NoPanic.normal ?_
              have HZ := Lib.hid (HQ.out.trans hH.2.2.2.2.2.2)
              have HR := Lib.hid (HF.out (by simp))
              clear HF HT HQ
              go_wp2
              go_ret
              exact ⟨by rw [HR.out]; rfl, (hQ.out.trans HZ.out).b⟩
            · cases bz
              · refine wp_region_noPanic ?_
                refine wp_region_seq (S := fun w' => w'.cell? ⟨H, 0, none⟩ = some (.slice (some a) d.ws.length ac) ∧ w'.cell? ⟨G, 0, none⟩ = some (.string N) ∧ w'.cell? ⟨G, 1, none⟩ = some (.int .i64 X) ∧ w'.cell? ⟨G, 2, none⟩ = some (.int .i64 Y) ∧ w'.cell? ⟨G, 3, none⟩ = some (.int .i64 Z) ∧ w'.cell? ⟨G, 4, none⟩ = some (.slice so sn sc) ∧ Q wo w') [(0, 0), (1, 0), (2, 2), (3, 0), (4, 0), (5, 0), (6, 0), (7, 0), (8, 0), (9, 0), (10, 0), (11, 0), (12, 2), (13, 0), (14, 0), (15, 0), (16, 0), (17, 2), (18, 0), (19, 0), (20, 0), (21, 0), (22, 0), (23, 2), (24, 0), (25, 0), (26, 0), (27, 0), (28, 0), (29, 2), (30, 0), (31, 0), (32, 0), (33, 1), (34, 1), (35, 1), (36, 1), (37, 0)] [0, 1, 2, 4, 12, 16, 48, 16, 208, 272, 16, 1040, 2576, 4112, 12288, 16384, 49152, 81920, 147456, 278528, 655360, 1048576, 3145728, 5242880, 9437184, 17825792, 41943040, 67108864, 201326592, 335544320, 603979776, 1140850688, 2684354560, 4294967296, 12884901888, 21474836480, 38654705664, 73014444032] [0, 1, 2, 4, 8, 16, 48, 16, 208, 272, 16, 1040, 2576, 4112, 8192, 16384, 49152, 81920, 147456, 278528, 524288, 1048576, 3145728, 5242880, 9437184, 17825792, 33554432, 67108864, 201326592, 335544320, 603979776, 1140850688, 2147483648, 4294967296, 12884901888, 21474836480, 38654705664, 73014444032] (by kernel_rfl) (by kernel_rfl) (fun _ _ _ _ _ h => h) ?_ (fun hH => ?_)
                · exact ⟨qe.keep k0, qe.keep p0, qe.keep p1, qe.keep p2, qe.keep p3, qe.keep p4, qd⟩
                refine wpSeq_take (d := 32) (v := ?_) rfl rfl (by kernel_rfl) (fun w hS => ?_) ?_
                rotate_left
                · go_simp <;> with_reducible rfl
                dsimp only [List.set_cons_zero, List.set_cons_succ]
                refine wpSeq_take (d := 33) (v := ?_) rfl rfl (by kernel_rfl) (fun w hS => ?_) ?_
                rotate_left
                · go_simp <;> with_reducible rfl
                dsimp only [List.set_cons_zero, List.set_cons_succ]
                refine wpSeq_call rfl (by kernel_rfl) (fun K hK => ?_)
                go_simp
                (with_reducible refine (cn _).mono ?_)
                rintro e w' ⟨rfl, rfl⟩
                refine hK.out _ _ hH (fun hH => ?_)
                clear hK
                refine wpSeq_take (d := 35) (v := ?_) rfl rfl (by kernel_rfl) (fun w hS => ?_) ?_
                rotate_left
                · go_simp <;> with_reducible rfl
                dsimp only [List.set_cons_zero, List.set_cons_succ]
                refine wpSeq_take (d := 36) (v := ?_) rfl rfl (by kernel_rfl) (fun w hS => ?_) ?_
                rotate_left
                · go_simp <;> with_reducible rfl
                dsimp only [List.set_cons_zero, List.set_cons_succ]
                refine wpSeq_take (d := 37) (v := ?_) rfl rfl (by kernel_rfl) (fun w hS => ?_) ?_
                rotate_left
                · go_simp <;> with_reducible rfl
                dsimp only [List.set_cons_zero, List.set_cons_succ]
                refine wpSeq_take (d := 38) (v := ?_) rfl rfl (by kernel_rfl) (fun w hS => ?_) ?_
                rotate_left
                · go_simp <;> with_reducible rfl
                dsimp only [List.set_cons_zero, List.set_cons_succ]
                refine wpSeq_take (d := 39) (v := ?_) rfl rfl (by kernel_rfl) (fun w hS => ?_) ?_
                rotate_left
                · go_simp <;> with_reducible rfl
                dsimp only [List.set_cons_zero, List.set_cons_succ]
                refine wpSeq_take (d := 40) (v := ?_) rfl rfl (by kernel_rfl) (fun w hS => ?_) ?_
                rotate_left
                · go_simp <;> with_reducible rfl
                dsimp only [List.set_cons_zero, List.set_cons_succ]
                refine wpSeq_take (d := 41) (v := ?_) rfl rfl (by kernel_rfl) (fun w hS => ?_) ?_
                rotate_left
                · go_simp <;> with_reducible rfl
                dsimp only [List.set_cons_zero, List.set_cons_succ]
                refine wpSeq_take (d := 42) (v := ?_) rfl rfl (by kernel_rfl) (fun w hS => ?_) ?_
                rotate_left
                · go_simp <;> with_reducible rfl
                dsimp only [List.set_cons_zero, List.set_cons_succ]
                refine wpSeq_take (d := 43) (v := ?_) rfl rfl (by kernel_rfl) (fun w hS => ?_) ?_
                rotate_left
                · go_simp <;> with_reducible rfl
                dsimp only [List.set_cons_zero, List.set_cons_succ]
                refine wpSeq_call rfl (by kernel_rfl) (fun K hK => ?_)
                go_simp
                (with_reducible refine (cw _ hH.2.2.2.2.2.2).mono ?_)
                rintro e w' ⟨rfl, hq⟩
                refine hK.out _ _ ?_ (fun hH => ?_)
                · exact ⟨hq.keep hH.1, hq.keep hH.2.1, hq.keep hH.2.2.1, hq.keep hH.2.2.2.1, hq.keep hH.2.2.2.2.1, hq.keep hH.2.2.2.2.2.1, hH.2.2.2.2.2.2.trans hq⟩
                clear hK
                refine wpSeq_take (d := 45) (v := ?_) rfl rfl (by kernel_rfl) (fun w hS => ?_) ?_
                rotate_left
                · go_simp <;> with_reducible rfl
                dsimp only [List.set_cons_zero, List.set_cons_succ]
                refine wpSeq_take (d := 46) (v := ?_) rfl rfl (by kernel_rfl) (fun w hS => ?_) ?_
                rotate_left
                · go_simp <;> with_reducible rfl
                dsimp only [List.set_cons_zero, List.set_cons_succ]
                refine wpSeq_take (d := 47) (v := ?_) rfl rfl (by kernel_rfl) (fun w hS => ?_) ?_
                rotate_left
                · go_simp <;> with_reducible rfl
                dsimp only [List.set_cons_zero, List.set_cons_succ]
                refine wpSeq_take (d := 48) (v := ?_) rfl rfl (by kernel_rfl) (fun w hS => ?_) ?_
                rotate_left
                · go_simp <;> with_reducible rfl
                dsimp only [List.set_cons_zero, List.set_cons_succ]
                refine wpSeq_call rfl (by kernel_rfl) (fun K hK => ?_)
                go_simp
                (with_reducible refine (cx _).mono ?_)
                rintro e w' ⟨rfl, rfl⟩
                refine hK.out _ _ hH (fun hH => ?_)
                clear hK
                refine wpSeq_take (d := 50) (v := ?_) rfl rfl (by kernel_rfl) (fun w hS => ?_) ?_
                rotate_left
                · go_simp <;> with_reducible rfl
                dsimp only [List.set_cons_zero, List.set_cons_succ]
                refine wpSeq_take (d := 51) (v := ?_) rfl rfl (by kernel_rfl) (fun w hS => ?_) ?_
                rotate_left
                · go_simp <;> with_reducible rfl
                dsimp only [List.set_cons_zero, List.set_cons_succ]
                refine wpSeq_take (d := 52) (v := ?_) rfl rfl (by kernel_rfl) (fun w hS => ?_) ?_
                rotate_left
                · go_simp <;> with_reducible rfl
                dsimp only [List.set_cons_zero, List.set_cons_succ]
                refine wpSeq_take (d := 53) (v := ?_) rfl rfl (by kernel_rfl) (fun w hS => ?_) ?_
                rotate_left
                · go_simp <;> with_reducible rfl
                dsimp only [List.set_cons_zero, List.set_cons_succ]
                refine wpSeq_take (d := 54) (v := ?_) rfl rfl (by kernel_rfl) (fun w hS => ?_) ?_
                rotate_left
                · go_simp <;> with_reducible rfl
                dsimp only [List.set_cons_zero, List.set_cons_succ]
                refine wpSeq_call rfl (by kernel_rfl) (fun K hK => ?_)
                go_simp
                (with_reducible refine (cy _).mono ?_)
                rintro e w' ⟨rfl, rfl⟩
                refine hK.out _ _ hH (fun hH => ?_)
                clear hK
                refine wpSeq_take (d := 56) (v := ?_) rfl rfl (by kernel_rfl) (fun w hS => ?_) ?_
                rotate_left
                · go_simp <;> with_reducible rfl
                dsimp only [List.set_cons_zero, List.set_cons_succ]
                refine wpSeq_take (d := 57) (v := ?_) rfl rfl (by kernel_rfl) (fun w hS => ?_) ?_
                rotate_left
                · go_simp <;> with_reducible rfl
                dsimp only [List.set_cons_zero, List.set_cons_succ]
                refine wpSeq_take (d := 58) (v := ?_) rfl rfl (by kernel_rfl) (fun w hS => ?_) ?_
                rotate_left
                · go_simp <;> with_reducible rfl
                dsimp only [List.set_cons_zero, List.set_cons_succ]
                refine wpSeq_take (d := 59) (v := ?_) rfl rfl (by kernel_rfl) (fun w hS => ?_) ?_
                rotate_left
                · go_simp <;> with_reducible rfl
                dsimp only [List.set_cons_zero, List.set_cons_succ]
                refine wpSeq_take (d := 60) (v := ?_) rfl rfl (by kernel_rfl) (fun w hS => ?_) ?_
                rotate_left
                · go_simp <;> with_reducible rfl
                dsimp only [List.set_cons_zero, List.set_cons_succ]
                refine wpSeq_call rfl (by kernel_rfl) (fun K hK => ?_)
                go_simp
                (with_reducible refine (cz _).mono ?_)
                rintro e w' ⟨rfl, rfl⟩
                refine hK.out _ _ hH (fun hH => ?_)
                clear hK
                refine wpSeq_take (d := 62) (v := ?_) rfl rfl (by kernel_rfl) (fun w hS => ?_) ?_
                rotate_left
                · go_simp <;> with_reducible rfl
                dsimp only [List.set_cons_zero, List.set_cons_succ]
                refine wpSeq_take (d := 63) (v := ?_) rfl rfl (by kernel_rfl) (fun w hS => ?_) ?_
                rotate_left
                · go_simp <;> with_reducible rfl
                dsimp only [List.set_cons_zero, List.set_cons_succ]
                refine wpSeq_take (d := 64) (v := ?_) rfl rfl (by kernel_rfl) (fun w hS => ?_) ?_
                rotate_left
                · go_simp <;> with_reducible rfl
                dsimp only [List.set_cons_zero, List.set_cons_succ]
                refine wpSeq_pass (d := 65) rfl rfl (by kernel_rfl) ?_
                dsimp only [List.set_cons_zero, List.set_cons_succ]
                refine wpSeq_pass (d := 66) rfl rfl (by kernel_rfl) ?_
                dsimp only [List.set_cons_zero, List.set_cons_succ]
                refine wpSeq_pass (d := 67) rfl rfl (by kernel_rfl) ?_
                dsimp only [List.set_cons_zero, List.set_cons_succ]
                refine wpSeq_pass (d := 68) rfl rfl (by kernel_rfl) ?_
                dsimp only [List.set_cons_zero, List.set_cons_succ]
                refine wpSeq_take (d := 69) (v := ?_) rfl rfl (by kernel_rfl) (fun w hS => ?_) ?_
                rotate_left
                · go_simp <;> with_reducible rfl
                dsimp only [List.set_cons_zero, List.set_cons_succ]
                refine wpSeq_done ?_
                refine NoPanic.normal ?_
                have HZ := Lib.hid (HQ.out.trans hH.2.2.2.2.2.2)
                have HR := Lib.hid (HF.out (by simp))
                clear HF HT HQ
                go_wp2
                go_ret
                exact ⟨by rw [HR.out]; rfl, (hQ.out.trans HZ.out).b⟩
              · cases bl
                · refine wp_region_noPanic ?_
                  refine wp_region_seq (S := fun w' => w'.cell? ⟨H, 0, none⟩ = some (.slice (some a) d.ws.length ac) ∧ w'.cell? ⟨G, 0, none⟩ = some (.string N) ∧ w'.cell? ⟨G, 1, none⟩ = some (.int .i64 X) ∧ w'.cell? ⟨G, 2, none⟩ = some (.int .i64 Y) ∧ w'.cell? ⟨G, 3, none⟩ = some (.int .i64 Z) ∧ w'.cell? ⟨G, 4, none⟩ = some (.slice so sn sc) ∧ Q wo w') [(0, 0), (1, 0), (2, 2), (3, 0), (4, 0), (5, 0), (6, 0), (7, 0), (8, 0), (9, 0), (10, 0), (11, 0), (12, 2), (13, 0), (14, 0), (15, 0), (16, 0), (17, 2), (18, 0), (19, 0), (20, 0), (21, 0), (22, 0), (23, 2), (24, 0), (25, 0), (26, 0), (27, 0), (28, 0), (29, 2), (30, 0), (31, 0), (32, 0), (33, 0), (34, 0), (35, 2), (36, 0), (37, 0)] [0, 1, 2, 4, 12, 16, 48, 16, 208, 272, 16, 1040, 2576, 4112, 12288, 16384, 49152, 81920, 147456, 278528, 655360, 1048576, 3145728, 5242880, 9437184, 17825792, 41943040, 67108864, 201326592, 335544320, 603979776, 1140850688, 2684354560, 4294967296, 12884901888, 21474836480, 38654705664, 73014444032] [0, 1, 2, 4, 8, 16, 48, 16, 208, 272, 16, 1040, 2576, 4112, 8192, 16384, 49152, 81920, 147456, 278528, 524288, 1048576, 3145728, 5242880, 9437184, 17825792, 33554432, 67108864, 201326592, 335544320, 603979776, 1140850688, 2147483648, 4294967296, 12884901888, 21474836480, 38654705664, 73014444032] (by kernel_rfl) (by kernel_rfl) (fun _ _ _ _ _ h => h) ?_ (fun hH => ?_)
                  · exact ⟨qe.keep k0, qe.keep p0, qe.keep p1, qe.keep p2, qe.keep p3, qe.keep p4, qd⟩
                  refine wpSeq_take (d := 32) (v := ?_) rfl rfl (by kernel_rfl) (fun w hS => ?_) ?_
                  rotate_left
                  · go_simp <;> with_reducible rfl
                  dsimp only [List.set_cons_zero, List.set_cons_succ]
                  refine wpSeq_take (d := 33) (v := ?_) rfl rfl (by kernel_rfl) (fun w hS => ?_) ?_
                  rotate_left
                  · go_simp <;> with_reducible rfl
                  dsimp only [List.set_cons_zero, List.set_cons_succ]
                  refine wpSeq_call rfl (by kernel_rfl) (fun K hK => ?_)
                  go_simp
                  (with_reducible refine (cn _).mono ?_)
                  rintro e w' ⟨rfl, rfl⟩
                  refine hK.out _ _ hH (fun hH => ?_)
                  clear hK
                  refine wpSeq_take (d := 35) (v := ?_) rfl rfl (by kernel_rfl) (fun w hS => ?_) ?_
                  rotate_left
                  · go_simp <;> with_reducible rfl
                  dsimp only [List.set_cons_zero, List.set_cons_succ]
                  refine wpSeq_take (d := 36) (v := ?_) rfl rfl (by kernel_rfl) (fun w hS => ?_) ?_
                  rotate_left
                  · go_simp <;> with_reducible rfl
                  dsimp only [List.set_cons_zero, List.set_cons_succ]
                  refine wpSeq_take (d := 37) (v := ?_) rfl rfl (by kernel_rfl) (fun w hS => ?_) ?_
                  rotate_left
                  · go_simp <;> with_reducible rfl
                  dsimp only [List.set_cons_zero, List.set_cons_succ]
                  refine wpSeq_take (d := 38) (v := ?_) rfl rfl (by kernel_rfl) (fun w hS => ?_) ?_
                  rotate_left
                  · go_simp <;> with_reducible rfl
                  dsimp only [List.set_cons_zero, List.set_cons_succ]
                  refine wpSeq_take (d := 39) (v := ?_) rfl rfl (by kernel_rfl) (fun w hS => ?_) ?_
                  rotate_left
                  · go_simp <;> with_reducible rfl
                  dsimp only [List.set_cons_zero, List.set_cons_succ]
                  refine wpSeq_take (d := 40) (v := ?_) rfl rfl (by kernel_rfl) (fun w hS => ?_) ?_
                  rotate_left
                  · go_simp <;> with_reducible rfl
                  dsimp only [List.set_cons_zero, List.set_cons_succ]
                  refine wpSeq_take (d := 41) (v := ?_) rfl rfl (by kernel_rfl) (fun w hS => ?_) ?_
                  rotate_left
                  · go_simp <;> with_reducible rfl
                  dsimp only [List.set_cons_zero, List.set_cons_succ]
                  refine wpSeq_take (d := 42) (v := ?_) rfl rfl (by kernel_rfl) (fun w hS => ?_) ?_
                  rotate_left
                  · go_simp <;> with_reducible rfl
                  dsimp only [List.set_cons_zero, List.set_cons_succ]
                  refine wpSeq_take (d := 43) (v := ?_) rfl rfl (by kernel_rfl) (fun w hS => ?_) ?_
                  rotate_left
                  · go_simp <;> with_reducible rfl
                  dsimp only [List.set_cons_zero, List.set_cons_succ]
                  refine wpSeq_call rfl (by kernel_rfl) (fun K hK => ?_)
                  go_simp
                  (with_reducible refine (cw _ hH.2.2.2.2.2.2).mono ?_)
                  rintro e w' ⟨rfl, hq⟩
                  refine hK.out _ _ ?_ (fun hH => ?_)
                  · exact ⟨hq.keep hH.1, hq.keep hH.2.1, hq.keep hH.2.2.1, hq.keep hH.2.2.2.1, hq.keep hH.2.2.2.2.1, hq.keep hH.2.2.2.2.2.1, hH.2.2.2.2.2.2.trans hq⟩
                  clear hK
                  refine wpSeq_take (d := 45) (v := ?_) rfl rfl (by kernel_rfl) (fun w hS => ?_) ?_
                  rotate_left
                  · go_simp <;> with_reducible rfl
                  dsimp only [List.set_cons_zero, List.set_cons_succ]
                  refine wpSeq_take (d := 46) (v := ?_) rfl rfl (by kernel_rfl) (fun w hS => ?_) ?_
                  rotate_left
                  · go_simp <;> with_reducible rfl
                  dsimp only [List.set_cons_zero, List.set_cons_succ]
                  refine wpSeq_take (d := 47) (v := ?_) rfl rfl (by kernel_rfl) (fun w hS => ?_) ?_
                  rotate_left
                  · go_simp <;> with_reducible rfl
                  dsimp only [List.set_cons_zero, List.set_cons_succ]
                  refine wpSeq_take (d := 48) (v := ?_) rfl rfl (by kernel_rfl) (fun w hS => ?_) ?_
                  rotate_left
                  · go_simp <;> with_reducible rfl
                  dsimp only [List.set_cons_zero, List.set_cons_succ]
                  refine wpSeq_call rfl (by kernel_rfl) (fun K hK => ?_)
                  go_simp
                  (with_reducible refine (cx _).mono ?_)
                  rintro e w' ⟨rfl, rfl⟩
                  refine hK.out _ _ hH (fun hH => ?_)
                  clear hK
                  refine wpSeq_take (d := 50) (v := ?_) rfl rfl (by kernel_rfl) (fun w hS => ?_) ?_
                  rotate_left
                  · go_simp <;> with_reducible rfl
                  dsimp only [List.set_cons_zero, List.set_cons_succ]
                  refine wpSeq_take (d := 51) (v := ?_) rfl rfl (by kernel_rfl) (fun w hS => ?_) ?_
                  rotate_left
                  · go_simp <;> with_reducible rfl
                  dsimp only [List.set_cons_zero, List.set_cons_succ]
                  refine wpSeq_take (d := 52) (v := ?_) rfl rfl (by kernel_rfl) (fun w hS => ?_) ?_
                  rotate_left
                  · go_simp <;> with_reducible rfl
                  dsimp only [List.set_cons_zero, List.set_cons_succ]
                  refine wpSeq_take (d := 53) (v := ?_) rfl rfl (by kernel_rfl) (fun w hS => ?_) ?_
                  rotate_left
                  · go_simp <;> with_reducible rfl
                  dsimp only [List.set_cons_zero, List.set_cons_succ]
                  refine wpSeq_take (d := 54) (v := ?_) rfl rfl (by kernel_rfl) (fun w hS => ?_) ?_
                  rotate_left
                  · go_simp <;> with_reducible rfl
                  dsimp only [List.set_cons_zero, List.set_cons_succ]
                  refine wpSeq_call rfl (by kernel_rfl) (fun K hK => ?_)
                  go_simp
                  (with_reducible refine (cy _).mono ?_)
                  rintro e w' ⟨rfl, rfl⟩
                  refine hK.out _ _ hH (fun hH => ?_)
                  clear hK
                  refine wpSeq_take (d := 56) (v := ?_) rfl rfl (by kernel_rfl) (fun w hS => ?_) ?_
                  rotate_left
                  · go_simp <;> with_reducible rfl
                  dsimp only [List.set_cons_zero, List.set_cons_succ]
                  refine wpSeq_take (d := 57) (v := ?_) rfl rfl (by kernel_rfl) (fun w hS => ?_) ?_
                  rotate_left
                  · go_simp <;> with_reducible rfl
                  dsimp only [List.set_cons_zero, List.set_cons_succ]
                  refine wpSeq_take (d := 58) (v := ?_) rfl rfl (by kernel_rfl) (fun w hS => ?_) ?_
                  rotate_left
                  · go_simp <;> with_reducible rfl
                  dsimp only [List.set_cons_zero, List.set_cons_succ]
                  refine wpSeq_take (d := 59) (v := ?_) rfl rfl (by kernel_rfl) (fun w hS => ?_) ?_
                  rotate_left
                  · go_simp <;> with_reducible rfl
                  dsimp only [List.set_cons_zero, List.set_cons_succ]
                  refine wpSeq_take (d := 60) (v := ?_) rfl rfl (by kernel_rfl) (fun w hS => ?_) ?_
                  rotate_left
                  · go_simp <;> with_reducible rfl
                  dsimp only [List.set_cons_zero, List.set_cons_succ]
                  refine wpSeq_call rfl (by kernel_rfl) (fun K hK => ?_)
                  go_simp
                  (with_reducible refine (cz _).mono ?_)
                  rintro e w' ⟨rfl, rfl⟩
                  refine hK.out _ _ hH (fun hH => ?_)
                  clear hK
                  refine wpSeq_take (d := 62) (v := ?_) rfl rfl (by kernel_rfl) (fun w hS => ?_) ?_
                  rotate_left
                  · go_simp <;> with_reducible rfl
                  dsimp only [List.set_cons_zero, List.set_cons_succ]
                  refine wpSeq_take (d := 63) (v := ?_) rfl rfl (by kernel_rfl) (fun w hS => ?_) ?_
                  rotate_left
                  · go_simp <;> with_reducible rfl
                  dsimp only [List.set_cons_zero, List.set_cons_succ]
                  refine wpSeq_take (d := 64) (v := ?_) rfl rfl (by kernel_rfl) (fun w hS => ?_) ?_
                  rotate_left
                  · go_simp <;> with_reducible rfl
                  dsimp only [List.set_cons_zero, List.set_cons_succ]
                  refine wpSeq_take (d := 65) (v := ?_) rfl rfl (by kernel_rfl) (fun w hS => ?_) ?_
                  rotate_left
                  · go_simp <;> with_reducible rfl
                  dsimp only [List.set_cons_zero, List.set_cons_succ]
                  refine wpSeq_take (d := 66) (v := ?_) rfl rfl (by kernel_rfl) (fun w hS => ?_) ?_
                  rotate_left
                  · go_simp <;> with_reducible rfl
                  dsimp only [List.set_cons_zero, List.set_cons_succ]
                  refine wpSeq_call rfl (by kernel_rfl) (fun K hK => ?_)
                  go_simp
                  (with_reducible refine (cl _ hH.2.2.2.2.2.2).mono ?_)
                  rintro e w' ⟨rfl, hq⟩
                  refine hK.out _ _ ?_ (fun hH => ?_)
                  · exact ⟨hq.keep hH.1, hq.keep hH.2.1, hq.keep hH.2.2.1, hq.keep hH.2.2.2.1, hq.keep hH.2.2.2.2.1, hq.keep hH.2.2.2.2.2.1, hH.2.2.2.2.2.2.trans hq⟩
                  clear hK
                  refine wpSeq_take (d := 68) (v := ?_) rfl rfl (by kernel_rfl) (fun w hS => ?_) ?_
                  rotate_left
                  · go_simp <;> with_reducible rfl
                  dsimp only [List.set_cons_zero, List.set_cons_succ]
                  refine wpSeq_take (d := 69) (v := ?_) rfl rfl (by kernel_rfl) (fun w hS => ?_) ?_
                  rotate_left
                  · go_simp <;> with_reducible rfl
                  dsimp only [List.set_cons_zero, List.set_cons_succ]
                  refine wpSeq_done ?_
                  refine NoPanic.normal ?_
                  have HZ := Lib.hid (HQ.out.trans hH.2.2.2.2.2.2)
                  have HR := Lib.hid (HF.out (by simp))
                  clear HF HT HQ
                  go_wp2
                  go_ret
                  exact ⟨by rw [HR.out]; rfl, (hQ.out.trans HZ.out).b⟩
                · refine wp_region_noPanic ?_
                  refine wp_region_seq (S := fun w' => w'.cell? ⟨H, 0, none⟩ = some (.slice (some a) d.ws.length ac) ∧ w'.cell? ⟨G, 0, none⟩ = some (.string N) ∧ w'.cell? ⟨G, 1, none⟩ = some (.int .i64 X) ∧ w'.cell? ⟨G, 2, none⟩ = some (.int .i64 Y) ∧ w'.cell? ⟨G, 3, none⟩ = some (.int .i64 Z) ∧ w'.cell? ⟨G, 4, none⟩ = some (.slice so sn sc) ∧ Q wo w') [(0, 0), (1, 0), (2, 2), (3, 0), (4, 0), (5, 0), (6, 0), (7, 0), (8, 0), (9, 0), (10, 0), (11, 0), (12, 2), (13, 0), (14, 0), (15, 0), (16, 0), (17, 2), (18, 0), (19, 0), (20, 0), (21, 0), (22, 0), (23, 2), (24, 0), (25, 0), (26, 0), (27, 0), (28, 0), (29, 2), (30, 0), (31, 0), (32, 0), (33, 0), (34, 0), (35, 2), (36, 0), (37, 0)] [0, 1, 2, 4, 12, 16, 48, 16, 208, 272, 16, 1040, 2576, 4112, 12288, 16384, 49152, 81920, 147456, 278528, 655360, 1048576, 3145728, 5242880, 9437184, 17825792, 41943040, 67108864, 201326592, 335544320, 603979776, 1140850688, 2684354560, 4294967296, 12884901888, 21474836480, 38654705664, 73014444032] [0, 1, 2, 4, 8, 16, 48, 16, 208, 272, 16, 1040, 2576, 4112, 8192, 16384, 49152, 81920, 147456, 278528, 524288, 1048576, 3145728, 5242880, 9437184, 17825792, 33554432, 67108864, 201326592, 335544320, 603979776, 1140850688, 2147483648, 4294967296, 12884901888, 21474836480, 38654705664, 73014444032] (by kernel_rfl) (by kernel_rfl) (fun _ _ _ _ _ h => h) ?_ (fun hH => ?_)
                  · exact ⟨qe.keep k0, qe.keep p0, qe.keep p1, qe.keep p2, qe.keep p3, qe.keep p4, qd⟩
                  refine wpSeq_take (d := 32) (v := ?_) rfl rfl (by kernel_rfl) (fun w hS => ?_) ?_
                  rotate_left
                  · go_simp <;> with_reducible rfl
                  dsimp only [List.set_cons_zero, List.set_cons_succ]
                  refine wpSeq_take (d := 33) (v := ?_) rfl rfl (by kernel_rfl) (fun w hS => ?_) ?_
                  rotate_left
                  · go_simp <;> with_reducible rfl
                  dsimp only [List.set_cons_zero, List.set_cons_succ]
                  refine wpSeq_call rfl (by kernel_rfl) (fun K hK => ?_)
                  go_simp
                  (with_reducible refine (cn _).mono ?_)
                  rintro e w' ⟨rfl, rfl⟩
                  refine hK.out _ _ hH (fun hH => ?_)
                  clear hK
                  refine wpSeq_take (d := 35) (v := ?_) rfl rfl (by kernel_rfl) (fun w hS => ?_) ?_
                  rotate_left
                  · go_simp <;> with_reducible rfl
                  dsimp only [List.set_cons_zero, List.set_cons_succ]
                  refine wpSeq_take (d := 36) (v := ?_) rfl rfl (by kernel_rfl) (fun w hS => ?_) ?_
                  rotate_left
                  · go_simp <;> with_reducible rfl
                  dsimp only [List.set_cons_zero, List.set_cons_succ]
                  refine wpSeq_take (d := 37) (v := ?_) rfl rfl (by kernel_rfl) (fun w hS => ?_) ?_
                  rotate_left
                  · go_simp <;> with_reducible rfl
                  dsimp only [List.set_cons_zero, List.set_cons_succ]
                  refine wpSeq_take (d := 38) (v := ?_) rfl rfl (by kernel_rfl) (fun w hS => ?_) ?_
                  rotate_left
                  · go_simp <;> with_reducible rfl
                  dsimp only [List.set_cons_zero, List.set_cons_succ]
                  refine wpSeq_take (d := 39) (v := ?_) rfl rfl (by kernel_rfl) (fun w hS => ?_) ?_
                  rotate_left
                  · go_simp <;> with_reducible rfl
                  dsimp only [List.set_cons_zero, List.set_cons_succ]
                  refine wpSeq_take (d := 40) (v := ?_) rfl rfl (by kernel_rfl) (fun w hS => ?_) ?_
                  rotate_left
                  · go_simp <;> with_reducible rfl
                  dsimp only [List.set_cons_zero, List.set_cons_succ]
                  refine wpSeq_take (d := 41) (v := ?_) rfl rfl (by kernel_rfl) (fun w hS => ?_) ?_
                  rotate_left
                  · go_simp <;> with_reducible rfl
                  dsimp only [List.set_cons_zero, List.set_cons_succ]
                  refine wpSeq_take (d := 42) (v := ?_) rfl rfl (by kernel_rfl) (fun w hS => ?_) ?_
                  rotate_left
                  · go_simp <;> with_reducible rfl
                  dsimp only [List.set_cons_zero, List.set_cons_succ]
                  refine wpSeq_take (d := 43) (v := ?_) rfl rfl (by kernel_rfl) (fun w hS => ?_) ?_
                  rotate_left
                  · go_simp <;> with_reducible rfl
                  dsimp only [List.set_cons_zero, List.set_cons_succ]
                  refine wpSeq_call rfl (by kernel_rfl) (fun K hK => ?_)
                  go_simp
                  (with_reducible refine (cw _ hH.2.2.2.2.2.2).mono ?_)
                  rintro e w' ⟨rfl, hq⟩
                  refine hK.out _ _ ?_ (fun hH => ?_)
                  · exact ⟨hq.keep hH.1, hq.keep hH.2.1, hq.keep hH.2.2.1, hq.keep hH.2.2.2.1, hq.keep hH.2.2.2.2.1, hq.keep hH.2.2.2.2.2.1, hH.2.2.2.2.2.2.trans hq⟩
                  clear hK
                  refine wpSeq_take (d := 45) (v := ?_) rfl rfl (by kernel_rfl) (fun w hS => ?_) ?_
                  rotate_left
                  · go_simp <;> with_reducible rfl
                  dsimp only [List.set_cons_zero, List.set_cons_succ]
                  refine wpSeq_take (d := 46) (v := ?_) rfl rfl (by kernel_rfl) (fun w hS => ?_) ?_
                  rotate_left
                  · go_simp <;> with_reducible rfl
                  dsimp only [List.set_cons_zero, List.set_cons_succ]
                  refine wpSeq_take (d := 47) (v := ?_) rfl rfl (by kernel_rfl) (fun w hS => ?_) ?_
                  rotate_left
                  · go_simp <;> with_reducible rfl
                  dsimp only [List.set_cons_zero, List.set_cons_succ]
                  refine wpSeq_take (d := 48) (v := ?_) rfl rfl (by kernel_rfl) (fun w hS => ?_) ?_
                  rotate_left
                  · go_simp <;> with_reducible rfl
                  dsimp only [List.set_cons_zero, List.set_cons_succ]
                  refine wpSeq_call rfl (by kernel_rfl) (fun K hK => ?_)
                  go_simp
                  (with_reducible refine (cx _).mono ?_)
                  rintro e w' ⟨rfl, rfl⟩
                  refine hK.out _ _ hH (fun hH => ?_)
                  clear hK
                  refine wpSeq_take (d := 50) (v := ?_) rfl rfl (by kernel_rfl) (fun w hS => ?_) ?_
                  rotate_left
                  · go_simp <;> with_reducible rfl
                  dsimp only [List.set_cons_zero, List.set_cons_succ]
                  refine wpSeq_take (d := 51) (v := ?_) rfl rfl (by kernel_rfl) (fun w hS => ?_) ?_
                  rotate_left
                  · go_simp <;> with_reducible rfl
                  dsimp only [List.set_cons_zero, List.set_cons_succ]
                  refine wpSeq_take (d := 52) (v := ?_) rfl rfl (by kernel_rfl) (fun w hS => ?_) ?_
                  rotate_left
                  · go_simp <;> with_reducible rfl
                  dsimp only [List.set_cons_zero, List.set_cons_succ]
                  refine wpSeq_take (d := 53) (v := ?_) rfl rfl (by kernel_rfl) (fun w hS => ?_) ?_
                  rotate_left
                  · go_simp <;> with_reducible rfl
                  dsimp only [List.set_cons_zero, List.set_cons_succ]
                  refine wpSeq_take (d := 54) (v := ?_) rfl rfl (by kernel_rfl) (fun w hS => ?_) ?_
                  rotate_left
                  · go_simp <;> with_reducible rfl
                  dsimp only [List.set_cons_zero, List.set_cons_succ]
                  refine wpSeq_call rfl (by kernel_rfl) (fun K hK => ?_)
                  go_simp
                  (with_reducible refine (cy _).mono ?_)
                  rintro e w' ⟨rfl, rfl⟩
                  refine hK.out _ _ hH (fun hH => ?_)
                  clear hK
                  refine wpSeq_take (d := 56) (v := ?_) rfl rfl (by kernel_rfl) (fun w hS => ?_) ?_
                  rotate_left
                  · go_simp <;> with_reducible rfl
                  dsimp only [List.set_cons_zero, List.set_cons_succ]
                  refine wpSeq_take (d := 57) (v := ?_) rfl rfl (by kernel_rfl) (fun w hS => ?_) ?_
                  rotate_left
                  · go_simp <;> with_reducible rfl
                  dsimp only [List.set_cons_zero, List.set_cons_succ]
                  refine wpSeq_take (d := 58) (v := ?_) rfl rfl (by kernel_rfl) (fun w hS => ?_) ?_
                  rotate_left
                  · go_simp <;> with_reducible rfl
                  dsimp only [List.set_cons_zero, List.set_cons_succ]
                  refine wpSeq_take (d := 59) (v := ?_) rfl rfl (by kernel_rfl) (fun w hS => ?_) ?_
                  rotate_left
                  · go_simp <;> with_reducible rfl
                  dsimp only [List.set_cons_zero, List.set_cons_succ]
                  refine wpSeq_take (d := 60) (v := ?_) rfl rfl (by kernel_rfl) (fun w hS => ?_) ?_
                  rotate_left
                  · go_simp <;> with_reducible rfl
                  dsimp only [List.set_cons_zero, List.set_cons_succ]
                  refine wpSeq_call rfl (by kernel_rfl) (fun K hK => ?_)
                  go_simp
                  (with_reducible refine (cz _).mono ?_)
                  rintro e w' ⟨rfl, rfl⟩
                  refine hK.out _ _ hH (fun hH => ?_)
                  clear hK
                  refine wpSeq_take (d := 62) (v := ?_) rfl rfl (by kernel_rfl) (fun w hS => ?_) ?_
                  rotate_left
                  · go_simp <;> with_reducible rfl
                  dsimp only [List.set_cons_zero, List.set_cons_succ]
                  refine wpSeq_take (d := 63) (v := ?_) rfl rfl (by kernel_rfl) (fun w hS => ?_) ?_
                  rotate_left
                  · go_simp <;> with_reducible rfl
                  dsimp only [List.set_cons_zero, List.set_cons_succ]
                  refine wpSeq_take (d := 64) (v := ?_) rfl rfl (by kernel_rfl) (fun w hS => ?_) ?_
                  rotate_left
                  · go_simp <;> with_reducible rfl
                  dsimp only [List.set_cons_zero, List.set_cons_succ]
                  refine wpSeq_take (d := 65) (v := ?_) rfl rfl (by kernel_rfl) (fun w hS => ?_) ?_
                  rotate_left
                  · go_simp <;> with_reducible rfl
                  dsimp only [List.set_cons_zero, List.set_cons_succ]
                  refine wpSeq_take (d := 66) (v := ?_) rfl rfl (by kernel_rfl) (fun w hS => ?_) ?_
                  rotate_left
                  · go_simp <;> with_reducible rfl
                  dsimp only [List.set_cons_zero, List.set_cons_succ]
                  refine wpSeq_call rfl (by kernel_rfl) (fun K hK => ?_)
                  go_simp
                  (with_reducible refine (cl _ hH.2.2.2.2.2.2).mono ?_)
                  rintro e w' ⟨rfl, hq⟩
                  refine hK.out _ _ ?_ (fun hH => ?_)
                  · exact ⟨hq.keep hH.1, hq.keep hH.2.1, hq.keep hH.2.2.1, hq.keep hH.2.2.2.1, hq.keep hH.2.2.2.2.1, hq.keep hH.2.2.2.2.2.1, hH.2.2.2.2.2.2.trans hq⟩
                  clear hK
                  refine wpSeq_take (d := 68) (v := ?_) rfl rfl (by kernel_rfl) (fun w hS => ?_) ?_
                  rotate_left
                  · go_simp <;> with_reducible rfl
                  dsimp only [List.set_cons_zero, List.set_cons_succ]
                  refine wpSeq_take (d := 69) (v := ?_) rfl rfl (by kernel_rfl) (fun w hS => ?_) ?_
                  rotate_left
                  · go_simp <;> with_reducible rfl
                  dsimp only [List.set_cons_zero, List.set_cons_succ]
                  refine wpSeq_done ?_
                  refine NoPanic.normal ?_
                  have HZ := Lib.hid (HQ.out.trans hH.2.2.2.2.2.2)
                  have HA := Lib.hid (HT.out (by rfl))
                  clear HF HT HQ cn cw cx cy cz cl hH
                  go_wp2
                  go_roundw
                  case rel => exact ⟨i + 1, by have := HL.out; omega, by go_num, HA.out, HZ.out⟩
                  case measure => have := HL.out; simp [intOf]; omega
        · refine wp_region_noPanic ?_
          refine wp_region_seq (S := fun w' => w'.cell? ⟨H, 0, none⟩ = some (.slice (some a) d.ws.length ac) ∧ w'.cell? ⟨G, 0, none⟩ = some (.string N) ∧ w'.cell? ⟨G, 1, none⟩ = some (.int .i64 X) ∧ w'.cell? ⟨G, 2, none⟩ = some (.int .i64 Y) ∧ w'.cell? ⟨G, 3, none⟩ = some (.int .i64 Z) ∧ w'.cell? ⟨G, 4, none⟩ = some (.slice so sn sc) ∧ Q wo w') [(0, 0), (1, 0), (2, 2), (3, 0), (4, 0), (5, 0), (6, 0), (7, 0), (8, 0), (9, 0), (10, 0), (11, 0), (12, 2), (13, 0), (14, 0), (15, 1), (16, 1), (17, 1), (18, 1), (19, 0), (20, 0), (21, 1), (22, 1), (23, 1), (24, 1), (25, 0), (26, 0), (27, 1), (28, 1), (29, 1), (30, 1), (31, 0), (32, 0), (33, 1), (34, 1), (35, 1), (36, 1), (37, 0)] [0, 1, 2, 4, 12, 16, 48, 16, 208, 272, 16, 1040, 2576, 4112, 12288, 16384, 49152, 81920, 147456, 278528, 655360, 1048576, 3145728, 5242880, 9437184, 17825792, 41943040, 67108864, 201326592, 335544320, 603979776, 1140850688, 2684354560, 4294967296, 12884901888, 21474836480, 38654705664, 73014444032] [0, 1, 2, 4, 8, 16, 48, 16, 208, 272, 16, 1040, 2576, 4112, 8192, 16384, 49152, 81920, 147456, 278528, 524288, 1048576, 3145728, 5242880, 9437184, 17825792, 33554432, 67108864, 201326592, 335544320, 603979776, 1140850688, 2147483648, 4294967296, 12884901888, 21474836480, 38654705664, 73014444032] (by kernel_rfl) (by kernel_rfl) (fun _ _ _ _ _ h => h) ?_ (fun hH => ?_)
          · exact ⟨qe.keep k0, qe.keep p0, qe.keep p1, qe.keep p2, qe.keep p3, qe.keep p4, qd⟩
          refine wpSeq_take (d := 32) (v := ?_) rfl rfl (by kernel_rfl) (fun w hS => ?_) ?_
          rotate_left
          · go_simp <;> with_reducible rfl
          dsimp only [List.set_cons_zero, List.set_cons_succ]
          refine wpSeq_take (d := 33) (v := ?_) rfl rfl (by kernel_rfl) (fun w hS => ?_) ?_
          rotate_left
          · go_simp <;> with_reducible rfl
          dsimp only [List.set_cons_zero, List.set_cons_succ]
          refine wpSeq_call rfl (by kernel_rfl) (fun K hK => ?_)
          go_simp
          (with_reducible refine (cn _).mono ?_)
          rintro e w' ⟨rfl, rfl⟩
          refine hK.out _ _ hH (fun hH => ?_)
          clear hK
          refine wpSeq_take (d := 35) (v := ?_) rfl rfl (by kernel_rfl) (fun w hS => ?_) ?_
          rotate_left
          · go_simp <;> with_reducible rfl
          dsimp only [List.set_cons_zero, List.set_cons_succ]
          refine wpSeq_take (d := 36) (v := ?_) rfl rfl (by kernel_rfl) (fun w hS => ?_) ?_
          rotate_left
          · go_simp <;> with_reducible rfl
          dsimp only [List.set_cons_zero, List.set_cons_succ]
          refine wpSeq_take (d := 37) (v := ?_) rfl rfl (by kernel_rfl) (fun w hS => ?_) ?_
          rotate_left
          · go_simp <;> with_reducible rfl
          dsimp only [List.set_cons_zero, List.set_cons_succ]
          refine wpSeq_take (d := 38) (v := ?_) rfl rfl (by kernel_rfl) (fun w hS => ?_) ?_
          rotate_left
          · go_simp <;> with_reducible rfl
          dsimp only [List.set_cons_zero, List.set_cons_succ]
          refine wpSeq_take (d := 39) (v := ?_) rfl rfl (by kernel_rfl) (fun w hS => ?_) ?_
          rotate_left
          · go_simp <;> with_reducible rfl
          dsimp only [List.set_cons_zero, List.set_cons_succ]
          refine wpSeq_take (d := 40) (v := ?_) rfl rfl (by kernel_rfl) (fun w hS => ?_) ?_
          rotate_left
          · go_simp <;> with_reducible rfl
          dsimp only [List.set_cons_zero, List.set_cons_succ]
          refine wpSeq_take (d := 41) (v := ?_) rfl rfl (by kernel_rfl) (fun w hS => ?_) ?_
          rotate_left
          · go_simp <;> with_reducible rfl
          dsimp only [List.set_cons_zero, List.set_cons_succ]
          refine wpSeq_take (d := 42) (v := ?_) rfl rfl (by kernel_rfl) (fun w hS => ?_) ?_
          rotate_left
          · go_simp <;> with_reducible rfl
          dsimp only [List.set_cons_zero, List.set_cons_succ]
          refine wpSeq_take (d := 43) (v := ?_) rfl rfl (by kernel_rfl) (fun w hS => ?_) ?_
          rotate_left
          · go_simp <;> with_reducible rfl
          dsimp only [List.set_cons_zero, List.set_cons_succ]
          refine wpSeq_call rfl (by kernel_rfl) (fun K hK => ?_)
          go_simp
          (with_reducible refine (cw _ hH.2.2.2.2.2.2).mono ?_)
          rintro e w' ⟨rfl, hq⟩
          refine hK.out _ _ ?_ (fun hH => ?_)
          · exact ⟨hq.keep hH.1, hq.keep hH.2.1, hq.keep hH.2.2.1, hq.keep hH.2.2.2.1, hq.keep hH.2.2.2.2.1, hq.keep hH.2.2.2.2.2.1, hH.2.2.2.2.2.2.trans hq⟩
          clear hK
          refine wpSeq_take (d := 45) (v := ?_) rfl rfl (by kernel_rfl) (fun w hS => ?_) ?_
          rotate_left
          · go_simp <;> with_reducible rfl
          dsimp only [List.set_cons_zero, List.set_cons_succ]
          refine wpSeq_take (d := 46) (v := ?_) rfl rfl (by kernel_rfl) (fun w hS => ?_) ?_
          rotate_left
          · go_simp <;> with_reducible rfl
          dsimp only [List.set_cons_zero, List.set_cons_succ]
          refine wpSeq_pass (d := 47) rfl rfl (by kernel_rfl) ?_
          dsimp only [List.set_cons_zero, List.set_cons_succ]
          refine wpSeq_pass (d := 48) rfl rfl (by kernel_rfl) ?_
          dsimp only [List.set_cons_zero, List.set_cons_succ]
          refine wpSeq_pass (d := 49) rfl rfl (by kernel_rfl) ?_
          dsimp only [List.set_cons_zero, List.set_cons_succ]
          refine wpSeq_pass (d := 50) rfl rfl (by kernel_rfl) ?_
          dsimp only [List.set_cons_zero, List.set_cons_succ]
          refine wpSeq_take (d := 51) (v := ?_) rfl rfl (by kernel_rfl) (fun w hS => ?_) ?_
          rotate_left
          · go_simp <;> with_reducible rfl
          dsimp only [List.set_cons_zero, List.set_cons_succ]
          refine wpSeq_take (d := 52) (v := ?_) rfl rfl (by kernel_rfl) (fun w hS => ?_) ?_
          rotate_left
          · go_simp <;> with_reducible rfl
          dsimp only [List.set_cons_zero, List.set_cons_succ]
          refine wpSeq_pass (d := 53) rfl rfl (by kernel_rfl) ?_
          dsimp only [List.set_cons_zero, List.set_cons_succ]
          refine wpSeq_pass (d := 54) rfl rfl (by kernel_rfl) ?_
          dsimp only [List.set_cons_zero, List.set_cons_succ]
          refine wpSeq_pass (d := 55) rfl rfl (by kernel_rfl) ?_
          dsimp only [List.set_cons_zero, List.set_cons_succ]
          refine wpSeq_pass (d := 56) rfl rfl (by kernel_rfl) ?_
          dsimp only [List.set_cons_zero, List.set_cons_succ]
          refine wpSeq_take (d := 57) (v := ?_) rfl rfl (by kernel_rfl) (fun w hS => ?_) ?_
          rotate_left
          · go_simp <;> with_reducible rfl
          dsimp only [List.set_cons_zero, List.set_cons_succ]
          refine wpSeq_take (d := 58) (v := ?_) rfl rfl (by kernel_rfl) (fun w hS => ?_) ?_
          rotate_left
          · go_simp <;> with_reducible rfl
          dsimp only [List.set_cons_zero, List.set_cons_succ]
          refine wpSeq_pass (d := 59) rfl rfl (by kernel_rfl) ?_
          dsimp only [List.set_cons_zero, List.set_cons_succ]
          refine wpSeq_pass (d := 60) rfl rfl (by kernel_rfl) ?_
          dsimp only [List.set_cons_zero, List.set_cons_succ]
          refine wpSeq_pass (d := 61) rfl rfl (by kernel_rfl) ?_
          dsimp only [List.set_cons_zero, List.set_cons_succ]
          refine wpSeq_pass (d := 62) rfl rfl (by kernel_rfl) ?_
          dsimp only [List.set_cons_zero, List.set_cons_succ]
          refine wpSeq_take (d := 63) (v := ?_) rfl rfl (by kernel_rfl) (fun w hS => ?_) ?_
          rotate_left
          · go_simp <;> with_reducible rfl
          dsimp only [List.set_cons_zero, List.set_cons_succ]
          refine wpSeq_take (d := 64) (v := ?_) rfl rfl (by kernel_rfl) (fun w hS => ?_) ?_
          rotate_left
          · go_simp <;> with_reducible rfl
          dsimp only [List.set_cons_zero, List.set_cons_succ]
          refine wpSeq_pass (d := 65) rfl rfl (by kernel_rfl) ?_
          dsimp only [List.set_cons_zero, List.set_cons_succ]
          refine wpSeq_pass (d := 66) rfl rfl (by kernel_rfl) ?_
          dsimp only [List.set_cons_zero, List.set_cons_succ]
          refine wpSeq_pass (d := 67) rfl rfl (by kernel_rfl) ?_
          dsimp only [List.set_cons_zero, List.set_cons_succ]
          refine wpSeq_pass (d := 68) rfl rfl (by kernel_rfl) ?_
          dsimp only [List.set_cons_zero, List.set_cons_succ]
          refine wpSeq_take (d := 69) (v := ?_) rfl rfl (by kernel_rfl) (fun w hS => ?_) ?_
          rotate_left
          · go_simp <;> with_reducible rfl
          dsimp only [List.set_cons_zero, List.set_cons_succ]
          refine wpSeq_done ?_
          refine NoPanic.normal ?_
          have HZ := Lib.hid (HQ.out.trans hH.2.2.2.2.2.2)
          have HR := Lib.hid (HF.out (by simp))
          clear HF HT HQ
          go_wp2
          go_ret
          exact ⟨by rw [HR.out]; rfl, (hQ.out.trans HZ.out).b⟩
    · have hlB : decide ((i : Int) < (d.ws.length : Int)) = false := decide_eq_false (by omega)
      have hWS := Lib.hid (apart_yes (ok := wareOk) (ws := d.ws) fun j F hF => hall j F hF (by obtain ⟨x, _⟩ := List.getElem?_eq_some_iff.1 hF; omega))
      clear hRW hall hi
      replace hQ := Lib.hid (hQ.out.trans hQi).b
      go_wp2
      clear hl hlB hQi
      go_loopw [5] (fun iv wr => ∃ i : Nat, i ≤ d.ts.length ∧ iv = .int .i64 i ∧ UpTo tipOk d.ts i ∧ B wo wr) (fun iv _ => d.ts.length + 1 - (intOf iv).toNat)
      case atStart => exact ⟨0, Nat.zero_le _, rfl, fun j _ _ hj => by omega, B.refl _⟩
      case round =>
        obtain ⟨i, hi, rfl, hall, hQi⟩ := hrel
        obtain ⟨wt, rfl⟩ : ∃ wt : World, wt = wr := ⟨_, rfl⟩
        replace k0 := hQi.keep k0
        replace k1 := hQi.keep k1
        replace k2 := hQi.keep k2
        replace hD := hD.keepB hQi
        by_cases hl : i < d.ts.length
        · have hlB : decide ((i : Int) < (d.ts.length : Int)) = true := decide_eq_true (by omega)
          have hlI : (i : Int) < (d.ts.length : Int) := by omega
          have hi0 : (0 : Int) ≤ (i : Int) := by omega
          have wk1 : IntKind.i64.wrap ((i : Int) + 1) = (i : Int) + 1 := by rw [IntKind.wrap_i64]; omega
          obtain ⟨a, cap, e1, g8, g9, hr⟩ := hD.ts.at_ hl
          obtain ⟨rfl, _, rfl⟩ : bo = some a ∧ True ∧ bc = cap := by simpa using e1
          have htk := recs_take hD.ts (i := i) (by omega)
          have hle : i ≤ bc := by omega
          obtain ⟨F, hF⟩ : ∃ F, d.ts[i]? = some F := ⟨_, List.getElem?_eq_getElem hl⟩
          have hF2 : d.ts[i] = F := by rw [List.getElem?_eq_getElem hl] at hF; simpa using hF
          rw [hF2] at hr
          have hbad := fun e => hRT (apart_no hF e)
          have hgood := hall.next hF
          clear hF hF2 e1
          obtain ⟨N, X, Y, Z, SL⟩ := F
          obtain ⟨g1, g2, g3, g4, sv, g5, g6⟩ := hr
          simp only at g1 g2 g3 g4 g5 g6 hbad hgood
          have ct := fun w2 (q : B wt w2) => r8tipright_any N X Y Z sv SL w2 (g6.keepB q)
          have cw := fun w2 (q : B wt w2) => r8tnamed_any (.slice none 0 0) (.slice (some a) i bc) (.slice none 0 0) ⟨[], d.ts.take i, []⟩ N w2 ⟨.inl ⟨rfl, rfl⟩, htk.keepB q, .inl ⟨rfl, rfl⟩⟩
          obtain ⟨so, sc, rfl⟩ := secs_form g6
          rw [← tipB_ok] at hbad hgood
          generalize tipB N X Y Z SL = bt at *
          generalize namedW (d.ts.take i) N = bw at *
          have HF := Lib.hid hbad
          have HT := Lib.hid hgood
          have HL := Lib.hid hl
          obtain ⟨sn, hsn⟩ : ∃ sn, SL.length = sn := ⟨_, rfl⟩
          rw [hsn] at g5
          simp only [hsn] at ct
          have qe : B wt wt.drew := ((Q.refl wt).drew).b
          have HQ := Lib.hid (hQi)
          clear hbad hgood hl hi hall htk hD hsn g6 n8 n4 hRT hRF hQi
          go_wp2_with fail
          cases bt
          · refine wp_region_noPanic ?_
            refine wp_region_seq (S := fun w' => w'.cell? (⟨H, 1, none⟩) = some (.slice (some a) d.ts.length bc) ∧ w'.cell? (a.add (i * 5)) = some (.string N) ∧ w'.cell? (⟨(a.add (i * 5)).block, (a.add (i * 5)).off + 1, none⟩) = some (.int .i64 X) ∧ w'.cell? (⟨(a.add (i * 5)).block, (a.add (i * 5)).off + 2, none⟩) = some (.int .i64 Y) ∧ w'.cell? (⟨(a.add (i * 5)).block, (a.add (i * 5)).off + 3, none⟩) = some (.int .i64 Z) ∧ w'.cell? (⟨(a.add (i * 5)).block, (a.add (i * 5)).off + 4, none⟩) = some (.slice so sn sc) ∧ B wt w') [(0, 0), (1, 0), (2, 0), (3, 0), (4, 0), (5, 2), (6, 0), (7, 0), (8, 1), (9, 1), (10, 1), (11, 1), (12, 1), (13, 1), (14, 1), (15, 1), (16, 1), (17, 1), (18, 1), (19, 1), (20, 0)] [0, 1, 0, 6, 8, 16, 32, 96, 128, 384, 128, 1664, 2176, 128, 8320, 128, 49280, 65664, 131200, 266368, 524416] [0, 1, 0, 6, 8, 16, 32, 64, 128, 384, 128, 1664, 2176, 128, 8320, 128, 49280, 65664, 131200, 266368, 524416] (by kernel_rfl) (by kernel_rfl) (fun _ _ _ _ _ h => h) ?_ (fun hH => ?_)
            · exact ⟨qe.keep k1, qe.keep g1, qe.keep g2, qe.keep g3, qe.keep g4, qe.keep g5, qe⟩
            refine wpSeq_take (d := 77) (v := ?_) rfl rfl (by kernel_rfl) (fun w hS => ?_) ?_
            rotate_left
            · go_simp <;> with_reducible rfl
            dsimp only [List.set_cons_zero, List.set_cons_succ]
            refine wpSeq_take (d := 78) (v := ?_) rfl rfl (by kernel_rfl) (fun w hS => ?_) ?_
            rotate_left
            · go_simp <;> with_reducible rfl
            dsimp only [List.set_cons_zero, List.set_cons_succ]
            refine wpSeq_take (d := 79) (v := ?_) rfl rfl (by kernel_rfl) (fun w hS => ?_) ?_
            rotate_left
            · go_simp <;> with_reducible rfl
            dsimp only [List.set_cons_zero, List.set_cons_succ]
            refine wpSeq_take (d := 80) (v := ?_) rfl rfl (by kernel_rfl) (fun w hS => ?_) ?_
            rotate_left
            · go_simp <;> with_reducible rfl
            dsimp only [List.set_cons_zero, List.set_cons_succ]
            refine wpSeq_take (d := 81) (v := ?_) rfl rfl (by kernel_rfl) (fun w hS => ?_) ?_
            rotate_left
            · go_simp <;> with_reducible rfl
            dsimp only [List.set_cons_zero, List.set_cons_succ]
            refine wpSeq_call rfl (by kernel_rfl) (fun K hK => ?_)
            go_simp
            (with_reducible refine (ct _ hH.2.2.2.2.2.2).mono ?_)
            rintro e w' ⟨rfl, hq⟩
            refine hK.out _ _ ?_ (fun hH => ?_)
            · exact ⟨hq.keep hH.1, hq.keep hH.2.1, hq.keep hH.2.2.1, hq.keep hH.2.2.2.1, hq.keep hH.2.2.2.2.1, hq.keep hH.2.2.2.2.2.1, hH.2.2.2.2.2.2.trans hq⟩
            clear hK
            refine wpSeq_take (d := 83) (v := ?_) rfl rfl (by kernel_rfl) (fun w hS => ?_) ?_
            rotate_left
            · go_simp <;> with_reducible rfl
            dsimp only [List.set_cons_zero, List.set_cons_succ]
            refine wpSeq_take (d := 84) (v := ?_) rfl rfl (by kernel_rfl) (fun w hS => ?_) ?_
            rotate_left
            · go_simp <;> with_reducible rfl
            dsimp only [List.set_cons_zero, List.set_cons_succ]
            refine wpSeq_pass (d := 85) rfl rfl (by kernel_rfl) ?_
            dsimp only [List.set_cons_zero, List.set_cons_succ]
            refine wpSeq_pass (d := 86) rfl rfl (by kernel_rfl) ?_
            dsimp only [List.set_cons_zero, List.set_cons_succ]
            refine wpSeq_pass (d := 87) rfl rfl (by kernel_rfl) ?_
            dsimp only [List.set_cons_zero, List.set_cons_succ]
            refine wpSeq_pass (d := 88) rfl rfl (by kernel_rfl) ?_
            dsimp only [List.set_cons_zero, List.set_cons_succ]
            refine wpSeq_pass (d := 89) rfl rfl (by kernel_rfl) ?_
            dsimp only [List.set_cons_zero, List.set_cons_succ]
            refine wpSeq_pass (d := 90) rfl rfl (by kernel_rfl) ?_
            dsimp only [List.set_cons_zero, List.set_cons_succ]
            refine wpSeq_pass (d := 91) rfl rfl (by kernel_rfl) ?_
            dsimp only [List.set_cons_zero, List.set_cons_succ]
            refine wpSeq_pass (d := 92) rfl rfl (by kernel_rfl) ?_
            dsimp only [List.set_cons_zero, List.set_cons_succ]
            refine wpSeq_pass (d := 93) rfl rfl (by kernel_rfl) ?_
            dsimp only [List.set_cons_zero, List.set_cons_succ]
            refine wpSeq_pass (d := 94) rfl rfl (by kernel_rfl) ?_
            dsimp only [List.set_cons_zero, List.set_cons_succ]
            refine wpSeq_pass (d := 95) rfl rfl (by kernel_rfl) ?_
            dsimp only [List.set_cons_zero, List.set_cons_succ]
            refine wpSeq_pass (d := 96) rfl rfl (by kernel_rfl) ?_
            dsimp only [List.set_cons_zero, List.set_cons_succ]
            refine wpSeq_take (d := 97) (v := ?_) rfl rfl (by kernel_rfl) (fun w hS => ?_) ?_
            rotate_left
            · go_simp <;> with_reducible rfl
            dsimp only [List.set_cons_zero, List.set_cons_succ]
            refine wpSeq_done ?_
            refine NoPanic.normal ?_
            have HZ := Lib.hid (HQ.out.trans hH.2.2.2.2.2.2)
            have HR := Lib.hid (HF.out (by simp))
            clear HF HT HQ cw ct hH
            go_wp2
            go_ret
            exact ⟨by rw [HR.out]; rfl, hQ.out.trans HZ.out⟩
          · cases bw
            · refine wp_region_noPanic ?_
              refine wp_region_seq (S := fun w' => w'.cell? (⟨H, 1, none⟩) = some (.slice (some a) d.ts.length bc) ∧ w'.cell? (a.add (i * 5)) = some (.string N) ∧ w'.cell? (⟨(a.add (i * 5)).block, (a.add (i * 5)).off + 1, none⟩) = some (.int .i64 X) ∧ w'.cell? (⟨(a.add (i * 5)).block, (a.add (i * 5)).off + 2, none⟩) = some (.int .i64 Y) ∧ w'.cell? (⟨(a.add (i * 5)).block, (a.add (i * 5)).off + 3, none⟩) = some (.int .i64 Z) ∧ w'.cell? (⟨(a.add (i * 5)).block, (a.add (i * 5)).off + 4, none⟩) = some (.slice so sn sc) ∧ B wt w') [(0, 0), (1, 0), (2, 0), (3, 0), (4, 0), (5, 2), (6, 0), (7, 0), (8, 0), (9, 0), (10, 0), (11, 0), (12, 0), (13, 0), (14, 0), (15, 0), (16, 0), (17, 0), (18, 0), (19, 2), (20, 0)] [0, 1, 0, 6, 8, 16, 32, 96, 128, 384, 128, 1664, 2176, 128, 8320, 128, 49280, 65664, 131200, 266368, 524416] [0, 1, 0, 6, 8, 16, 32, 64, 128, 384, 128, 1664, 2176, 128, 8320, 128, 49280, 65664, 131200, 266368, 524416] (by kernel_rfl) (by kernel_rfl) (fun _ _ _ _ _ h => h) ?_ (fun hH => ?_)
              · exact ⟨qe.keep k1, qe.keep g1, qe.keep g2, qe.keep g3, qe.keep g4, qe.keep g5, qe⟩
              refine wpSeq_take (d := 77) (v := ?_) rfl rfl (by kernel_rfl) (fun w hS => ?_) ?_
              rotate_left
              · go_simp <;> with_reducible rfl
              dsimp only [List.set_cons_zero, List.set_cons_succ]
              refine wpSeq_take (d := 78) (v := ?_) rfl rfl (by kernel_rfl) (fun w hS => ?_) ?_
              rotate_left
              · go_simp <;> with_reducible rfl
              dsimp only [List.set_cons_zero, List.set_cons_succ]
              refine wpSeq_take (d := 79) (v := ?_) rfl rfl (by kernel_rfl) (fun w hS => ?_) ?_
              rotate_left
              · go_simp <;> with_reducible rfl
              dsimp only [List.set_cons_zero, List.set_cons_succ]
              refine wpSeq_take (d := 80) (v := ?_) rfl rfl (by kernel_rfl) (fun w hS => ?_) ?_
              rotate_left
              · go_simp <;> with_reducible rfl
              dsimp only [List.set_cons_zero, List.set_cons_succ]
              refine wpSeq_take (d := 81) (v := ?_) rfl rfl (by kernel_rfl) (fun w hS => ?_) ?_
              rotate_left
              · go_simp <;> with_reducible rfl
              dsimp only [List.set_cons_zero, List.set_cons_succ]
              refine wpSeq_call rfl (by kernel_rfl) (fun K hK => ?_)
              go_simp
              (with_reducible refine (ct _ hH.2.2.2.2.2.2).mono ?_)
              rintro e w' ⟨rfl, hq⟩
              refine hK.out _ _ ?_ (fun hH => ?_)
              · exact ⟨hq.keep hH.1, hq.keep hH.2.1, hq.keep hH.2.2.1, hq.keep hH.2.2.2.1, hq.keep hH.2.2.2.2.1, hq.keep hH.2.2.2.2.2.1, hH.2.2.2.2.2.2.trans hq⟩
              clear hK
              refine wpSeq_take (d := 83) (v := ?_) rfl rfl (by kernel_rfl) (fun w hS => ?_) ?_
              rotate_left
              · go_simp <;> with_reducible rfl
              dsimp only [List.set_cons_zero, List.set_cons_succ]
              refine wpSeq_take (d := 84) (v := ?_) rfl rfl (by kernel_rfl) (fun w hS => ?_) ?_
              rotate_left
              · go_simp <;> with_reducible rfl
              dsimp only [List.set_cons_zero, List.set_cons_succ]
              refine wpSeq_take (d := 85) (v := ?_) rfl rfl (by kernel_rfl) (fun w hS => ?_) ?_
              rotate_left
              · go_simp <;> with_reducible rfl
              dsimp only [List.set_cons_zero, List.set_cons_succ]
              refine wpSeq_take (d := 86) (v := ?_) rfl rfl (by kernel_rfl) (fun w hS => ?_) ?_
              rotate_left
              · go_simp <;> with_reducible rfl
              dsimp only [List.set_cons_zero, List.set_cons_succ]
              refine wpSeq_take (d := 87) (v := ?_) rfl rfl (by kernel_rfl) (fun w hS => ?_) ?_
              rotate_left
              · go_simp <;> with_reducible rfl
              dsimp only [List.set_cons_zero, List.set_cons_succ]
              refine wpSeq_take (d := 88) (v := ?_) rfl rfl (by kernel_rfl) (fun w hS => ?_) ?_
              rotate_left
              · go_simp <;> with_reducible rfl
              dsimp only [List.set_cons_zero, List.set_cons_succ]
              refine wpSeq_take (d := 89) (v := ?_) rfl rfl (by kernel_rfl) (fun w hS => ?_) ?_
              rotate_left
              · go_simp <;> with_reducible rfl
              dsimp only [List.set_cons_zero, List.set_cons_succ]
              refine wpSeq_take (d := 90) (v := ?_) rfl rfl (by kernel_rfl) (fun w hS => ?_) ?_
              rotate_left
              · go_simp <;> with_reducible rfl
              dsimp only [List.set_cons_zero, List.set_cons_succ]
              refine wpSeq_take (d := 91) (v := ?_) rfl rfl (by kernel_rfl) (fun w hS => ?_) ?_
              rotate_left
              · go_simp <;> with_reducible rfl
              dsimp only [List.set_cons_zero, List.set_cons_succ]
              refine wpSeq_take (d := 92) (v := ?_) rfl rfl (by kernel_rfl) (fun w hS => ?_) ?_
              rotate_left
              · go_simp <;> with_reducible rfl
              dsimp only [List.set_cons_zero, List.set_cons_succ]
              refine wpSeq_take (d := 93) (v := ?_) rfl rfl (by kernel_rfl) (fun w hS => ?_) ?_
              rotate_left
              · go_simp <;> with_reducible rfl
              dsimp only [List.set_cons_zero, List.set_cons_succ]
              refine wpSeq_take (d := 94) (v := ?_) rfl rfl (by kernel_rfl) (fun w hS => ?_) ?_
              rotate_left
              · go_simp <;> with_reducible rfl
              dsimp only [List.set_cons_zero, List.set_cons_succ]
              refine wpSeq_take (d := 95) (v := ?_) rfl rfl (by kernel_rfl) (fun w hS => ?_) ?_
              rotate_left
              · go_simp <;> with_reducible rfl
              dsimp only [List.set_cons_zero, List.set_cons_succ]
              refine wpSeq_call rfl (by kernel_rfl) (fun K hK => ?_)
              go_simp
              (with_reducible refine (cw _ hH.2.2.2.2.2.2).mono ?_)
              rintro e w' ⟨rfl, hq⟩
              refine hK.out _ _ ?_ (fun hH => ?_)
              · exact ⟨hq.b.keep hH.1, hq.b.keep hH.2.1, hq.b.keep hH.2.2.1, hq.b.keep hH.2.2.2.1, hq.b.keep hH.2.2.2.2.1, hq.b.keep hH.2.2.2.2.2.1, hH.2.2.2.2.2.2.trans hq.b⟩
              clear hK
              refine wpSeq_take (d := 97) (v := ?_) rfl rfl (by kernel_rfl) (fun w hS => ?_) ?_
              rotate_left
              · go_simp <;> with_reducible rfl
              dsimp only [List.set_cons_zero, List.set_cons_succ]
              refine wpSeq_done ?_
              refine NoPanic.normal ?_
              have HZ := Lib.hid (HQ.out.trans hH.2.2.2.2.2.2)
              have HA := Lib.hid (HT.out (by rfl))
              clear HF HT HQ cw ct hH
              go_wp2
              go_roundw
              case rel => exact ⟨i + 1, by have := HL.out; omega, by go_num, HA.out, HZ.out⟩
              case measure => have := HL.out; simp [intOf]; omega
            · refine wp_region_noPanic ?_
              refine wp_region_seq (S := fun w' => w'.cell? (⟨H, 1, none⟩) = some (.slice (some a) d.ts.length bc) ∧ w'.cell? (a.add (i * 5)) = some (.string N) ∧ w'.cell? (⟨(a.add (i * 5)).block, (a.add (i * 5)).off + 1, none⟩) = some (.int .i64 X) ∧ w'.cell? (⟨(a.add (i * 5)).block, (a.add (i * 5)).off + 2, none⟩) = some (.int .i64 Y) ∧ w'.cell? (⟨(a.add (i * 5)).block, (a.add (i * 5)).off + 3, none⟩) = some (.int .i64 Z) ∧ w'.cell? (⟨(a.add (i * 5)).block, (a.add (i * 5)).off + 4, none⟩) = some (.slice so sn sc) ∧ B wt w') [(0, 0), (1, 0), (2, 0), (3, 0), (4, 0), (5, 2), (6, 0), (7, 0), (8, 0), (9, 0), (10, 0), (11, 0), (12, 0), (13, 0), (14, 0), (15, 0), (16, 0), (17, 0), (18, 0), (19, 2), (20, 0)] [0, 1, 0, 6, 8, 16, 32, 96, 128, 384, 128, 1664, 2176, 128, 8320, 128, 49280, 65664, 131200, 266368, 524416] [0, 1, 0, 6, 8, 16, 32, 64, 128, 384, 128, 1664, 2176, 128, 8320, 128, 49280, 65664, 131200, 266368, 524416] (by kernel_rfl) (by kernel_rfl) (fun _ _ _ _ _ h => h) ?_ (fun hH => ?_)
              · exact ⟨qe.keep k1, qe.keep g1, qe.keep g2, qe.keep g3, qe.keep g4, qe.keep g5, qe⟩
              refine wpSeq_take (d := 77) (v := ?_) rfl rfl (by kernel_rfl) (fun w hS => ?_) ?_
              rotate_left
              · go_simp <;> with_reducible rfl
              dsimp only [List.set_cons_zero, List.set_cons_succ]
              refine wpSeq_take (d := 78) (v := ?_) rfl rfl (by kernel_rfl) (fun w hS => ?_) ?_
              rotate_left
              · go_simp <;> with_reducible rfl
              dsimp only [List.set_cons_zero, List.set_cons_succ]
              refine wpSeq_take (d := 79) (v := ?_) rfl rfl (by kernel_rfl) (fun w hS => ?_) ?_
              rotate_left
              · go_simp <;> with_reducible rfl
              dsimp only [List.set_cons_zero, List.set_cons_succ]
              refine wpSeq_take (d := 80) (v := ?_) rfl rfl (by kernel_rfl) (fun w hS => ?_) ?_
              rotate_left
              · go_simp <;> with_reducible rfl
              dsimp only [List.set_cons_zero, List.set_cons_succ]
              refine wpSeq_take (d := 81) (v := ?_) rfl rfl (by kernel_rfl) (fun w hS => ?_) ?_
              rotate_left
              · go_simp <;> with_reducible rfl
              dsimp only [List.set_cons_zero, List.set_cons_succ]
              refine wpSeq_call rfl (by kernel_rfl) (fun K hK => ?_)
              go_simp
              (with_reducible refine (ct _ hH.2.2.2.2.2.2).mono ?_)
              rintro e w' ⟨rfl, hq⟩
              refine hK.out _ _ ?_ (fun hH => ?_)
              · exact ⟨hq.keep hH.1, hq.keep hH.2.1, hq.keep hH.2.2.1, hq.keep hH.2.2.2.1, hq.keep hH.2.2.2.2.1, hq.keep hH.2.2.2.2.2.1, hH.2.2.2.2.2.2.trans hq⟩
              clear hK
              refine wpSeq_take (d := 83) (v := ?_) rfl rfl (by kernel_rfl) (fun w hS => ?_) ?_
              rotate_left
              · go_simp <;> with_reducible rfl
              dsimp only [List.set_cons_zero, List.set_cons_succ]
              refine wpSeq_take (d := 84) (v := ?_) rfl rfl (by kernel_rfl) (fun w hS => ?_) ?_
              rotate_left
              · go_simp <;> with_reducible rfl
              dsimp only [List.set_cons_zero, List.set_cons_succ]
              refine wpSeq_take (d := 85) (v := ?_) rfl rfl (by kernel_rfl) (fun w hS => ?_) ?_
              rotate_left
              · go_simp <;> with_reducible rfl
              dsimp only [List.set_cons_zero, List.set_cons_succ]
              refine wpSeq_take (d := 86) (v := ?_) rfl rfl (by kernel_rfl) (fun w hS => ?_) ?_
              rotate_left
              · go_simp <;> with_reducible rfl
              dsimp only [List.set_cons_zero, List.set_cons_succ]
              refine wpSeq_take (d := 87) (v := ?_) rfl rfl (by kernel_rfl) (fun w hS => ?_) ?_
              rotate_left
              · go_simp <;> with_reducible rfl
              dsimp only [List.set_cons_zero, List.set_cons_succ]
              refine wpSeq_take (d := 88) (v := ?_) rfl rfl (by kernel_rfl) (fun w hS => ?_) ?_
              rotate_left
              · go_simp <;> with_reducible rfl
              dsimp only [List.set_cons_zero, List.set_cons_succ]
              refine wpSeq_take (d := 89) (v := ?_) rfl rfl (by kernel_rfl) (fun w hS => ?_) ?_
              rotate_left
              · go_simp <;> with_reducible rfl
              dsimp only [List.set_cons_zero, List.set_cons_succ]
              refine wpSeq_take (d := 90) (v := ?_) rfl rfl (by kernel_rfl) (fun w hS => ?_) ?_
              rotate_left
              · go_simp <;> with_reducible rfl
              dsimp only [List.set_cons_zero, List.set_cons_succ]
              refine wpSeq_take (d := 91) (v := ?_) rfl rfl (by kernel_rfl) (fun w hS => ?_) ?_
              rotate_left
              · go_simp <;> with_reducible rfl
              dsimp only [List.set_cons_zero, List.set_cons_succ]
              refine wpSeq_take (d := 92) (v := ?_) rfl rfl (by kernel_rfl) (fun w hS => ?_) ?_
              rotate_left
              · go_simp <;> with_reducible rfl
              dsimp only [List.set_cons_zero, List.set_cons_succ]
              refine wpSeq_take (d := 93) (v := ?_) rfl rfl (by kernel_rfl) (fun w hS => ?_) ?_
              rotate_left
              · go_simp <;> with_reducible rfl
              dsimp only [List.set_cons_zero, List.set_cons_succ]
              refine wpSeq_take (d := 94) (v := ?_) rfl rfl (by kernel_rfl) (fun w hS => ?_) ?_
              rotate_left
              · go_simp <;> with_reducible rfl
              dsimp only [List.set_cons_zero, List.set_cons_succ]
              refine wpSeq_take (d := 95) (v := ?_) rfl rfl (by kernel_rfl) (fun w hS => ?_) ?_
              rotate_left
              · go_simp <;> with_reducible rfl
              dsimp only [List.set_cons_zero, List.set_cons_succ]
              refine wpSeq_call rfl (by kernel_rfl) (fun K hK => ?_)
              go_simp
              (with_reducible refine (cw _ hH.2.2.2.2.2.2).mono ?_)
              rintro e w' ⟨rfl, hq⟩
              refine hK.out _ _ ?_ (fun hH => ?_)
              · exact ⟨hq.b.keep hH.1, hq.b.keep hH.2.1, hq.b.keep hH.2.2.1, hq.b.keep hH.2.2.2.1, hq.b.keep hH.2.2.2.2.1, hq.b.keep hH.2.2.2.2.2.1, hH.2.2.2.2.2.2.trans hq.b⟩
              clear hK
              refine wpSeq_take (d := 97) (v := ?_) rfl rfl (by kernel_rfl) (fun w hS => ?_) ?_
              rotate_left
              · go_simp <;> with_reducible rfl
              dsimp only [List.set_cons_zero, List.set_cons_succ]
              refine wpSeq_done ?_
              refine NoPanic.normal ?_
              have HZ := Lib.hid (HQ.out.trans hH.2.2.2.2.2.2)
              have HR := Lib.hid (HF.out (by simp))
              clear HF HT HQ cw ct hH
              go_wp2
              go_ret
              exact ⟨by rw [HR.out]; rfl, hQ.out.trans HZ.out⟩
        · have hlB : decide ((i : Int) < (d.ts.length : Int)) = false := decide_eq_false (by omega)
          have hTS := apart_yes (ok := tipOk) (ws := d.ts) fun j F hF => hall j F hF (by obtain ⟨x, _⟩ := List.getElem?_eq_some_iff.1 hF; omega)
          have hR := hRF hWS.out hTS
          have hwb := wares_in hWS.out
          have hlen := hD.fs.len
          clear hRT hRF hTS hWS hall hi
          replace hQ := Lib.hid (hQ.out.trans hQi)
          go_wp2
          clear hl hlB hQi
          go_loopw [6] (fun iv wr => ∃ i : Nat, i ≤ d.fs.length ∧ iv = .int .i64 i ∧ FlTo d.ws d.fs i ∧ B wt wr) (fun iv _ => d.fs.length + 1 - (intOf iv).toNat)
          case atStart => exact ⟨0, Nat.zero_le _, rfl, fun j _ _ hj => by omega, B.refl _⟩
          case round =>
            obtain ⟨i, hi, rfl, hall, hQi⟩ := hrel
            obtain ⟨wf, rfl⟩ : ∃ wf : World, wf = wr := ⟨_, rfl⟩
            replace k0 := hQi.keep k0
            replace k1 := hQi.keep k1
            replace k2 := hQi.keep k2
            replace hD := hD.keepB hQi
            by_cases hl : i < d.fs.length
            · have hlB : decide ((i : Int) < (d.fs.length : Int)) = true := decide_eq_true (by omega)
              have hlI : (i : Int) < (d.fs.length : Int) := by omega
              have hi0 : (0 : Int) ≤ (i : Int) := by omega
              have wk1 : IntKind.i64.wrap ((i : Int) + 1) = (i : Int) + 1 := by rw [IntKind.wrap_i64]; omega
              obtain ⟨a, cap, e1, g8, g9, hr⟩ := hD.fs.at_ hl
              obtain ⟨rfl, _, rfl⟩ : co = some a ∧ True ∧ cc = cap := by simpa using e1
              have htk := fls_take hD.fs (i := i) (by omega)
              have hle : i ≤ cc := by omega
              obtain ⟨F, hF⟩ : ∃ F, d.fs[i]? = some F := ⟨_, List.getElem?_eq_getElem hl⟩
              have hF2 : d.fs[i] = F := by rw [List.getElem?_eq_getElem hl] at hF; simpa using hF
              rw [hF2] at hr
              have hbad := fun e => hR.trans (fl_no hF e)
              have hgood := hall.next hF
              clear hF hF2 e1
              obtain ⟨N, r, c, V⟩ := F
              obtain ⟨g1, g2, g3, g4⟩ := hr
              simp only at g1 g2 g3 g4 hbad hgood
              have cix := fun w2 (q : B wf w2) => r8index_any _ _ _ d N r c w2 (hD.keepB q) hwb (by omega)
              have ci := fun w => r8in_any V 0 20000000 w
              have cf := fun w2 (q : B wf w2) => r8filled_any (.slice none 0 0) (.slice none 0 0) (.slice (some a) i cc) ⟨[], [], d.fs.take i⟩ N r c w2 ⟨.inl ⟨rfl, rfl⟩, .inl ⟨rfl, rfl⟩, htk.keepB q⟩
              generalize hasW d.ws N r c = bh at *
              generalize (indexW d.ws 0 N r c).getD 0 = ix at *
              generalize inB V 0 20000000 = bi at *
              generalize filledW (d.fs.take i) N r c = bf at *
              have HF := Lib.hid hbad
              have HT := Lib.hid hgood
              have HL := Lib.hid hl
              have HQ := Lib.hid (hQi)
              have qa := (Q.refl wf).alloc #[.string N, .int .i64 r, .int .i64 c, .int .i64 V] 63
              obtain ⟨W1, hW1⟩ : ∃ W1, wf.alloc (.cells #[.string N, .int .i64 r, .int .i64 c, .int .i64 V] 63) = W1 := ⟨_, rfl⟩
              have p0 : W1.cell? ⟨wf.heap.size, 0, none⟩ = some (.string N) := by rw [← hW1, World.cell?_alloc_new]; rfl
              have p1 : W1.cell? ⟨wf.heap.size, 1, none⟩ = some (.int .i64 r) := by rw [← hW1, World.cell?_alloc_new]; rfl
              have p2 : W1.cell? ⟨wf.heap.size, 2, none⟩ = some (.int .i64 c) := by rw [← hW1, World.cell?_alloc_new]; rfl
              have p3 : W1.cell? ⟨wf.heap.size, 3, none⟩ = some (.int .i64 V) := by rw [← hW1, World.cell?_alloc_new]; rfl
              have m0 := qa.keep k0
              have m1 := qa.keep k1
              have m2 := qa.keep k2
              rw [hW1] at qa m0 m1 m2
              have cx := cix W1 qa.b
              clear cix hbad hgood hl hi hall htk hD n8 n4 hQi hwb hR hlen
              go_wp2_with fail
              try rw [hW1]
              clear hW1 k0 k1 k2 g1 g2 g3 g4
              generalize wf.heap.size = G at *
              refine (Calls.mono cx ?_)
              rintro _ w2 ⟨rfl, q3⟩
              have k2 := q3.keep m2
              replace p0 := q3.keep p0
              replace p1 := q3.keep p1
              replace p2 := q3.keep p2
              replace p3 := q3.keep p3
              have qd : B wf w2.drew := (qa.b.trans q3.b).trans ((Q.refl w2).drew).b
              have qe : B w2 w2.drew := ((Q.refl w2).drew).b
              clear q3 qa m0 m1 m2 cx
              go_wp2_with fail
              cases bh
              · refine wp_region_noPanic ?_
                refine wp_region_seq (S := fun w' => w'.cell? (⟨H, 2, none⟩) = some (.slice (some a) d.fs.length cc) ∧ w'.cell? (⟨G, 0, none⟩) = some (.string N) ∧ w'.cell? (⟨G, 1, none⟩) = some (.int .i64 r) ∧ w'.cell? (⟨G, 2, none⟩) = some (.int .i64 c) ∧ w'.cell? (⟨G, 3, none⟩) = some (.int .i64 V) ∧ B wf w') [(0, 0), (1, 0), (2, 0), (3, 1), (4, 1), (5, 1), (6, 1), (7, 0), (8, 0), (9, 1), (10, 1), (11, 1), (12, 1), (13, 1), (14, 1), (15, 1), (16, 1), (17, 0)] [0, 1, 2, 4, 12, 20, 36, 68, 160, 256, 768, 256, 3328, 4352, 256, 16640, 41216, 65792] [0, 1, 2, 4, 12, 20, 36, 68, 128, 256, 768, 256, 3328, 4352, 256, 16640, 41216, 65792] (by kernel_rfl) (by kernel_rfl) (fun _ _ _ _ _ h => h) ?_ (fun hH => ?_)
                · exact ⟨qe.keep k2, qe.keep p0, qe.keep p1, qe.keep p2, qe.keep p3, qd⟩
                refine wpSeq_take (d := 117) (v := ?_) rfl rfl (by kernel_rfl) (fun w hS => ?_) ?_
                rotate_left
                · go_simp <;> with_reducible rfl
                dsimp only [List.set_cons_zero, List.set_cons_succ]
                refine wpSeq_take (d := 118) (v := ?_) rfl rfl (by kernel_rfl) (fun w hS => ?_) ?_
                rotate_left
                · go_simp <;> with_reducible rfl
                dsimp only [List.set_cons_zero, List.set_cons_succ]
                refine wpSeq_take (d := 119) (v := ?_) rfl rfl (by kernel_rfl) (fun w hS => ?_) ?_
                rotate_left
                · go_simp <;> with_reducible rfl
                dsimp only [List.set_cons_zero, List.set_cons_succ]
                refine wpSeq_pass (d := 120) rfl rfl (by kernel_rfl) ?_
                dsimp only [List.set_cons_zero, List.set_cons_succ]
                refine wpSeq_pass (d := 121) rfl rfl (by kernel_rfl) ?_
                dsimp only [List.set_cons_zero, List.set_cons_succ]
                refine wpSeq_pass (d := 122) rfl rfl (by kernel_rfl) ?_
                dsimp only [List.set_cons_zero, List.set_cons_succ]
                refine wpSeq_pass (d := 123) rfl rfl (by kernel_rfl) ?_
                dsimp only [List.set_cons_zero, List.set_cons_succ]
                refine wpSeq_take (d := 124) (v := ?_) rfl rfl (by kernel_rfl) (fun w hS => ?_) ?_
                rotate_left
                · go_simp <;> with_reducible rfl
                dsimp only [List.set_cons_zero, List.set_cons_succ]
                refine wpSeq_take (d := 125) (v := ?_) rfl rfl (by kernel_rfl) (fun w hS => ?_) ?_
                rotate_left
                · go_simp <;> with_reducible rfl
                dsimp only [List.set_cons_zero, List.set_cons_succ]
                refine wpSeq_pass (d := 126) rfl rfl (by kernel_rfl) ?_
                dsimp only [List.set_cons_zero, List.set_cons_succ]
                refine wpSeq_pass (d := 127) rfl rfl (by kernel_rfl) ?_
                dsimp only [List.set_cons_zero, List.set_cons_succ]
                refine wpSeq_pass (d := 128) rfl rfl (by kernel_rfl) ?_
                dsimp only [List.set_cons_zero, List.set_cons_succ]
                refine wpSeq_pass (d := 129) rfl rfl (by kernel_rfl) ?_
                dsimp only [List.set_cons_zero, List.set_cons_succ]
                refine wpSeq_pass (d := 130) rfl rfl (by kernel_rfl) ?_
                dsimp only [List.set_cons_zero, List.set_cons_succ]
                refine wpSeq_pass (d := 131) rfl rfl (by kernel_rfl) ?_
                dsimp only [List.set_cons_zero, List.set_cons_succ]
                refine wpSeq_pass (d := 132) rfl rfl (by kernel_rfl) ?_
                dsimp only [List.set_cons_zero, List.set_cons_succ]
                refine wpSeq_pass (d := 133) rfl rfl (by kernel_rfl) ?_
                dsimp only [List.set_cons_zero, List.set_cons_succ]
                refine wpSeq_take (d := 134) (v := ?_) rfl rfl (by kernel_rfl) (fun w hS => ?_) ?_
                rotate_left
                · go_simp <;> with_reducible rfl
                dsimp only [List.set_cons_zero, List.set_cons_succ]
                refine wpSeq_done ?_
                refine NoPanic.normal ?_
                have HZ := Lib.hid (HQ.out.trans hH.2.2.2.2.2)
                have HR := Lib.hid (HF.out (by simp))
                clear HF HT HQ cf ci hH
                go_wp2
                go_ret
                exact ⟨by rw [HR.out]; rfl, hQ.out.trans HZ.out⟩
              · cases bi
                · refine wp_region_noPanic ?_
                  refine wp_region_seq (S := fun w' => w'.cell? (⟨H, 2, none⟩) = some (.slice (some a) d.fs.length cc) ∧ w'.cell? (⟨G, 0, none⟩) = some (.string N) ∧ w'.cell? (⟨G, 1, none⟩) = some (.int .i64 r) ∧ w'.cell? (⟨G, 2, none⟩) = some (.int .i64 c) ∧ w'.cell? (⟨G, 3, none⟩) = some (.int .i64 V) ∧ B wf w') [(0, 0), (1, 0), (2, 0), (3, 0), (4, 0), (5, 2), (6, 0), (7, 0), (8, 0), (9, 1), (10, 1), (11, 1), (12, 1), (13, 1), (14, 1), (15, 1), (16, 1), (17, 0)] [0, 1, 2, 4, 12, 20, 36, 68, 160, 256, 768, 256, 3328, 4352, 256, 16640, 41216, 65792] [0, 1, 2, 4, 12, 20, 36, 68, 128, 256, 768, 256, 3328, 4352, 256, 16640, 41216, 65792] (by kernel_rfl) (by kernel_rfl) (fun _ _ _ _ _ h => h) ?_ (fun hH => ?_)
                  · exact ⟨qe.keep k2, qe.keep p0, qe.keep p1, qe.keep p2, qe.keep p3, qd⟩
                  refine wpSeq_take (d := 117) (v := ?_) rfl rfl (by kernel_rfl) (fun w hS => ?_) ?_
                  rotate_left
                  · go_simp <;> with_reducible rfl
                  dsimp only [List.set_cons_zero, List.set_cons_succ]
                  refine wpSeq_take (d := 118) (v := ?_) rfl rfl (by kernel_rfl) (fun w hS => ?_) ?_
                  rotate_left
                  · go_simp <;> with_reducible rfl
                  dsimp only [List.set_cons_zero, List.set_cons_succ]
                  refine wpSeq_take (d := 119) (v := ?_) rfl rfl (by kernel_rfl) (fun w hS => ?_) ?_
                  rotate_left
                  · go_simp <;> with_reducible rfl
                  dsimp only [List.set_cons_zero, List.set_cons_succ]
                  refine wpSeq_take (d := 120) (v := ?_) rfl rfl (by kernel_rfl) (fun w hS => ?_) ?_
                  rotate_left
                  · go_simp <;> with_reducible rfl
                  dsimp only [List.set_cons_zero, List.set_cons_succ]
                  refine wpSeq_take (d := 121) (v := ?_) rfl rfl (by kernel_rfl) (fun w hS => ?_) ?_
                  rotate_left
                  · go_simp <;> with_reducible rfl
                  dsimp only [List.set_cons_zero, List.set_cons_succ]
                  refine wpSeq_call rfl (by kernel_rfl) (fun K hK => ?_)
                  go_simp
                  (with_reducible refine (ci _).mono ?_)
                  rintro e w' ⟨rfl, rfl⟩
                  refine hK.out _ _ hH (fun hH => ?_)
                  clear hK
                  refine wpSeq_take (d := 123) (v := ?_) rfl rfl (by kernel_rfl) (fun w hS => ?_) ?_
                  rotate_left
                  · go_simp <;> with_reducible rfl
                  dsimp only [List.set_cons_zero, List.set_cons_succ]
                  refine wpSeq_take (d := 124) (v := ?_) rfl rfl (by kernel_rfl) (fun w hS => ?_) ?_
                  rotate_left
                  · go_simp <;> with_reducible rfl
                  dsimp only [List.set_cons_zero, List.set_cons_succ]
                  refine wpSeq_take (d := 125) (v := ?_) rfl rfl (by kernel_rfl) (fun w hS => ?_) ?_
                  rotate_left
                  · go_simp <;> with_reducible rfl
                  dsimp only [List.set_cons_zero, List.set_cons_succ]
                  refine wpSeq_pass (d := 126) rfl rfl (by kernel_rfl) ?_
                  dsimp only [List.set_cons_zero, List.set_cons_succ]
                  refine wpSeq_pass (d := 127) rfl rfl (by kernel_rfl) ?_
                  dsimp only [List.set_cons_zero, List.set_cons_succ]
                  refine wpSeq_pass (d := 128) rfl rfl (by kernel_rfl) ?_
                  dsimp only [List.set_cons_zero, List.set_cons_succ]
                  refine wpSeq_pass (d := 129) rfl rfl (by kernel_rfl) ?_
                  dsimp only [List.set_cons_zero, List.set_cons_succ]
                  refine wpSeq_pass (d := 130) rfl rfl (by kernel_rfl) ?_
                  dsimp only [List.set_cons_zero, List.set_cons_succ]
                  refine wpSeq_pass (d := 131) rfl rfl (by kernel_rfl) ?_
                  dsimp only [List.set_cons_zero, List.set_cons_succ]
                  refine wpSeq_pass (d := 132) rfl rfl (by kernel_rfl) ?_
                  dsimp only [List.set_cons_zero, List.set_cons_succ]
                  refine wpSeq_pass (d := 133) rfl rfl (by kernel_rfl) ?_
                  dsimp only [List.set_cons_zero, List.set_cons_succ]
                  refine wpSeq_take (d := 134) (v := ?_) rfl rfl (by kernel_rfl) (fun w hS => ?_) ?_
                  rotate_left
                  · go_simp <;> with_reducible rfl
                  dsimp only [List.set_cons_zero, List.set_cons_succ]
                  refine wpSeq_done ?_
                  refine NoPanic.normal ?_
                  have HZ := Lib.hid (HQ.out.trans hH.2.2.2.2.2)
                  have HR := Lib.hid (HF.out (by simp))
                  clear HF HT HQ cf ci hH
                  go_wp2
                  go_ret
                  exact ⟨by rw [HR.out]; rfl, hQ.out.trans HZ.out⟩
                · cases bf
                  · refine wp_region_noPanic ?_
                    refine wp_region_seq (S := fun w' => w'.cell? (⟨H, 2, none⟩) = some (.slice (some a) d.fs.length cc) ∧ w'.cell? (⟨G, 0, none⟩) = some (.string N) ∧ w'.cell? (⟨G, 1, none⟩) = some (.int .i64 r) ∧ w'.cell? (⟨G, 2, none⟩) = some (.int .i64 c) ∧ w'.cell? (⟨G, 3, none⟩) = some (.int .i64 V) ∧ B wf w') [(0, 0), (1, 0), (2, 0), (3, 0), (4, 0), (5, 2), (6, 0), (7, 0), (8, 0), (9, 0), (10, 0), (11, 0), (12, 0), (13, 0), (14, 0), (15, 0), (16, 2), (17, 0)] [0, 1, 2, 4, 12, 20, 36, 68, 160, 256, 768, 256, 3328, 4352, 256, 16640, 41216, 65792] [0, 1, 2, 4, 12, 20, 36, 68, 128, 256, 768, 256, 3328, 4352, 256, 16640, 41216, 65792] (by kernel_rfl) (by kernel_rfl) (fun _ _ _ _ _ h => h) ?_ (fun hH => ?_)
                    · exact ⟨qe.keep k2, qe.keep p0, qe.keep p1, qe.keep p2, qe.keep p3, qd⟩
                    refine wpSeq_take (d := 117) (v := ?_) rfl rfl (by kernel_rfl) (fun w hS => ?_) ?_
                    rotate_left
                    · go_simp <;> with_reducible rfl
                    dsimp only [List.set_cons_zero, List.set_cons_succ]
                    refine wpSeq_take (d := 118) (v := ?_) rfl rfl (by kernel_rfl) (fun w hS => ?_) ?_
                    rotate_left
                    · go_simp <;> with_reducible rfl
                    dsimp only [List.set_cons_zero, List.set_cons_succ]
                    refine wpSeq_take (d := 119) (v := ?_) rfl rfl (by kernel_rfl) (fun w hS => ?_) ?_
                    rotate_left
                    · go_simp <;> with_reducible rfl
                    dsimp only [List.set_cons_zero, List.set_cons_succ]
                    refine wpSeq_take (d := 120) (v := ?_) rfl rfl (by kernel_rfl) (fun w hS => ?_) ?_
                    rotate_left
                    · go_simp <;> with_reducible rfl
                    dsimp only [List.set_cons_zero, List.set_cons_succ]
                    refine wpSeq_take (d := 121) (v := ?_) rfl rfl (by kernel_rfl) (fun w hS => ?_) ?_
                    rotate_left
                    · go_simp <;> with_reducible rfl
                    dsimp only [List.set_cons_zero, List.set_cons_succ]
                    refine wpSeq_call rfl (by kernel_rfl) (fun K hK => ?_)
                    go_simp
                    (with_reducible refine (ci _).mono ?_)
                    rintro e w' ⟨rfl, rfl⟩
                    refine hK.out _ _ hH (fun hH => ?_)
                    clear hK
                    refine wpSeq_take (d := 123) (v := ?_) rfl rfl (by kernel_rfl) (fun w hS => ?_) ?_
                    rotate_left
                    · go_simp <;> with_reducible rfl
                    dsimp only [List.set_cons_zero, List.set_cons_succ]
                    refine wpSeq_take (d := 124) (v := ?_) rfl rfl (by kernel_rfl) (fun w hS => ?_) ?_
                    rotate_left
                    · go_simp <;> with_reducible rfl
                    dsimp only [List.set_cons_zero, List.set_cons_succ]
                    refine wpSeq_take (d := 125) (v := ?_) rfl rfl (by kernel_rfl) (fun w hS => ?_) ?_
                    rotate_left
                    · go_simp <;> with_reducible rfl
                    dsimp only [List.set_cons_zero, List.set_cons_succ]
                    refine wpSeq_take (d := 126) (v := ?_) rfl rfl (by kernel_rfl) (fun w hS => ?_) ?_
                    rotate_left
                    · go_simp <;> with_reducible rfl
                    dsimp only [List.set_cons_zero, List.set_cons_succ]
                    refine wpSeq_take (d := 127) (v := ?_) rfl rfl (by kernel_rfl) (fun w hS => ?_) ?_
                    rotate_left
                    · go_simp <;> with_reducible rfl
                    dsimp only [List.set_cons_zero, List.set_cons_succ]
                    refine wpSeq_take (d := 128) (v := ?_) rfl rfl (by kernel_rfl) (fun w hS => ?_) ?_
                    rotate_left
                    · go_simp <;> with_reducible rfl
                    dsimp only [List.set_cons_zero, List.set_cons_succ]
                    refine wpSeq_take (d := 129) (v := ?_) rfl rfl (by kernel_rfl) (fun w hS => ?_) ?_
                    rotate_left
                    · go_simp <;> with_reducible rfl
                    dsimp only [List.set_cons_zero, List.set_cons_succ]
                    refine wpSeq_take (d := 130) (v := ?_) rfl rfl (by kernel_rfl) (fun w hS => ?_) ?_
                    rotate_left
                    · go_simp <;> with_reducible rfl
                    dsimp only [List.set_cons_zero, List.set_cons_succ]
                    refine wpSeq_take (d := 131) (v := ?_) rfl rfl (by kernel_rfl) (fun w hS => ?_) ?_
                    rotate_left
                    · go_simp <;> with_reducible rfl
                    dsimp only [List.set_cons_zero, List.set_cons_succ]
                    refine wpSeq_take (d := 132) (v := ?_) rfl rfl (by kernel_rfl) (fun w hS => ?_) ?_
                    rotate_left
                    · go_simp <;> with_reducible rfl
                    dsimp only [List.set_cons_zero, List.set_cons_succ]
                    refine wpSeq_call rfl (by kernel_rfl) (fun K hK => ?_)
                    go_simp
                    (with_reducible refine (cf _ hH.2.2.2.2.2).mono ?_)
                    rintro e w' ⟨rfl, hq⟩
                    refine hK.out _ _ ?_ (fun hH => ?_)
                    · exact ⟨hq.keep hH.1, hq.keep hH.2.1, hq.keep hH.2.2.1, hq.keep hH.2.2.2.1, hq.keep hH.2.2.2.2.1, hH.2.2.2.2.2.trans hq.b⟩
                    clear hK
                    refine wpSeq_take (d := 134) (v := ?_) rfl rfl (by kernel_rfl) (fun w hS => ?_) ?_
                    rotate_left
                    · go_simp <;> with_reducible rfl
                    dsimp only [List.set_cons_zero, List.set_cons_succ]
                    refine wpSeq_done ?_
                    refine NoPanic.normal ?_
                    have HZ := Lib.hid (HQ.out.trans hH.2.2.2.2.2)
                    have HA := Lib.hid (HT.out (by rfl))
                    clear HF HT HQ cf ci hH
                    go_wp2
                    go_roundw
                    case rel => exact ⟨i + 1, by have := HL.out; omega, by go_num, HA.out, HZ.out⟩
                    case measure => have := HL.out; simp [intOf]; omega
                  · refine wp_region_noPanic ?_
                    refine wp_region_seq (S := fun w' => w'.cell? (⟨H, 2, none⟩) = some (.slice (some a) d.fs.length cc) ∧ w'.cell? (⟨G, 0, none⟩) = some (.string N) ∧ w'.cell? (⟨G, 1, none⟩) = some (.int .i64 r) ∧ w'.cell? (⟨G, 2, none⟩) = some (.int .i64 c) ∧ w'.cell? (⟨G, 3, none⟩) = some (.int .i64 V) ∧ B wf w') [(0, 0), (1, 0), (2, 0), (3, 0), (4, 0), (5, 2), (6, 0), (7, 0), (8, 0), (9, 0), (10, 0), (11, 0), (12, 0), (13, 0), (14, 0), (15, 0), (16, 2), (17, 0)] [0, 1, 2, 4, 12, 20, 36, 68, 160, 256, 768, 256, 3328, 4352, 256, 16640, 41216, 65792] [0, 1, 2, 4, 12, 20, 36, 68, 128, 256, 768, 256, 3328, 4352, 256, 16640, 41216, 65792] (by kernel_rfl) (by kernel_rfl) (fun _ _ _ _ _ h => h) ?_ (fun hH => ?_)
                    · exact ⟨qe.keep k2, qe.keep p0, qe.keep p1, qe.keep p2, qe.keep p3, qd⟩
                    refine wpSeq_take (d := 117) (v := ?_) rfl rfl (by kernel_rfl) (fun w hS => ?_) ?_
                    rotate_left
                    · go_simp <;> with_reducible rfl
                    dsimp only [List.set_cons_zero, List.set_cons_succ]
                    refine wpSeq_take (d := 118) (v := ?_) rfl rfl (by kernel_rfl) (fun w hS => ?_) ?_
                    rotate_left
                    · go_simp <;> with_reducible rfl
                    dsimp only [List.set_cons_zero, List.set_cons_succ]
                    refine wpSeq_take (d := 119) (v := ?_) rfl rfl (by kernel_rfl) (fun w hS => ?_) ?_
                    rotate_left
                    · go_simp <;> with_reducible rfl
                    dsimp only [List.set_cons_zero, List.set_cons_succ]
                    refine wpSeq_take (d := 120) (v := ?_) rfl rfl (by kernel_rfl) (fun w hS => ?_) ?_
                    rotate_left
                    · go_simp <;> with_reducible rfl
                    dsimp only [List.set_cons_zero, List.set_cons_succ]
                    refine wpSeq_take (d := 121) (v := ?_) rfl rfl (by kernel_rfl) (fun w hS => ?_) ?_
                    rotate_left
                    · go_simp <;> with_reducible rfl
                    dsimp only [List.set_cons_zero, List.set_cons_succ]
                    refine wpSeq_call rfl (by kernel_rfl) (fun K hK => ?_)
                    go_simp
                    (with_reducible refine (ci _).mono ?_)
                    rintro e w' ⟨rfl, rfl⟩
                    refine hK.out _ _ hH (fun hH => ?_)
                    clear hK
                    refine wpSeq_take (d := 123) (v := ?_) rfl rfl (by kernel_rfl) (fun w hS => ?_) ?_
                    rotate_left
                    · go_simp <;> with_reducible rfl
                    dsimp only [List.set_cons_zero, List.set_cons_succ]
                    refine wpSeq_take (d := 124) (v := ?_) rfl rfl (by kernel_rfl) (fun w hS => ?_) ?_
                    rotate_left
                    · go_simp <;> with_reducible rfl
                    dsimp only [List.set_cons_zero, List.set_cons_succ]
                    refine wpSeq_take (d := 125) (v := ?_) rfl rfl (by kernel_rfl) (fun w hS => ?_) ?_
                    rotate_left
                    · go_simp <;> with_reducible rfl
                    dsimp only [List.set_cons_zero, List.set_cons_succ]
                    refine wpSeq_take (d := 126) (v := ?_) rfl rfl (by kernel_rfl) (fun w hS => ?_) ?_
                    rotate_left
                    · go_simp <;> with_reducible rfl
                    dsimp only [List.set_cons_zero, List.set_cons_succ]
                    refine wpSeq_take (d := 127) (v := ?_) rfl rfl (by kernel_rfl) (fun w hS => ?_) ?_
                    rotate_left
                    · go_simp <;> with_reducible rfl
                    dsimp only [List.set_cons_zero, List.set_cons_succ]
                    refine wpSeq_take (d := 128) (v := ?_) rfl rfl (by kernel_rfl) (fun w hS => ?_) ?_
                    rotate_left
                    · go_simp <;> with_reducible rfl
                    dsimp only [List.set_cons_zero, List.set_cons_succ]
                    refine wpSeq_take (d := 129) (v := ?_) rfl rfl (by kernel_rfl) (fun w hS => ?_) ?_
                    rotate_left
                    · go_simp <;> with_reducible rfl
                    dsimp only [List.set_cons_zero, List.set_cons_succ]
                    refine wpSeq_take (d := 130) (v := ?_) rfl rfl (by kernel_rfl) (fun w hS => ?_) ?_
                    rotate_left
                    · go_simp <;> with_reducible rfl
                    dsimp only [List.set_cons_zero, List.set_cons_succ]
                    refine wpSeq_take (d := 131) (v := ?_) rfl rfl (by kernel_rfl) (fun w hS => ?_) ?_
                    rotate_left
                    · go_simp <;> with_reducible rfl
                    dsimp only [List.set_cons_zero, List.set_cons_succ]
                    refine wpSeq_take (d := 132) (v := ?_) rfl rfl (by kernel_rfl) (fun w hS => ?_) ?_
                    rotate_left
                    · go_simp <;> with_reducible rfl
                    dsimp only [List.set_cons_zero, List.set_cons_succ]
                    refine wpSeq_call rfl (by kernel_rfl) (fun K hK => ?_)
                    go_simp
                    (with_reducible refine (cf _ hH.2.2.2.2.2).mono ?_)
                    rintro e w' ⟨rfl, hq⟩
                    refine hK.out _ _ ?_ (fun hH => ?_)
                    · exact ⟨hq.keep hH.1, hq.keep hH.2.1, hq.keep hH.2.2.1, hq.keep hH.2.2.2.1, hq.keep hH.2.2.2.2.1, hH.2.2.2.2.2.trans hq.b⟩
                    clear hK
                    refine wpSeq_take (d := 134) (v := ?_) rfl rfl (by kernel_rfl) (fun w hS => ?_) ?_
                    rotate_left
                    · go_simp <;> with_reducible rfl
                    dsimp only [List.set_cons_zero, List.set_cons_succ]
                    refine wpSeq_done ?_
                    refine NoPanic.normal ?_
                    have HZ := Lib.hid (HQ.out.trans hH.2.2.2.2.2)
                    have HR := Lib.hid (HF.out (by simp))
                    clear HF HT HQ cf ci hH
                    go_wp2
                    go_ret
                    exact ⟨by rw [HR.out]; rfl, hQ.out.trans HZ.out⟩
            · have hlB : decide ((i : Int) < (d.fs.length : Int)) = false := decide_eq_false (by omega)
              have HR := Lib.hid (hR.trans (fl_yes (ws := d.ws) (fs := d.fs) fun j F hF => hall j F hF (by obtain ⟨x, _⟩ := List.getElem?_eq_some_iff.1 hF; omega)))
              have HZ := Lib.hid (hQ.out.trans hQi)
              clear hR hall hi hD hQi hwb
              go_wp2
              go_ret
              exact ⟨by rw [HR.out]; rfl, HZ.out⟩
end Go.Proofs.Ytkhaephmpifcmaa

namespace Go.Proofs.Ytkhaephmpifcmaa
open Go.RowKit
set_option linter.unusedVariables false
/-- The stand while a deck is looked at. -/
structure RSt (w0 w : World) (S bw bt bf : Nat) (o : Obj) (nw nt : List ByteArray) (fl : List Fl) : Prop where
  obj : w.heap[S]? = some o
  mw : NmAt w bw nw
  mt : NmAt w bt nt
  mf : FmAt w bf fl
  b0 : B w0 w
section
variable {w0 w w' : World} {S bw bt bf : Nat} {cs : Array Value} {nw nt ns : List ByteArray} {fl fs : List Fl}
theorem RSt.b {o : Obj} (h : RSt w0 w S bw bt bf o nw nt fl) (q : B w w') : RSt w0 w' S bw bt bf o nw nt fl :=
  ⟨q.obj h.obj, h.mw.tn (q.tn [] 0) (by simp), h.mt.tn (q.tn [] 0) (by simp), h.mf.tn (q.tn [] 0) (by simp), h.b0.trans q⟩
theorem RSt.addW (h : RSt w0 w S bw bt bf (.cells cs 132 (0, 0)) nw nt fl) (m : NmAt w' bw ns) (t : Tn kM w0.heap.size w w') (u : Tm bw w w') (x1 : bw ≠ bt) (x2 : bw ≠ bf) : RSt w0 w' S bw bt bf (.cells cs 132 (0, 0)) ns nt fl :=
  ⟨t.objc h.obj (by decide), m, h.mt.tm u x1.symm, h.mf.tm u x2.symm, t.toB h.b0 (Nat.le_refl _)⟩
theorem RSt.addT (h : RSt w0 w S bw bt bf (.cells cs 132 (0, 0)) nw nt fl) (m : NmAt w' bt ns) (t : Tn kM w0.heap.size w w') (u : Tm bt w w') (x1 : bw ≠ bt) (x3 : bt ≠ bf) : RSt w0 w' S bw bt bf (.cells cs 132 (0, 0)) nw ns fl :=
  ⟨t.objc h.obj (by decide), h.mw.tm u x1, m, h.mf.tm u x3.symm, t.toB h.b0 (Nat.le_refl _)⟩
theorem RSt.addF (h : RSt w0 w S bw bt bf (.cells cs 132 (0, 0)) nw nt fl) (m : FmAt w' bf fs) (t : Tn kM w0.heap.size w w') (u : Tm bf w w') (x2 : bw ≠ bf) (x3 : bt ≠ bf) : RSt w0 w' S bw bt bf (.cells cs 132 (0, 0)) nw nt fs :=
  ⟨t.objc h.obj (by decide), h.mw.tm u x2, h.mt.tm u x3, m, t.toB h.b0 (Nat.le_refl _)⟩
end
theorem bool_perm (a x y z r n : Bool) : ((a && x && y && z && r) && !n) = ((a && !n) && (x && y && z) && r) := by cases a <;> cases x <;> cases y <;> cases z <;> cases r <;> cases n <;> rfl
theorem bool_perm3 (a b c : Bool) : ((a && b) && !c) = ((a && !c) && b) := by cases a <;> cases b <;> cases c <;> rfl
theorem fm_swap {w : World} {b : Nat} {fs : List Fl} {n : ByteArray} {r c v : Int} (h : FmAt w b (fs ++ [⟨n, r, c, v⟩])) (v' : Int) : FmAt w b (fs ++ [⟨n, r, c, v'⟩]) := by
  obtain ⟨D, k1, k2, k3⟩ := h
  refine ⟨D, by simpa using k1, k2, fun n' r' c' h1 h2 h3 => (k3 n' r' c' h1 h2 h3).trans ?_⟩
  simp [filledW]
theorem bool_perm2 (a r x y z n : Bool) : ((a && r && x && y && z) && !n) = ((a && !n) && (a && r && x && y && z)) := by cases a <;> cases x <;> cases y <;> cases z <;> cases r <;> cases n <;> rfl
theorem rightD_noW {d : Dk} (h : apartW wareOk d.ws = false) : rightD d = false := by unfold rightD; rw [h]; simp
theorem rightD_noT {d : Dk} (h : apartW tipOk d.ts = false) : rightD d = false := by unfold rightD; rw [h]; simp
theorem rightD_noF {d : Dk} (h : fillsOk d.ws d.fs = false) : rightD d = false := by unfold rightD; rw [h]; simp
set_option maxRecDepth 100000 in
set_option maxHeartbeats 4000000 in
theorem right9_any (wv tv fv : Value) (d : Dk) (w : World) (h : IsDk w wv tv fv d) (hzws : ∀ r ∈ d.ws, r.n.size ≤ maxLen) (hsI : ∀ r ∈ d.ws, I64 r.x ∧ I64 r.y) (hzts : ∀ r ∈ d.ts, r.n.size ≤ maxLen) (hzfs : ∀ f ∈ d.fs, f.n.size ≤ maxLen ∧ I64 f.r ∧ I64 f.c) (hfs : d.fs.length < 1000) :
    Calls Try.prog 34 #[.agg #[wv, tv, fv]] w fun e w' => e = .returned (.bool (rightD d)) ∧ B w w' := by
  obtain ⟨ao, ac, bo, bc, co, cc, rfl, rfl, rfl⟩ := h.forms
  have q0 : B w (w.alloc (.cells #[.slice ao d.ws.length ac, .slice bo d.ts.length bc, .slice co d.fs.length cc] 67)) := (B.refl w).alloc _ _
  have oD0 := obj_new w (.cells #[.slice ao d.ws.length ac, .slice bo d.ts.length bc, .slice co d.fs.length cc] 67)
  have hD0 := h.keepB q0
  have hlw := h.ws.len
  have hlt := h.ts.len
  clear h
  by_cases hw8 : 8 < d.ws.length
  · have hno : rightD d = false := by unfold rightD; rw [decide_eq_false (show ¬ d.ws.length ≤ 8 by omega)]; simp
    have t8 : decide ((8 : Int) < (d.ws.length : Int)) = true := decide_eq_true (by omega)
    have HN := Lib.hid hno
    clear hno hw8 hzws hzts hzfs hsI hfs
    go_enter Try.func34, Try.ntmps34
    go_wp2
    go_ret
    exact ⟨by rw [HN.out]; rfl, q0⟩
  have t8 : decide ((8 : Int) < (d.ws.length : Int)) = false := decide_eq_false (by omega)
  by_cases ht4 : 4 < d.ts.length
  · have hno : rightD d = false := by unfold rightD; rw [decide_eq_false (show ¬ d.ts.length ≤ 4 by omega)]; simp
    have t4 : decide ((4 : Int) < (d.ts.length : Int)) = true := decide_eq_true (by omega)
    have HN := Lib.hid hno
    clear hno hw8 ht4 hzws hzts hzfs hsI hfs
    go_enter Try.func34, Try.ntmps34
    go_wp2
    go_ret
    exact ⟨by rw [HN.out]; rfl, q0⟩
  have t4 : decide ((4 : Int) < (d.ts.length : Int)) = false := decide_eq_false (by omega)
  go_enter Try.func34, Try.ntmps34
  go_wp2_with fail
  generalize w.alloc (.cells #[.slice ao d.ws.length ac, .slice bo d.ts.length bc, .slice co d.fs.length cc] 67) = w0 at *
  generalize w.heap.size = H at *
  refine (newStand_any ao bo co _ _ _ ac bc cc w0).mono ?_
  rintro _ w2 ⟨S, bw, bt, bf, rfl, oS, m1, m2, m3, g1, gw, gt, gf, x1, x2, x3, q2⟩
  obtain ⟨VW, VT, VF, hVW, oS⟩ : ∃ VW VT VF, IsRecs w0 VW d.ws ∧ w2.heap[S]? = some (.cells #[VW, VT, VF, .map (some bw), .map (some bt), .map (some bf), .pointer none, .int .i64 0] 132 (0, 0)) := ⟨_, _, _, hD0.ws, oS⟩
  have hRS0 : RSt w0 w2 S bw bt bf (.cells #[VW, VT, VF, .map (some bw), .map (some bt), .map (some bf), .pointer none, .int .i64 0] 132 (0, 0)) [] [] [] := ⟨oS, m1, m2, m3, q2⟩
  have oDk := fun {x : World} (q : B w0 x) => q.obj oD0
  have k0 : w2.cell? ⟨H, 0, none⟩ = some (.slice ao d.ws.length ac) := obj_cell (oDk q2) 0
  clear m1 m2 m3 oS q2
  go_wp2_with fail
  go_loopw [25] (fun iv wr => ∃ i : Nat, i ≤ d.ws.length ∧ iv = .int .i64 i ∧ UpTo wareOk d.ws i ∧ RSt w0 wr S bw bt bf (.cells #[VW, VT, VF, .map (some bw), .map (some bt), .map (some bf), .pointer none, .int .i64 0] 132 (0, 0)) ((d.ws.take i).map Rec.n) [] []) (fun iv _ => d.ws.length + 1 - (intOf iv).toNat)
  case atStart => exact ⟨0, Nat.zero_le _, rfl, fun j F _ hj => by omega, hRS0⟩
  case round =>
    obtain ⟨i, hi, rfl, hU, hRS⟩ := hrel
    by_cases hl : i < d.ws.length
    · have hlB : decide ((i : Int) < (d.ws.length : Int)) = true := decide_eq_true (by omega)
      have hlI : (i : Int) < (d.ws.length : Int) := by omega
      have hi0 : (0 : Int) ≤ (i : Int) := by omega
      have wk1 : IntKind.i64.wrap ((i : Int) + 1) = (i : Int) + 1 := by rw [IntKind.wrap_i64]; omega
      obtain ⟨g, cap, e1, _, _, hr⟩ := hD0.ws.at_ hl
      obtain ⟨rfl, _, rfl⟩ : ao = some g ∧ True ∧ ac = cap := by simpa using e1
      obtain ⟨F, hF⟩ : ∃ F, d.ws[i]? = some F := ⟨_, List.getElem?_eq_getElem hl⟩
      have hFe : d.ws[i] = F := by rw [List.getElem?_eq_getElem hl] at hF; simpa using hF
      rw [hFe] at hr
      obtain ⟨g0, g1, g2, g3, sv, g4, g5⟩ := hr
      replace g0 := hRS.b0.keep g0
      replace g1 := hRS.b0.keep g1
      replace g2 := hRS.b0.keep g2
      replace g3 := hRS.b0.keep g3
      replace g4 := hRS.b0.keep g4
      have g5w := g5
      have hsx := hsI F (List.mem_of_getElem? hF)
      have hsz := hzws F (List.mem_of_getElem? hF)
      have hAB : (wareOk F && !namedW (d.ws.take i) F.n) = ((nameS F.n && !namedL ((d.ws.take i).map Rec.n) F.n) && (inB F.x 1 8 && inB F.y 1 12 && inB F.z 0 1000000) && rightS F.l) := by
        rw [show namedL ((d.ws.take i).map Rec.n) F.n = namedW (d.ws.take i) F.n from named_map _ _]
        exact bool_perm _ _ _ _ _ _
      have hnoA := fun h => rightD_noW (d := d) (apart_no hF h)
      rw [hAB] at hnoA
      have hyesA : (((nameS F.n && !namedL ((d.ws.take i).map Rec.n) F.n) && (inB F.x 1 8 && inB F.y 1 12 && inB F.z 0 1000000) && rightS F.l) = true) → (wareOk F && !namedW (d.ws.take i) F.n) = true := fun h => hAB.trans h
      have haddA : ∀ h : (nameS F.n && !namedL ((d.ws.take i).map Rec.n) F.n) = true, addN ((d.ws.take i).map Rec.n) F.n = (d.ws.take i).map Rec.n ++ [F.n] := fun h => addN_yes h
      have HF := Lib.hid hF
      have HL := Lib.hid hl
      clear hAB hF hFe e1 hl
      obtain ⟨N, X, Y, Z, SL⟩ := F
      simp only at g0 g1 g2 g3 g4 g5 g5w hsz hnoA hyesA haddA hsx
      obtain ⟨so, sc, rfl⟩ := secs_form g5
      have cA := nadd_any (wr.alloc (.cells #[.string N, .int .i64 X, .int .i64 Y, .int .i64 Z, .slice so SL.length sc] 58)).drew w0.heap.size bw ((d.ws.take i).map Rec.n) N hsz (by rw [List.length_map, List.length_take]; omega) gw (((hRS.b (((B.refl wr).alloc _ _).drew)).mw))
      have cG := fun w' (q : B w0 w') => grid_any N X Y Z so SL.length sc w' hsx.1 hsx.2
      have cR := fun w' (q : B w0 w') => right_code (.slice so SL.length sc) SL w' (g5w.keepB q)
      have hRA := hRS.b (((B.refl wr).alloc #[.string N, .int .i64 X, .int .i64 Y, .int .i64 Z, .slice so SL.length sc] 58).drew)
      have hU := Lib.hid hU
      have oG := obj_new wr (.cells #[.string N, .int .i64 X, .int .i64 Y, .int .i64 Z, .slice so SL.length sc] 58)
      have hb1 : ∃ b, (nameS N && !namedL ((d.ws.take i).map Rec.n) N) = b := ⟨_, rfl⟩
      obtain ⟨b1, hb1⟩ := hb1
      rw [hb1] at cA hnoA hyesA haddA
      obtain ⟨b2, hb2⟩ : ∃ b, (inB X 1 8 && inB Y 1 12 && inB Z 0 1000000) = b := ⟨_, rfl⟩
      rw [hb2] at cG hnoA hyesA
      obtain ⟨b3, hb3⟩ : ∃ b, rightS SL = b := ⟨_, rfl⟩
      rw [hb3] at cR hnoA hyesA
      clear hb1 hb2 hb3
      have qwr := hRS.b0
      clear hRS g5 hsz
      go_wp2_with fail
      generalize wr.alloc (.cells #[.string N, .int .i64 X, .int .i64 Y, .int .i64 Z, .slice so SL.length sc] 58) = wA at *
      generalize wr.heap.size = G at *
      generalize SL.length = sn at *
      have oS2 : wA.drew.heap[S]? = some (.cells #[VW, VT, VF, .map (some bw), .map (some bt), .map (some bf), .pointer none, .int .i64 0] 132 (0, 0)) := hRA.obj
      have oG2 : wA.drew.heap[G]? = some (.cells #[.string N, .int .i64 X, .int .i64 Y, .int .i64 Z, .slice so sn sc] 58 (0, 0)) := oG
      have mkF : ∀ w' : World, B w0 w' → w'.heap[G]? = some (.cells #[.string N, .int .i64 X, .int .i64 Y, .int .i64 Z, .slice so sn sc] 58 (0, 0)) → w'.heap[S]? = some (.cells #[VW, VT, VF, .map (some bw), .map (some bt), .map (some bf), .pointer none, .int .i64 0] 132 (0, 0)) → w'.cell? ⟨S, 3, none⟩ = some (.map (some bw)) ∧ w'.cell? ⟨G, 0, none⟩ = some (.string N) ∧ w'.cell? ⟨G, 1, none⟩ = some (.int .i64 X) ∧ w'.cell? ⟨G, 2, none⟩ = some (.int .i64 Y) ∧ w'.cell? ⟨G, 3, none⟩ = some (.int .i64 Z) ∧ w'.cell? ⟨G, 4, none⟩ = some (.slice so sn sc) ∧ B w0 w' ∧ w'.heap[G]? = some (.cells #[.string N, .int .i64 X, .int .i64 Y, .int .i64 Z, .slice so sn sc] 58 (0, 0)) ∧ w'.heap[S]? = some (.cells #[VW, VT, VF, .map (some bw), .map (some bt), .map (some bf), .pointer none, .int .i64 0] 132 (0, 0)) :=
        fun w' q a b => ⟨obj_cell b 3, obj_cell a 0, obj_cell a 1, obj_cell a 2, obj_cell a 3, obj_cell a 4, q, a, b⟩
      have kT : ∀ w', Tn kM w0.heap.size wA.drew w' → w'.cell? ⟨S, 3, none⟩ = some (.map (some bw)) ∧ w'.cell? ⟨G, 0, none⟩ = some (.string N) ∧ w'.cell? ⟨G, 1, none⟩ = some (.int .i64 X) ∧ w'.cell? ⟨G, 2, none⟩ = some (.int .i64 Y) ∧ w'.cell? ⟨G, 3, none⟩ = some (.int .i64 Z) ∧ w'.cell? ⟨G, 4, none⟩ = some (.slice so sn sc) ∧ B w0 w' ∧ w'.heap[G]? = some (.cells #[.string N, .int .i64 X, .int .i64 Y, .int .i64 Z, .slice so sn sc] 58 (0, 0)) ∧ w'.heap[S]? = some (.cells #[VW, VT, VF, .map (some bw), .map (some bt), .map (some bf), .pointer none, .int .i64 0] 132 (0, 0)) := fun w' t => mkF w' (t.toB hRA.b0 (Nat.le_refl _)) (t.objc oG2 (by decide)) (t.objc oS2 (by decide))
      have kB : ∀ w1 w2, (w1.cell? ⟨S, 3, none⟩ = some (.map (some bw)) ∧ w1.cell? ⟨G, 0, none⟩ = some (.string N) ∧ w1.cell? ⟨G, 1, none⟩ = some (.int .i64 X) ∧ w1.cell? ⟨G, 2, none⟩ = some (.int .i64 Y) ∧ w1.cell? ⟨G, 3, none⟩ = some (.int .i64 Z) ∧ w1.cell? ⟨G, 4, none⟩ = some (.slice so sn sc) ∧ B w0 w1 ∧ w1.heap[G]? = some (.cells #[.string N, .int .i64 X, .int .i64 Y, .int .i64 Z, .slice so sn sc] 58 (0, 0)) ∧ w1.heap[S]? = some (.cells #[VW, VT, VF, .map (some bw), .map (some bt), .map (some bf), .pointer none, .int .i64 0] 132 (0, 0))) → B w1 w2 → w2.cell? ⟨S, 3, none⟩ = some (.map (some bw)) ∧ w2.cell? ⟨G, 0, none⟩ = some (.string N) ∧ w2.cell? ⟨G, 1, none⟩ = some (.int .i64 X) ∧ w2.cell? ⟨G, 2, none⟩ = some (.int .i64 Y) ∧ w2.cell? ⟨G, 3, none⟩ = some (.int .i64 Z) ∧ w2.cell? ⟨G, 4, none⟩ = some (.slice so sn sc) ∧ B w0 w2 ∧ w2.heap[G]? = some (.cells #[.string N, .int .i64 X, .int .i64 Y, .int .i64 Z, .slice so sn sc] 58 (0, 0)) ∧ w2.heap[S]? = some (.cells #[VW, VT, VF, .map (some bw), .map (some bt), .map (some bf), .pointer none, .int .i64 0] 132 (0, 0)) := fun w1 w2 hf q => mkF w2 (hf.2.2.2.2.2.2.1.trans q) (q.obj hf.2.2.2.2.2.2.2.1) (q.obj hf.2.2.2.2.2.2.2.2)
      obtain ⟨s3, p0, p1, p2, p3, p4, qd, oG3, oS3⟩ := mkF wA.drew hRA.b0 oG2 oS2
      clear mkF oG oG2 oS2 g0 g1 g2 g3 g4 qwr
      cases b1
      · have hno := fun (_ : True) => hnoA (by rfl)
        refine wp_region_noPanic ?_
        refine wp_region_seq (S := fun w' => w'.cell? ⟨S, 3, none⟩ = some (.map (some bw)) ∧ w'.cell? ⟨G, 0, none⟩ = some (.string N) ∧ w'.cell? ⟨G, 1, none⟩ = some (.int .i64 X) ∧ w'.cell? ⟨G, 2, none⟩ = some (.int .i64 Y) ∧ w'.cell? ⟨G, 3, none⟩ = some (.int .i64 Z) ∧ w'.cell? ⟨G, 4, none⟩ = some (.slice so sn sc) ∧ B w0 w' ∧ w'.heap[G]? = some (.cells #[.string N, .int .i64 X, .int .i64 Y, .int .i64 Z, .slice so sn sc] 58 (0, 0)) ∧ w'.heap[S]? = some (.cells #[VW, VT, VF, .map (some bw), .map (some bt), .map (some bf), .pointer none, .int .i64 0] 132 (0, 0))) [(0, 0), (1, 0), (2, 0), (3, 0), (4, 0), (5, 0), (6, 2), (7, 0), (8, 0), (9, 1), (10, 1), (11, 1), (12, 0), (13, 0), (14, 1), (15, 1), (16, 1), (17, 1), (18, 0)] [0, 1, 2, 4, 0, 16, 40, 64, 192, 256, 768, 1280, 2304, 5120, 8192, 24576, 40960, 73728, 139264] [0, 1, 2, 4, 0, 16, 40, 64, 128, 256, 768, 1280, 2304, 4096, 8192, 24576, 40960, 73728, 139264] (by kernel_rfl) (by kernel_rfl) (fun _ _ _ _ _ h => h) ?_ (fun hH => ?_)
        · exact ⟨s3, p0, p1, p2, p3, p4, qd, oG3, oS3⟩
        refine wpSeq_take (d := 29) (v := ?_) rfl rfl (by kernel_rfl) (fun w hS => ?_) ?_
        rotate_left
        · go_simp <;> with_reducible rfl
        dsimp only [List.set_cons_zero, List.set_cons_succ]
        refine wpSeq_take (d := 30) (v := ?_) rfl rfl (by kernel_rfl) (fun w hS => ?_) ?_
        rotate_left
        · go_simp <;> with_reducible rfl
        dsimp only [List.set_cons_zero, List.set_cons_succ]
        refine wpSeq_take (d := 31) (v := ?_) rfl rfl (by kernel_rfl) (fun w hS => ?_) ?_
        rotate_left
        · go_simp <;> with_reducible rfl
        dsimp only [List.set_cons_zero, List.set_cons_succ]
        refine wpSeq_take (d := 32) (v := ?_) rfl rfl (by kernel_rfl) (fun w hS => ?_) ?_
        rotate_left
        · go_simp <;> with_reducible rfl
        dsimp only [List.set_cons_zero, List.set_cons_succ]
        refine wpSeq_take (d := 33) (v := ?_) rfl rfl (by kernel_rfl) (fun w hS => ?_) ?_
        rotate_left
        · go_simp <;> with_reducible rfl
        dsimp only [List.set_cons_zero, List.set_cons_succ]
        refine wpSeq_take (d := 34) (v := ?_) rfl rfl (by kernel_rfl) (fun w hS => ?_) ?_
        rotate_left
        · go_simp <;> with_reducible rfl
        dsimp only [List.set_cons_zero, List.set_cons_succ]
        refine wpSeq_call rfl (by kernel_rfl) (fun K hK => ?_)
        go_simp
        (with_reducible refine (cA).mono ?_)
        rintro e w' ⟨rfl, hq⟩
        refine hK.out _ _ ?_ (fun hH => ?_)
        · first | exact kT _ hq.2.1 | exact kB _ _ hH hq
        clear hK
        refine wpSeq_take (d := 36) (v := ?_) rfl rfl (by kernel_rfl) (fun w hS => ?_) ?_
        rotate_left
        · go_simp <;> with_reducible rfl
        dsimp only [List.set_cons_zero, List.set_cons_succ]
        refine wpSeq_take (d := 37) (v := ?_) rfl rfl (by kernel_rfl) (fun w hS => ?_) ?_
        rotate_left
        · go_simp <;> with_reducible rfl
        dsimp only [List.set_cons_zero, List.set_cons_succ]
        refine wpSeq_pass (d := 38) rfl rfl (by kernel_rfl) ?_
        dsimp only [List.set_cons_zero, List.set_cons_succ]
        refine wpSeq_pass (d := 39) rfl rfl (by kernel_rfl) ?_
        dsimp only [List.set_cons_zero, List.set_cons_succ]
        refine wpSeq_pass (d := 40) rfl rfl (by kernel_rfl) ?_
        dsimp only [List.set_cons_zero, List.set_cons_succ]
        refine wpSeq_take (d := 41) (v := ?_) rfl rfl (by kernel_rfl) (fun w hS => ?_) ?_
        rotate_left
        · go_simp <;> with_reducible rfl
        dsimp only [List.set_cons_zero, List.set_cons_succ]
        refine wpSeq_take (d := 42) (v := ?_) rfl rfl (by kernel_rfl) (fun w hS => ?_) ?_
        rotate_left
        · go_simp <;> with_reducible rfl
        dsimp only [List.set_cons_zero, List.set_cons_succ]
        refine wpSeq_pass (d := 43) rfl rfl (by kernel_rfl) ?_
        dsimp only [List.set_cons_zero, List.set_cons_succ]
        refine wpSeq_pass (d := 44) rfl rfl (by kernel_rfl) ?_
        dsimp only [List.set_cons_zero, List.set_cons_succ]
        refine wpSeq_pass (d := 45) rfl rfl (by kernel_rfl) ?_
        dsimp only [List.set_cons_zero, List.set_cons_succ]
        refine wpSeq_pass (d := 46) rfl rfl (by kernel_rfl) ?_
        dsimp only [List.set_cons_zero, List.set_cons_succ]
        refine wpSeq_take (d := 47) (v := ?_) rfl rfl (by kernel_rfl) (fun w hS => ?_) ?_
        rotate_left
        · go_simp <;> with_reducible rfl
        dsimp only [List.set_cons_zero, List.set_cons_succ]
        refine wpSeq_done ?_
        refine NoPanic.normal ?_
        have HR := Lib.hid (hno trivial)
        have HB := Lib.hid hH.2.2.2.2.2.2.1
        clear hH cA cG cR kT kB hno hnoA hyesA haddA
        go_wp2
        go_ret
        exact ⟨by rw [HR.out]; rfl, q0.trans HB.out⟩
      · cases b2
        · have hno := fun (_ : True) => hnoA (by rfl)
          refine wp_region_noPanic ?_
          refine wp_region_seq (S := fun w' => w'.cell? ⟨S, 3, none⟩ = some (.map (some bw)) ∧ w'.cell? ⟨G, 0, none⟩ = some (.string N) ∧ w'.cell? ⟨G, 1, none⟩ = some (.int .i64 X) ∧ w'.cell? ⟨G, 2, none⟩ = some (.int .i64 Y) ∧ w'.cell? ⟨G, 3, none⟩ = some (.int .i64 Z) ∧ w'.cell? ⟨G, 4, none⟩ = some (.slice so sn sc) ∧ B w0 w' ∧ w'.heap[G]? = some (.cells #[.string N, .int .i64 X, .int .i64 Y, .int .i64 Z, .slice so sn sc] 58 (0, 0)) ∧ w'.heap[S]? = some (.cells #[VW, VT, VF, .map (some bw), .map (some bt), .map (some bf), .pointer none, .int .i64 0] 132 (0, 0))) [(0, 0), (1, 0), (2, 0), (3, 0), (4, 0), (5, 0), (6, 2), (7, 0), (8, 0), (9, 0), (10, 2), (11, 0), (12, 0), (13, 0), (14, 1), (15, 1), (16, 1), (17, 1), (18, 0)] [0, 1, 2, 4, 0, 16, 40, 64, 192, 256, 768, 1280, 2304, 5120, 8192, 24576, 40960, 73728, 139264] [0, 1, 2, 4, 0, 16, 40, 64, 128, 256, 768, 1280, 2304, 4096, 8192, 24576, 40960, 73728, 139264] (by kernel_rfl) (by kernel_rfl) (fun _ _ _ _ _ h => h) ?_ (fun hH => ?_)
          · exact ⟨s3, p0, p1, p2, p3, p4, qd, oG3, oS3⟩
          refine wpSeq_take (d := 29) (v := ?_) rfl rfl (by kernel_rfl) (fun w hS => ?_) ?_
          rotate_left
          · go_simp <;> with_reducible rfl
          dsimp only [List.set_cons_zero, List.set_cons_succ]
          refine wpSeq_take (d := 30) (v := ?_) rfl rfl (by kernel_rfl) (fun w hS => ?_) ?_
          rotate_left
          · go_simp <;> with_reducible rfl
          dsimp only [List.set_cons_zero, List.set_cons_succ]
          refine wpSeq_take (d := 31) (v := ?_) rfl rfl (by kernel_rfl) (fun w hS => ?_) ?_
          rotate_left
          · go_simp <;> with_reducible rfl
          dsimp only [List.set_cons_zero, List.set_cons_succ]
          refine wpSeq_take (d := 32) (v := ?_) rfl rfl (by kernel_rfl) (fun w hS => ?_) ?_
          rotate_left
          · go_simp <;> with_reducible rfl
          dsimp only [List.set_cons_zero, List.set_cons_succ]
          refine wpSeq_take (d := 33) (v := ?_) rfl rfl (by kernel_rfl) (fun w hS => ?_) ?_
          rotate_left
          · go_simp <;> with_reducible rfl
          dsimp only [List.set_cons_zero, List.set_cons_succ]
          refine wpSeq_take (d := 34) (v := ?_) rfl rfl (by kernel_rfl) (fun w hS => ?_) ?_
          rotate_left
          · go_simp <;> with_reducible rfl
          dsimp only [List.set_cons_zero, List.set_cons_succ]
          refine wpSeq_call rfl (by kernel_rfl) (fun K hK => ?_)
          go_simp
          (with_reducible refine (cA).mono ?_)
          rintro e w' ⟨rfl, hq⟩
          refine hK.out _ _ ?_ (fun hH => ?_)
          · first | exact kT _ hq.2.1 | exact kB _ _ hH hq
          clear hK
          refine wpSeq_take (d := 36) (v := ?_) rfl rfl (by kernel_rfl) (fun w hS => ?_) ?_
          rotate_left
          · go_simp <;> with_reducible rfl
          dsimp only [List.set_cons_zero, List.set_cons_succ]
          refine wpSeq_take (d := 37) (v := ?_) rfl rfl (by kernel_rfl) (fun w hS => ?_) ?_
          rotate_left
          · go_simp <;> with_reducible rfl
          dsimp only [List.set_cons_zero, List.set_cons_succ]
          refine wpSeq_take (d := 38) (v := ?_) rfl rfl (by kernel_rfl) (fun w hS => ?_) ?_
          rotate_left
          · go_simp <;> with_reducible rfl
          dsimp only [List.set_cons_zero, List.set_cons_succ]
          refine wpSeq_call rfl (by kernel_rfl) (fun K hK => ?_)
          go_simp
          (with_reducible refine (cG _ hH.2.2.2.2.2.2.1).mono ?_)
          rintro e w' ⟨rfl, hq⟩
          refine hK.out _ _ ?_ (fun hH => ?_)
          · first | exact kT _ hq.2.1 | exact kB _ _ hH hq
          clear hK
          refine wpSeq_take (d := 40) (v := ?_) rfl rfl (by kernel_rfl) (fun w hS => ?_) ?_
          rotate_left
          · go_simp <;> with_reducible rfl
          dsimp only [List.set_cons_zero, List.set_cons_succ]
          refine wpSeq_take (d := 41) (v := ?_) rfl rfl (by kernel_rfl) (fun w hS => ?_) ?_
          rotate_left
          · go_simp <;> with_reducible rfl
          dsimp only [List.set_cons_zero, List.set_cons_succ]
          refine wpSeq_take (d := 42) (v := ?_) rfl rfl (by kernel_rfl) (fun w hS => ?_) ?_
          rotate_left
          · go_simp <;> with_reducible rfl
          dsimp only [List.set_cons_zero, List.set_cons_succ]
          refine wpSeq_pass (d := 43) rfl rfl (by kernel_rfl) ?_
          dsimp only [List.set_cons_zero, List.set_cons_succ]
          refine wpSeq_pass (d := 44) rfl rfl (by kernel_rfl) ?_
          dsimp only [List.set_cons_zero, List.set_cons_succ]
          refine wpSeq_pass (d := 45) rfl rfl (by kernel_rfl) ?_
          dsimp only [List.set_cons_zero, List.set_cons_succ]
          refine wpSeq_pass (d := 46) rfl rfl (by kernel_rfl) ?_
          dsimp only [List.set_cons_zero, List.set_cons_succ]
          refine wpSeq_take (d := 47) (v := ?_) rfl rfl (by kernel_rfl) (fun w hS => ?_) ?_
          rotate_left
          · go_simp <;> with_reducible rfl
          dsimp only [List.set_cons_zero, List.set_cons_succ]
          refine wpSeq_done ?_
          refine NoPanic.normal ?_
          have HR := Lib.hid (hno trivial)
          have HB := Lib.hid hH.2.2.2.2.2.2.1
          clear hH cA cG cR kT kB hno hnoA hyesA haddA
          go_wp2
          go_ret
          exact ⟨by rw [HR.out]; rfl, q0.trans HB.out⟩
        · cases b3
          · have hno := fun (_ : True) => hnoA (by rfl)
            refine wp_region_noPanic ?_
            refine wp_region_seq (S := fun w' => w'.cell? ⟨S, 3, none⟩ = some (.map (some bw)) ∧ w'.cell? ⟨G, 0, none⟩ = some (.string N) ∧ w'.cell? ⟨G, 1, none⟩ = some (.int .i64 X) ∧ w'.cell? ⟨G, 2, none⟩ = some (.int .i64 Y) ∧ w'.cell? ⟨G, 3, none⟩ = some (.int .i64 Z) ∧ w'.cell? ⟨G, 4, none⟩ = some (.slice so sn sc) ∧ B w0 w' ∧ w'.heap[G]? = some (.cells #[.string N, .int .i64 X, .int .i64 Y, .int .i64 Z, .slice so sn sc] 58 (0, 0)) ∧ w'.heap[S]? = some (.cells #[VW, VT, VF, .map (some bw), .map (some bt), .map (some bf), .pointer none, .int .i64 0] 132 (0, 0))) [(0, 0), (1, 0), (2, 0), (3, 0), (4, 0), (5, 0), (6, 2), (7, 0), (8, 0), (9, 0), (10, 2), (11, 0), (12, 0), (13, 0), (14, 0), (15, 0), (16, 2), (17, 0), (18, 0)] [0, 1, 2, 4, 0, 16, 40, 64, 192, 256, 768, 1280, 2304, 5120, 8192, 24576, 40960, 73728, 139264] [0, 1, 2, 4, 0, 16, 40, 64, 128, 256, 768, 1280, 2304, 4096, 8192, 24576, 40960, 73728, 139264] (by kernel_rfl) (by kernel_rfl) (fun _ _ _ _ _ h => h) ?_ (fun hH => ?_)
            · exact ⟨s3, p0, p1, p2, p3, p4, qd, oG3, oS3⟩
            refine wpSeq_take (d := 29) (v := ?_) rfl rfl (by kernel_rfl) (fun w hS => ?_) ?_
            rotate_left
            · go_simp <;> with_reducible rfl
            dsimp only [List.set_cons_zero, List.set_cons_succ]
            refine wpSeq_take (d := 30) (v := ?_) rfl rfl (by kernel_rfl) (fun w hS => ?_) ?_
            rotate_left
            · go_simp <;> with_reducible rfl
            dsimp only [List.set_cons_zero, List.set_cons_succ]
            refine wpSeq_take (d := 31) (v := ?_) rfl rfl (by kernel_rfl) (fun w hS => ?_) ?_
            rotate_left
            · go_simp <;> with_reducible rfl
            dsimp only [List.set_cons_zero, List.set_cons_succ]
            refine wpSeq_take (d := 32) (v := ?_) rfl rfl (by kernel_rfl) (fun w hS => ?_) ?_
            rotate_left
            · go_simp <;> with_reducible rfl
            dsimp only [List.set_cons_zero, List.set_cons_succ]
            refine wpSeq_take (d := 33) (v := ?_) rfl rfl (by kernel_rfl) (fun w hS => ?_) ?_
            rotate_left
            · go_simp <;> with_reducible rfl
            dsimp only [List.set_cons_zero, List.set_cons_succ]
            refine wpSeq_take (d := 34) (v := ?_) rfl rfl (by kernel_rfl) (fun w hS => ?_) ?_
            rotate_left
            · go_simp <;> with_reducible rfl
            dsimp only [List.set_cons_zero, List.set_cons_succ]
            refine wpSeq_call rfl (by kernel_rfl) (fun K hK => ?_)
            go_simp
            (with_reducible refine (cA).mono ?_)
            rintro e w' ⟨rfl, hq⟩
            refine hK.out _ _ ?_ (fun hH => ?_)
            · first | exact kT _ hq.2.1 | exact kB _ _ hH hq
            clear hK
            refine wpSeq_take (d := 36) (v := ?_) rfl rfl (by kernel_rfl) (fun w hS => ?_) ?_
            rotate_left
            · go_simp <;> with_reducible rfl
            dsimp only [List.set_cons_zero, List.set_cons_succ]
            refine wpSeq_take (d := 37) (v := ?_) rfl rfl (by kernel_rfl) (fun w hS => ?_) ?_
            rotate_left
            · go_simp <;> with_reducible rfl
            dsimp only [List.set_cons_zero, List.set_cons_succ]
            refine wpSeq_take (d := 38) (v := ?_) rfl rfl (by kernel_rfl) (fun w hS => ?_) ?_
            rotate_left
            · go_simp <;> with_reducible rfl
            dsimp only [List.set_cons_zero, List.set_cons_succ]
            refine wpSeq_call rfl (by kernel_rfl) (fun K hK => ?_)
            go_simp
            (with_reducible refine (cG _ hH.2.2.2.2.2.2.1).mono ?_)
            rintro e w' ⟨rfl, hq⟩
            refine hK.out _ _ ?_ (fun hH => ?_)
            · first | exact kT _ hq.2.1 | exact kB _ _ hH hq
            clear hK
            refine wpSeq_take (d := 40) (v := ?_) rfl rfl (by kernel_rfl) (fun w hS => ?_) ?_
            rotate_left
            · go_simp <;> with_reducible rfl
            dsimp only [List.set_cons_zero, List.set_cons_succ]
            refine wpSeq_take (d := 41) (v := ?_) rfl rfl (by kernel_rfl) (fun w hS => ?_) ?_
            rotate_left
            · go_simp <;> with_reducible rfl
            dsimp only [List.set_cons_zero, List.set_cons_succ]
            refine wpSeq_take (d := 42) (v := ?_) rfl rfl (by kernel_rfl) (fun w hS => ?_) ?_
            rotate_left
            · go_simp <;> with_reducible rfl
            dsimp only [List.set_cons_zero, List.set_cons_succ]
            refine wpSeq_take (d := 43) (v := ?_) rfl rfl (by kernel_rfl) (fun w hS => ?_) ?_
            rotate_left
            · go_simp <;> with_reducible rfl
            dsimp only [List.set_cons_zero, List.set_cons_succ]
            refine wpSeq_take (d := 44) (v := ?_) rfl rfl (by kernel_rfl) (fun w hS => ?_) ?_
            rotate_left
            · go_simp <;> with_reducible rfl
            dsimp only [List.set_cons_zero, List.set_cons_succ]
            refine wpSeq_call rfl (by kernel_rfl) (fun K hK => ?_)
            go_simp
            (with_reducible refine (cR _ hH.2.2.2.2.2.2.1).mono ?_)
            rintro e w' ⟨rfl, hq⟩
            refine hK.out _ _ ?_ (fun hH => ?_)
            · first | exact kT _ hq.2.1 | exact kB _ _ hH hq
            clear hK
            refine wpSeq_take (d := 46) (v := ?_) rfl rfl (by kernel_rfl) (fun w hS => ?_) ?_
            rotate_left
            · go_simp <;> with_reducible rfl
            dsimp only [List.set_cons_zero, List.set_cons_succ]
            refine wpSeq_take (d := 47) (v := ?_) rfl rfl (by kernel_rfl) (fun w hS => ?_) ?_
            rotate_left
            · go_simp <;> with_reducible rfl
            dsimp only [List.set_cons_zero, List.set_cons_succ]
            refine wpSeq_done ?_
            refine NoPanic.normal ?_
            have HR := Lib.hid (hno trivial)
            have HB := Lib.hid hH.2.2.2.2.2.2.1
            clear hH cA cG cR kT kB hno hnoA hyesA haddA
            go_wp2
            go_ret
            exact ⟨by rw [HR.out]; rfl, q0.trans HB.out⟩
          · have hyes := fun (_ : True) => hyesA (by rfl)
            have haddN := fun (_ : True) => haddA rfl
            clear hnoA hyesA haddA
            go_region_with (first
              | (go_at_call 47; (with_reducible refine (Calls.mono cA ?_); rintro _ w3 ⟨rfl, m3, t3, u3⟩; obtain ⟨k0, k1, k2, k3, k4, k5, k6, k7, k8⟩ := kT _ t3))
              | (go_at_call 48; (with_reducible refine (Calls.mono (cG _ k6) ?_); rintro _ w4 ⟨rfl, q4⟩; obtain ⟨j0, j1, j2, j3, j4, j5, j6, j7, j8⟩ := kB _ _ ⟨k0, k1, k2, k3, k4, k5, k6, k7, k8⟩ q4))
              | (go_at_call 49; (with_reducible refine (Calls.mono (cR _ j6) ?_); rintro _ w5 ⟨rfl, q5⟩)))
            all_goals
              have HZ := Lib.hid ((hRA.addW m3 t3 u3 x1 x2).b (q4.trans q5))
              clear cA cG cR kT kB
              go_wp2
              go_roundw
              case rel =>
                refine ⟨i + 1, by have := HL.out; omega, by go_num, (hU.out).next HF.out (hyes trivial), ?_⟩
                have e := HZ.out
                rw [haddN trivial] at e
                rw [List.take_add_one, HF.out]
                simpa using e
              case measure => have := HL.out; simp [intOf]; omega
    · have hlB : decide ((i : Int) < (d.ws.length : Int)) = false := decide_eq_false (by omega)
      obtain rfl : i = d.ws.length := by omega
      have hU1 := Lib.hid hU
      clear hU
      have k1 : wr.cell? ⟨H, 1, none⟩ = some (.slice bo d.ts.length bc) := obj_cell (oDk hRS.b0) 1
      have hRS1 := hRS
      rw [List.take_length] at hRS1
      clear hRS hlB hRS0
      go_wp2_with fail
      obtain ⟨wo, rfl⟩ : ∃ wo : World, wo = wr := ⟨_, rfl⟩
      go_loopw [52] (fun iv wr => ∃ i : Nat, i ≤ d.ts.length ∧ iv = .int .i64 i ∧ UpTo tipOk d.ts i ∧ RSt w0 wr S bw bt bf (.cells #[VW, VT, VF, .map (some bw), .map (some bt), .map (some bf), .pointer none, .int .i64 0] 132 (0, 0)) (d.ws.map Rec.n) ((d.ts.take i).map Rec.n) []) (fun iv _ => d.ts.length + 1 - (intOf iv).toNat)
      case atStart => exact ⟨0, Nat.zero_le _, rfl, fun j F _ hj => by omega, hRS1⟩
      case round =>
        clear hRS1
        obtain ⟨i, hi, rfl, hU, hRS⟩ := hrel
        by_cases hl : i < d.ts.length
        · have hlB : decide ((i : Int) < (d.ts.length : Int)) = true := decide_eq_true (by omega)
          have hlI : (i : Int) < (d.ts.length : Int) := by omega
          have hi0 : (0 : Int) ≤ (i : Int) := by omega
          have wk1 : IntKind.i64.wrap ((i : Int) + 1) = (i : Int) + 1 := by rw [IntKind.wrap_i64]; omega
          obtain ⟨g, cap, e1, _, _, hr⟩ := hD0.ts.at_ hl
          obtain ⟨rfl, _, rfl⟩ : bo = some g ∧ True ∧ bc = cap := by simpa using e1
          obtain ⟨F, hF⟩ : ∃ F, d.ts[i]? = some F := ⟨_, List.getElem?_eq_getElem hl⟩
          have hFe : d.ts[i] = F := by rw [List.getElem?_eq_getElem hl] at hF; simpa using hF
          rw [hFe] at hr
          obtain ⟨g0, g1, g2, g3, sv, g4, g5⟩ := hr
          replace g0 := hRS.b0.keep g0
          replace g1 := hRS.b0.keep g1
          replace g2 := hRS.b0.keep g2
          replace g3 := hRS.b0.keep g3
          replace g4 := hRS.b0.keep g4
          have g5w := g5
  
          have hsz := hzts F (List.mem_of_getElem? hF)
          have hAB : (tipOk F && !namedW (d.ts.take i) F.n) = ((nameS F.n && !namedL ((d.ts.take i).map Rec.n) F.n) && tipB F.n F.x F.y F.z F.l) := by
            rw [show namedL ((d.ts.take i).map Rec.n) F.n = namedW (d.ts.take i) F.n from named_map _ _]
            rw [tipB_ok]; exact bool_perm2 _ _ _ _ _ _
          have hnoA := fun h => rightD_noT (d := d) (apart_no hF h)
          rw [hAB] at hnoA
          have hyesA : (((nameS F.n && !namedL ((d.ts.take i).map Rec.n) F.n) && tipB F.n F.x F.y F.z F.l) = true) → (tipOk F && !namedW (d.ts.take i) F.n) = true := fun h => hAB.trans h
          have haddA : ∀ h : (nameS F.n && !namedL ((d.ts.take i).map Rec.n) F.n) = true, addN ((d.ts.take i).map Rec.n) F.n = (d.ts.take i).map Rec.n ++ [F.n] := fun h => addN_yes h
          have HF := Lib.hid hF
          have HL := Lib.hid hl
          clear hAB hF hFe e1 hl
          obtain ⟨N, X, Y, Z, SL⟩ := F
          simp only at g0 g1 g2 g3 g4 g5 g5w hsz hnoA hyesA haddA
          obtain ⟨so, sc, rfl⟩ := secs_form g5
          have cA := nadd_any (wr.alloc (.cells #[.string N, .int .i64 X, .int .i64 Y, .int .i64 Z, .slice so SL.length sc] 116)).drew w0.heap.size bt ((d.ts.take i).map Rec.n) N hsz (by rw [List.length_map, List.length_take]; omega) gt (((hRS.b (((B.refl wr).alloc _ _).drew)).mt))
          have cG := fun w' (q : B w0 w') => tipright_any N X Y Z (.slice so SL.length sc) SL w' (g5w.keepB q)
  
          have hRA := hRS.b (((B.refl wr).alloc #[.string N, .int .i64 X, .int .i64 Y, .int .i64 Z, .slice so SL.length sc] 116).drew)
          have hU := Lib.hid hU
          have oG := obj_new wr (.cells #[.string N, .int .i64 X, .int .i64 Y, .int .i64 Z, .slice so SL.length sc] 116)
          have hb1 : ∃ b, (nameS N && !namedL ((d.ts.take i).map Rec.n) N) = b := ⟨_, rfl⟩
          obtain ⟨b1, hb1⟩ := hb1
          rw [hb1] at cA hnoA hyesA haddA
          obtain ⟨b2, hb2⟩ : ∃ b, tipB N X Y Z SL = b := ⟨_, rfl⟩
          rw [hb2] at cG hnoA hyesA
          clear hb1 hb2
  
  
          have qwr := hRS.b0
          clear hRS g5 hsz
          go_wp2_with fail
          generalize wr.alloc (.cells #[.string N, .int .i64 X, .int .i64 Y, .int .i64 Z, .slice so SL.length sc] 116) = wA at *
          generalize wr.heap.size = G at *
          generalize SL.length = sn at *
          have oS2 : wA.drew.heap[S]? = some (.cells #[VW, VT, VF, .map (some bw), .map (some bt), .map (some bf), .pointer none, .int .i64 0] 132 (0, 0)) := hRA.obj
          have oG2 : wA.drew.heap[G]? = some (.cells #[.string N, .int .i64 X, .int .i64 Y, .int .i64 Z, .slice so sn sc] 116 (0, 0)) := oG
          have mkF : ∀ w' : World, B w0 w' → w'.heap[G]? = some (.cells #[.string N, .int .i64 X, .int .i64 Y, .int .i64 Z, .slice so sn sc] 116 (0, 0)) → w'.heap[S]? = some (.cells #[VW, VT, VF, .map (some bw), .map (some bt), .map (some bf), .pointer none, .int .i64 0] 132 (0, 0)) → w'.cell? ⟨S, 4, none⟩ = some (.map (some bt)) ∧ w'.cell? ⟨G, 0, none⟩ = some (.string N) ∧ w'.cell? ⟨G, 1, none⟩ = some (.int .i64 X) ∧ w'.cell? ⟨G, 2, none⟩ = some (.int .i64 Y) ∧ w'.cell? ⟨G, 3, none⟩ = some (.int .i64 Z) ∧ w'.cell? ⟨G, 4, none⟩ = some (.slice so sn sc) ∧ B w0 w' ∧ w'.heap[G]? = some (.cells #[.string N, .int .i64 X, .int .i64 Y, .int .i64 Z, .slice so sn sc] 116 (0, 0)) ∧ w'.heap[S]? = some (.cells #[VW, VT, VF, .map (some bw), .map (some bt), .map (some bf), .pointer none, .int .i64 0] 132 (0, 0)) :=
            fun w' q a b => ⟨obj_cell b 4, obj_cell a 0, obj_cell a 1, obj_cell a 2, obj_cell a 3, obj_cell a 4, q, a, b⟩
          have kT : ∀ w', Tn kM w0.heap.size wA.drew w' → w'.cell? ⟨S, 4, none⟩ = some (.map (some bt)) ∧ w'.cell? ⟨G, 0, none⟩ = some (.string N) ∧ w'.cell? ⟨G, 1, none⟩ = some (.int .i64 X) ∧ w'.cell? ⟨G, 2, none⟩ = some (.int .i64 Y) ∧ w'.cell? ⟨G, 3, none⟩ = some (.int .i64 Z) ∧ w'.cell? ⟨G, 4, none⟩ = some (.slice so sn sc) ∧ B w0 w' ∧ w'.heap[G]? = some (.cells #[.string N, .int .i64 X, .int .i64 Y, .int .i64 Z, .slice so sn sc] 116 (0, 0)) ∧ w'.heap[S]? = some (.cells #[VW, VT, VF, .map (some bw), .map (some bt), .map (some bf), .pointer none, .int .i64 0] 132 (0, 0)) := fun w' t => mkF w' (t.toB hRA.b0 (Nat.le_refl _)) (t.objc oG2 (by decide)) (t.objc oS2 (by decide))
          have kB : ∀ w1 w2, (w1.cell? ⟨S, 4, none⟩ = some (.map (some bt)) ∧ w1.cell? ⟨G, 0, none⟩ = some (.string N) ∧ w1.cell? ⟨G, 1, none⟩ = some (.int .i64 X) ∧ w1.cell? ⟨G, 2, none⟩ = some (.int .i64 Y) ∧ w1.cell? ⟨G, 3, none⟩ = some (.int .i64 Z) ∧ w1.cell? ⟨G, 4, none⟩ = some (.slice so sn sc) ∧ B w0 w1 ∧ w1.heap[G]? = some (.cells #[.string N, .int .i64 X, .int .i64 Y, .int .i64 Z, .slice so sn sc] 116 (0, 0)) ∧ w1.heap[S]? = some (.cells #[VW, VT, VF, .map (some bw), .map (some bt), .map (some bf), .pointer none, .int .i64 0] 132 (0, 0))) → B w1 w2 → w2.cell? ⟨S, 4, none⟩ = some (.map (some bt)) ∧ w2.cell? ⟨G, 0, none⟩ = some (.string N) ∧ w2.cell? ⟨G, 1, none⟩ = some (.int .i64 X) ∧ w2.cell? ⟨G, 2, none⟩ = some (.int .i64 Y) ∧ w2.cell? ⟨G, 3, none⟩ = some (.int .i64 Z) ∧ w2.cell? ⟨G, 4, none⟩ = some (.slice so sn sc) ∧ B w0 w2 ∧ w2.heap[G]? = some (.cells #[.string N, .int .i64 X, .int .i64 Y, .int .i64 Z, .slice so sn sc] 116 (0, 0)) ∧ w2.heap[S]? = some (.cells #[VW, VT, VF, .map (some bw), .map (some bt), .map (some bf), .pointer none, .int .i64 0] 132 (0, 0)) := fun w1 w2 hf q => mkF w2 (hf.2.2.2.2.2.2.1.trans q) (q.obj hf.2.2.2.2.2.2.2.1) (q.obj hf.2.2.2.2.2.2.2.2)
          obtain ⟨s3, p0, p1, p2, p3, p4, qd, oG3, oS3⟩ := mkF wA.drew hRA.b0 oG2 oS2
          clear mkF oG oG2 oS2 g0 g1 g2 g3 g4 qwr
          cases b1
          · have hno := fun (_ : True) => hnoA (by rfl)
            refine wp_region_noPanic ?_
            refine wp_region_seq (S := fun w' => w'.cell? ⟨S, 4, none⟩ = some (.map (some bt)) ∧ w'.cell? ⟨G, 0, none⟩ = some (.string N) ∧ w'.cell? ⟨G, 1, none⟩ = some (.int .i64 X) ∧ w'.cell? ⟨G, 2, none⟩ = some (.int .i64 Y) ∧ w'.cell? ⟨G, 3, none⟩ = some (.int .i64 Z) ∧ w'.cell? ⟨G, 4, none⟩ = some (.slice so sn sc) ∧ B w0 w' ∧ w'.heap[G]? = some (.cells #[.string N, .int .i64 X, .int .i64 Y, .int .i64 Z, .slice so sn sc] 116 (0, 0)) ∧ w'.heap[S]? = some (.cells #[VW, VT, VF, .map (some bw), .map (some bt), .map (some bf), .pointer none, .int .i64 0] 132 (0, 0))) [(0, 0), (1, 0), (2, 0), (3, 0), (4, 0), (5, 0), (6, 2), (7, 0), (8, 0), (9, 1), (10, 1), (11, 1), (12, 0)] [0, 1, 2, 4, 0, 16, 40, 64, 192, 256, 768, 1280, 2304] [0, 1, 2, 4, 0, 16, 40, 64, 128, 256, 768, 1280, 2304] (by kernel_rfl) (by kernel_rfl) (fun _ _ _ _ _ h => h) ?_ (fun hH => ?_)
            · exact ⟨s3, p0, p1, p2, p3, p4, qd, oG3, oS3⟩
            refine wpSeq_take (d := 56) (v := ?_) rfl rfl (by kernel_rfl) (fun w hS => ?_) ?_
            rotate_left
            · go_simp <;> with_reducible rfl
            dsimp only [List.set_cons_zero, List.set_cons_succ]
            refine wpSeq_take (d := 57) (v := ?_) rfl rfl (by kernel_rfl) (fun w hS => ?_) ?_
            rotate_left
            · go_simp <;> with_reducible rfl
            dsimp only [List.set_cons_zero, List.set_cons_succ]
            refine wpSeq_take (d := 58) (v := ?_) rfl rfl (by kernel_rfl) (fun w hS => ?_) ?_
            rotate_left
            · go_simp <;> with_reducible rfl
            dsimp only [List.set_cons_zero, List.set_cons_succ]
            refine wpSeq_take (d := 59) (v := ?_) rfl rfl (by kernel_rfl) (fun w hS => ?_) ?_
            rotate_left
            · go_simp <;> with_reducible rfl
            dsimp only [List.set_cons_zero, List.set_cons_succ]
            refine wpSeq_take (d := 60) (v := ?_) rfl rfl (by kernel_rfl) (fun w hS => ?_) ?_
            rotate_left
            · go_simp <;> with_reducible rfl
            dsimp only [List.set_cons_zero, List.set_cons_succ]
            refine wpSeq_take (d := 61) (v := ?_) rfl rfl (by kernel_rfl) (fun w hS => ?_) ?_
            rotate_left
            · go_simp <;> with_reducible rfl
            dsimp only [List.set_cons_zero, List.set_cons_succ]
            refine wpSeq_call rfl (by kernel_rfl) (fun K hK => ?_)
            go_simp
            (with_reducible refine (cA).mono ?_)
            rintro e w' ⟨rfl, hq⟩
            refine hK.out _ _ ?_ (fun hH => ?_)
            · first | exact kT _ hq.2.1 | exact kB _ _ hH hq
            clear hK
            refine wpSeq_take (d := 63) (v := ?_) rfl rfl (by kernel_rfl) (fun w hS => ?_) ?_
            rotate_left
            · go_simp <;> with_reducible rfl
            dsimp only [List.set_cons_zero, List.set_cons_succ]
            refine wpSeq_take (d := 64) (v := ?_) rfl rfl (by kernel_rfl) (fun w hS => ?_) ?_
            rotate_left
            · go_simp <;> with_reducible rfl
            dsimp only [List.set_cons_zero, List.set_cons_succ]
            refine wpSeq_pass (d := 65) rfl rfl (by kernel_rfl) ?_
            dsimp only [List.set_cons_zero, List.set_cons_succ]
            refine wpSeq_pass (d := 66) rfl rfl (by kernel_rfl) ?_
            dsimp only [List.set_cons_zero, List.set_cons_succ]
            refine wpSeq_pass (d := 67) rfl rfl (by kernel_rfl) ?_
            dsimp only [List.set_cons_zero, List.set_cons_succ]
            refine wpSeq_take (d := 68) (v := ?_) rfl rfl (by kernel_rfl) (fun w hS => ?_) ?_
            rotate_left
            · go_simp <;> with_reducible rfl
            dsimp only [List.set_cons_zero, List.set_cons_succ]
            refine wpSeq_done ?_
            refine NoPanic.normal ?_
            have HR := Lib.hid (hno trivial)
            have HB := Lib.hid hH.2.2.2.2.2.2.1
            clear hH cA cG kT kB hno hnoA hyesA haddA
            go_wp2
            go_ret
            exact ⟨by rw [HR.out]; rfl, q0.trans HB.out⟩
          · cases b2
            · have hno := fun (_ : True) => hnoA (by rfl)
              refine wp_region_noPanic ?_
              refine wp_region_seq (S := fun w' => w'.cell? ⟨S, 4, none⟩ = some (.map (some bt)) ∧ w'.cell? ⟨G, 0, none⟩ = some (.string N) ∧ w'.cell? ⟨G, 1, none⟩ = some (.int .i64 X) ∧ w'.cell? ⟨G, 2, none⟩ = some (.int .i64 Y) ∧ w'.cell? ⟨G, 3, none⟩ = some (.int .i64 Z) ∧ w'.cell? ⟨G, 4, none⟩ = some (.slice so sn sc) ∧ B w0 w' ∧ w'.heap[G]? = some (.cells #[.string N, .int .i64 X, .int .i64 Y, .int .i64 Z, .slice so sn sc] 116 (0, 0)) ∧ w'.heap[S]? = some (.cells #[VW, VT, VF, .map (some bw), .map (some bt), .map (some bf), .pointer none, .int .i64 0] 132 (0, 0))) [(0, 0), (1, 0), (2, 0), (3, 0), (4, 0), (5, 0), (6, 2), (7, 0), (8, 0), (9, 0), (10, 2), (11, 0), (12, 0)] [0, 1, 2, 4, 0, 16, 40, 64, 192, 256, 768, 1280, 2304] [0, 1, 2, 4, 0, 16, 40, 64, 128, 256, 768, 1280, 2304] (by kernel_rfl) (by kernel_rfl) (fun _ _ _ _ _ h => h) ?_ (fun hH => ?_)
              · exact ⟨s3, p0, p1, p2, p3, p4, qd, oG3, oS3⟩
              refine wpSeq_take (d := 56) (v := ?_) rfl rfl (by kernel_rfl) (fun w hS => ?_) ?_
              rotate_left
              · go_simp <;> with_reducible rfl
              dsimp only [List.set_cons_zero, List.set_cons_succ]
              refine wpSeq_take (d := 57) (v := ?_) rfl rfl (by kernel_rfl) (fun w hS => ?_) ?_
              rotate_left
              · go_simp <;> with_reducible rfl
              dsimp only [List.set_cons_zero, List.set_cons_succ]
              refine wpSeq_take (d := 58) (v := ?_) rfl rfl (by kernel_rfl) (fun w hS => ?_) ?_
              rotate_left
              · go_simp <;> with_reducible rfl
              dsimp only [List.set_cons_zero, List.set_cons_succ]
              refine wpSeq_take (d := 59) (v := ?_) rfl rfl (by kernel_rfl) (fun w hS => ?_) ?_
              rotate_left
              · go_simp <;> with_reducible rfl
              dsimp only [List.set_cons_zero, List.set_cons_succ]
              refine wpSeq_take (d := 60) (v := ?_) rfl rfl (by kernel_rfl) (fun w hS => ?_) ?_
              rotate_left
              · go_simp <;> with_reducible rfl
              dsimp only [List.set_cons_zero, List.set_cons_succ]
              refine wpSeq_take (d := 61) (v := ?_) rfl rfl (by kernel_rfl) (fun w hS => ?_) ?_
              rotate_left
              · go_simp <;> with_reducible rfl
              dsimp only [List.set_cons_zero, List.set_cons_succ]
              refine wpSeq_call rfl (by kernel_rfl) (fun K hK => ?_)
              go_simp
              (with_reducible refine (cA).mono ?_)
              rintro e w' ⟨rfl, hq⟩
              refine hK.out _ _ ?_ (fun hH => ?_)
              · first | exact kT _ hq.2.1 | exact kB _ _ hH hq
              clear hK
              refine wpSeq_take (d := 63) (v := ?_) rfl rfl (by kernel_rfl) (fun w hS => ?_) ?_
              rotate_left
              · go_simp <;> with_reducible rfl
              dsimp only [List.set_cons_zero, List.set_cons_succ]
              refine wpSeq_take (d := 64) (v := ?_) rfl rfl (by kernel_rfl) (fun w hS => ?_) ?_
              rotate_left
              · go_simp <;> with_reducible rfl
              dsimp only [List.set_cons_zero, List.set_cons_succ]
              refine wpSeq_take (d := 65) (v := ?_) rfl rfl (by kernel_rfl) (fun w hS => ?_) ?_
              rotate_left
              · go_simp <;> with_reducible rfl
              dsimp only [List.set_cons_zero, List.set_cons_succ]
              refine wpSeq_call rfl (by kernel_rfl) (fun K hK => ?_)
              go_simp
              (with_reducible refine (cG _ hH.2.2.2.2.2.2.1).mono ?_)
              rintro e w' ⟨rfl, hq⟩
              refine hK.out _ _ ?_ (fun hH => ?_)
              · first | exact kT _ hq.2.1 | exact kB _ _ hH hq
              clear hK
              refine wpSeq_take (d := 67) (v := ?_) rfl rfl (by kernel_rfl) (fun w hS => ?_) ?_
              rotate_left
              · go_simp <;> with_reducible rfl
              dsimp only [List.set_cons_zero, List.set_cons_succ]
              refine wpSeq_take (d := 68) (v := ?_) rfl rfl (by kernel_rfl) (fun w hS => ?_) ?_
              rotate_left
              · go_simp <;> with_reducible rfl
              dsimp only [List.set_cons_zero, List.set_cons_succ]
              refine wpSeq_done ?_
              refine NoPanic.normal ?_
              have HR := Lib.hid (hno trivial)
              have HB := Lib.hid hH.2.2.2.2.2.2.1
              clear hH cA cG kT kB hno hnoA hyesA haddA
              go_wp2
              go_ret
              exact ⟨by rw [HR.out]; rfl, q0.trans HB.out⟩
            · skip
      
        
              · have hyes := fun (_ : True) => hyesA (by rfl)
                have haddN := fun (_ : True) => haddA rfl
                clear hnoA hyesA haddA
                go_region_with (first
                  | (go_at_call 47; (with_reducible refine (Calls.mono cA ?_); rintro _ w3 ⟨rfl, m3, t3, u3⟩; obtain ⟨k0, k1, k2, k3, k4, k5, k6, k7, k8⟩ := kT _ t3))
                  | (go_at_call 50; (with_reducible refine (Calls.mono (cG _ k6) ?_); rintro _ w5 ⟨rfl, q5⟩)))
                all_goals
                  have HZ := Lib.hid ((hRA.addT m3 t3 u3 x1 x3).b (q5))
                  clear cA cG kT kB
                  go_wp2
                  go_roundw
                  case rel =>
                    refine ⟨i + 1, by have := HL.out; omega, by go_num, (hU.out).next HF.out (hyes trivial), ?_⟩
                    have e := HZ.out
                    rw [haddN trivial] at e
                    rw [List.take_add_one, HF.out]
                    simpa using e
                  case measure => have := HL.out; simp [intOf]; omega
        · have hlB : decide ((i : Int) < (d.ts.length : Int)) = false := decide_eq_false (by omega)
          obtain rfl : i = d.ts.length := by omega
          have hU2 := Lib.hid hU
          clear hU
          have k2 : wr.cell? ⟨H, 2, none⟩ = some (.slice co d.fs.length cc) := obj_cell (oDk hRS.b0) 2
          have hRS2 := hRS
          rw [List.take_length] at hRS2
          clear hRS hlB k1
          go_wp2_with fail
          obtain ⟨wo2, rfl⟩ : ∃ wo2 : World, wo2 = wr := ⟨_, rfl⟩
          go_loopw [73] (fun iv wr => ∃ i : Nat, i ≤ d.fs.length ∧ iv = .int .i64 i ∧ FlTo d.ws d.fs i ∧ RSt w0 wr S bw bt bf (.cells #[VW, VT, VF, .map (some bw), .map (some bt), .map (some bf), .pointer none, .int .i64 0] 132 (0, 0)) (d.ws.map Rec.n) (d.ts.map Rec.n) (d.fs.take i)) (fun iv _ => d.fs.length + 1 - (intOf iv).toNat)
          case atStart => exact ⟨0, Nat.zero_le _, rfl, fun j F _ hj => by omega, hRS2⟩
          case round =>
            clear hRS2
            obtain ⟨i, hi, rfl, hU, hRS⟩ := hrel
            by_cases hl : i < d.fs.length
            · have hlB : decide ((i : Int) < (d.fs.length : Int)) = true := decide_eq_true (by omega)
              have hlI : (i : Int) < (d.fs.length : Int) := by omega
              have hi0 : (0 : Int) ≤ (i : Int) := by omega
              have wk1 : IntKind.i64.wrap ((i : Int) + 1) = (i : Int) + 1 := by rw [IntKind.wrap_i64]; omega
              obtain ⟨g, cap, e1, _, _, hr⟩ := hD0.fs.at_ hl
              obtain ⟨rfl, _, rfl⟩ : co = some g ∧ True ∧ cc = cap := by simpa using e1
              obtain ⟨F, hF⟩ : ∃ F, d.fs[i]? = some F := ⟨_, List.getElem?_eq_getElem hl⟩
              have hFe : d.fs[i] = F := by rw [List.getElem?_eq_getElem hl] at hF; simpa using hF
              rw [hFe] at hr
              obtain ⟨g0, g1, g2, g3⟩ := hr
              replace g0 := hRS.b0.keep g0
              replace g1 := hRS.b0.keep g1
              replace g2 := hRS.b0.keep g2
              replace g3 := hRS.b0.keep g3
              have hsz := hzfs F (List.mem_of_getElem? hF)
              have hAB : (hasW d.ws F.n F.r F.c && inB F.v 0 20000000 && !filledW (d.fs.take i) F.n F.r F.c) = ((hasW d.ws F.n F.r F.c && !filledW (d.fs.take i) F.n F.r F.c) && inB F.v 0 20000000) := bool_perm3 _ _ _
              have hnoA := fun h => rightD_noF (d := d) (fl_no hF h)
              rw [hAB] at hnoA
              have hyesA : ((hasW d.ws F.n F.r F.c && !filledW (d.fs.take i) F.n F.r F.c) && inB F.v 0 20000000) = true → (hasW d.ws F.n F.r F.c && inB F.v 0 20000000 && !filledW (d.fs.take i) F.n F.r F.c) = true := fun h => hAB.trans h
              have hfa : (hasW d.ws F.n F.r F.c && !filledW (d.fs.take i) F.n F.r F.c) = true → fillN d.ws (d.fs.take i) F.n F.r F.c = d.fs.take i ++ [⟨F.n, F.r, F.c, 0⟩] := fun h => by unfold fillN; rw [if_pos h]
              have HF := Lib.hid hF
              have HL := Lib.hid hl
              clear hAB hF hFe e1 hl
              obtain ⟨N, RR, CC, V⟩ := F
              simp only at g0 g1 g2 g3 hsz hnoA hyesA hfa
              have hRA := hRS.b ((B.refl wr).alloc #[.string N, .int .i64 RR, .int .i64 CC, .int .i64 V] 63)
              have oG := obj_new wr (.cells #[.string N, .int .i64 RR, .int .i64 CC, .int .i64 V] 63)
              have cF := fill_any (wr.alloc (.cells #[.string N, .int .i64 RR, .int .i64 CC, .int .i64 V] 63)) w0.heap.size S bw bf VW VT VF (.map (some bt)) (.pointer none) (.int .i64 0) d.ws (d.fs.take i) N RR CC hsz.1 hsz.2.1 hsz.2.2 hRA.obj (hVW.keepB hRA.b0) hRA.mw hRA.mf gf (by rw [List.length_take]; omega)
              have cw := fun w => within_any V 0 20000000 w
              have ew : inB V 0 20000000 = (decide (0 ≤ V) && decide (V ≤ 20000000)) := rfl
              rw [← ew] at cw
              obtain ⟨b1, hb1⟩ : ∃ b, (hasW d.ws N RR CC && !filledW (d.fs.take i) N RR CC) = b := ⟨_, rfl⟩
              rw [hb1] at cF hnoA hyesA hfa
              obtain ⟨b2, hb2⟩ : ∃ b, inB V 0 20000000 = b := ⟨_, rfl⟩
              rw [hb2] at cw hnoA
              have HB2 := Lib.hid hb2
              have hU := Lib.hid hU
              have q0r := q0.trans hRS.b0
              clear hb1 hb2 ew hsz hRS
              go_wp2_with fail
              refine (Calls.mono cF ?_)
              rintro _ w3 ⟨rfl, m3, t3, u3⟩
              have hR3 := hRA.addF m3 t3 u3 x2 x3
              have oG3 := t3.objc oG (by decide)
              generalize wr.heap.size = G at *
              have p3 : w3.cell? ⟨G, 3, none⟩ = some (.int .i64 V) := obj_cell oG3 3
              have q03 := q0.trans hR3.b0
              cases b1
              · have HR := Lib.hid (hnoA (by rfl))
                clear cF cw hRA hR3 m3 t3 u3 hnoA hyesA hfa oG oG3
                go_wp2
                go_ret
                exact ⟨by rw [HR.out]; rfl, q03⟩
              · cases b2
                · have HR := Lib.hid (hnoA (by rfl))
                  clear cF hRA hR3 m3 t3 u3 hnoA hyesA hfa oG oG3
                  go_wp2_with (go_at_call 52; refine (cw _).mono ?_; rintro _ _ ⟨rfl, rfl⟩)
                  go_ret
                  exact ⟨by rw [HR.out]; rfl, q03⟩
                · have HZ := Lib.hid (And.intro hR3 (And.intro (hyesA (by rw [HB2.out]; rfl)) (hfa rfl)))
                  clear cF hRA hR3 m3 t3 u3 hnoA hyesA hfa oG oG3
                  go_wp2_with (go_at_call 52; refine (cw _).mono ?_; rintro _ _ ⟨rfl, rfl⟩)
                  go_roundw
                  case rel =>
                    obtain ⟨hR3, hy, hfa⟩ := HZ.out
                    refine ⟨i + 1, by have := HL.out; omega, by go_num, hU.out.next HF.out hy, ?_⟩
                    rw [hfa] at hR3
                    rw [List.take_add_one, HF.out]
                    exact ⟨hR3.obj, hR3.mw, hR3.mt, by simpa using fm_swap hR3.mf V, hR3.b0⟩
                  case measure => have := HL.out; simp [intOf]; omega
            · have hlB : decide ((i : Int) < (d.fs.length : Int)) = false := decide_eq_false (by omega)
              have hyes : rightD d = true := by
                unfold rightD
                rw [decide_eq_true (show d.ws.length ≤ 8 by omega), decide_eq_true (show d.ts.length ≤ 4 by omega), apart_yes fun j F hj => hU1.out j F hj (List.getElem?_eq_some_iff.1 hj).1, apart_yes fun j F hj => hU2.out j F hj (List.getElem?_eq_some_iff.1 hj).1, fl_yes fun j F hj => hU j F hj (by have := (List.getElem?_eq_some_iff.1 hj).1; omega)]
                rfl
              have HR := Lib.hid hyes
              have HB := Lib.hid (q0.trans hRS.b0)
              clear hyes hU hRS
              go_wp2
              go_ret
              exact ⟨by rw [HR.out]; rfl, HB.out⟩
end Go.Proofs.Ytkhaephmpifcmaa

namespace Go.Proofs.Ytkhaephmpifcmaa
open Go.RowKit Go.Maps Go.WideMaps
set_option linter.unusedVariables false
theorem names_map (ws : List Wr) (n : ByteArray) : namedL (ws.map (·.n)) n = namedW ws n := by
  unfold namedL namedW
  rw [List.any_map]
  rfl
theorem apart_at {ok : Wr → Bool} {ws : List Wr} (h : apartW ok ws = true) {i : Nat} {r : Wr} (hr : ws[i]? = some r) : ok r = true ∧ namedW (ws.take i) r.n = false := by
  cases hx : (ok r && !namedW (ws.take i) r.n) with
  | false => rw [apart_no hr hx] at h; cases h
  | true =>
    simp only [Bool.and_eq_true, Bool.not_eq_true'] at hx
    exact hx
theorem right_parts9 {d : Dk} (h : rightD d = true) : d.ws.length ≤ 8 ∧ d.ts.length ≤ 4 ∧ apartW wareOk d.ws = true ∧ apartW tipOk d.ts = true := by
  unfold rightD at h
  simp only [Bool.and_eq_true, decide_eq_true_eq] at h
  exact ⟨h.1.1.1.1, h.1.1.1.2, h.1.1.2, h.1.2⟩
theorem wareOk_right {r : Wr} (h : wareOk r = true) : rightS r.l = true := by
  unfold wareOk at h
  simp only [Bool.and_eq_true] at h
  exact h.2
theorem tipOk_right {r : Wr} (h : tipOk r = true) : rightS r.l = true := by
  unfold tipOk at h
  simp only [Bool.and_eq_true] at h
  exact h.1.1.1.2
theorem take_snoc {α : Type} {l : List α} {i : Nat} {x : α} (h : l[i]? = some x) : l.take (i + 1) = l.take i ++ [x] := by
  rw [List.take_add_one, h]
  rfl
/-- A board under way: nw wares, nt tips stand in its maps. -/
structure NewS (d : Dk) (lo hi b mw mt : Nat) (w2 w3 wr : World) (X : List Th) (nw nt : Nat) : Prop where
  g : G (fun i => i = mw ∨ i = mt) w3 wr
  len : X.length = nw + nt
  xw : ∀ (j : Nat) r, j < nw → d.ws[j]? = some r → ∃ x, X[j]? = some x ∧ x.i = j ∧ x.l = r.l
  xt : ∀ (j : Nat) r, j < nt → d.ts[j]? = some r → ∃ x, X[nw + j]? = some x ∧ x.i = j ∧ x.l = r.l
  wm : ThMap wr mw ((d.ws.take nw).map (·.n)) ((X.take nw).map (·.b))
  tm : ThMap wr mt ((d.ts.take nt).map (·.n)) ((X.drop nw).map (·.b))
  blt : ∀ x ∈ X, b < x.b ∧ x.b < wr.heap.size
  at_ : ∀ x ∈ X, ThAt lo hi [] wr x
  nil : ∀ x ∈ X, x.p = none
  bap : X.Pairwise (fun x y => x.b ≠ y.b)
section
variable {d : Dk} {lo hi b mw mt : Nat} {w2 w3 wr wn : World} {X : List Th} {nw nt i t m : Nat} {l : List Sec} {o : Option Addr} {c : Nat} {r : Wr}
theorem newS_pair (h : NewS d lo hi b mw mt w2 w3 wr X nw nt) (ht : wr.heap.size ≤ t) (x : Th) (hx : x.b = t) : (X ++ [x]).Pairwise (fun x y => x.b ≠ y.b) := by
  rw [List.pairwise_append]
  refine ⟨h.bap, List.pairwise_singleton _ _, fun a ha y hy => ?_⟩
  obtain rfl := List.mem_singleton.1 hy
  have := h.blt a ha
  omega
theorem NewS.addW (h : NewS d lo hi b mw mt w2 w3 wr X nw 0) (hr : d.ws[nw]? = some r) (ht : wr.heap.size ≤ t) (hb : b < t) (q : G (fun i => i = mw) wr wn) (htn : t < wn.heap.size) (hmw : mw < lo ∨ hi ≤ mw) (hmt : mw ≠ mt) (hmb : mw ≤ b)
    (ho : wn.heap[t]? = some (.cells #[.int .i64 (nw : Int), .slice o m c, .int .u32 0, .int .i32 0, .int .u32 0, .pointer none] 114 (0, 0))) (hs : Held (fun w => IsSecs w (.slice o m c) r.l) lo hi wn) (hR : rightS r.l = true)
    (hm : ThMap wn mw (((d.ws.take nw).map (·.n)) ++ [r.n]) (((X.take nw).map (·.b)) ++ [t])) : NewS d lo hi b mw mt w2 w3 wn (X ++ [⟨nw, r.l, t, none⟩]) (nw + 1) 0 := by
  have hl := h.len
  have e1 : X.take nw = X := List.take_of_length_le (by omega)
  have e2 : X.drop nw = [] := List.drop_eq_nil_of_le (by omega)
  have hx : ∀ z ∈ X ++ [(⟨nw, r.l, t, none⟩ : Th)], z ∈ X ∨ z = ⟨nw, r.l, t, none⟩ := fun z hz => by simpa using hz
  refine ⟨h.g.trans (q.mono (fun i _ hi => .inl hi)), by simp; omega, fun j r' hj hr' => ?_, fun j r' hj => by omega, ?_, ?_, fun z hz => ?_, fun z hz => ?_, fun z hz => ?_, newS_pair h ht _ rfl⟩
  · by_cases e : j = nw
    · subst e
      obtain rfl : r = r' := Option.some.inj (hr.symm.trans hr')
      exact ⟨⟨j, r.l, t, none⟩, by rw [List.getElem?_append_right (by omega), show j - X.length = 0 by omega]; rfl, rfl, rfl⟩
    · obtain ⟨x, h1, h2⟩ := h.xw j r' (by omega) hr'
      exact ⟨x, by rw [List.getElem?_append_left (by omega)]; exact h1, h2⟩
  · have e3 : (X ++ [(⟨nw, r.l, t, none⟩ : Th)]).take (nw + 1) = X ++ [⟨nw, r.l, t, none⟩] := List.take_of_length_le (by simp; omega)
    rw [take_snoc hr, e3, List.map_append, List.map_append]
    rw [e1] at hm
    exact hm
  · have e3 : (X ++ [(⟨nw, r.l, t, none⟩ : Th)]).drop (nw + 1) = [] := List.drop_eq_nil_of_le (by simp; omega)
    rw [e3]
    have := h.tm
    rw [e2] at this
    exact this.g q (fun e => hmt e.symm)
  · rcases hx z hz with hz | rfl
    · have := h.blt z hz; have := q.size; omega
    · exact ⟨hb, htn⟩
  · rcases hx z hz with hz | rfl
    · exact (h.at_ z hz).g q (fun i hi => by subst hi; have := h.blt z hz; omega)
    · exact ⟨⟨o, m, c, ho, hs⟩, hR, fun p hp => by cases hp⟩
  · rcases hx z hz with hz | rfl
    · exact h.nil z hz
    · rfl
theorem NewS.addT (h : NewS d lo hi b mw mt w2 w3 wr X nw nt) (hr : d.ts[nt]? = some r) (ht : wr.heap.size ≤ t) (hb : b < t) (q : G (fun i => i = mt) wr wn) (htn : t < wn.heap.size) (hmw : mt < lo ∨ hi ≤ mt) (hmt : mw ≠ mt) (hmb : mt ≤ b)
    (ho : wn.heap[t]? = some (.cells #[.int .i64 (nt : Int), .slice o m c, .int .u32 0, .int .i32 0, .int .u32 0, .pointer none] 114 (0, 0))) (hs : Held (fun w => IsSecs w (.slice o m c) r.l) lo hi wn) (hR : rightS r.l = true)
    (hm : ThMap wn mt (((d.ts.take nt).map (·.n)) ++ [r.n]) (((X.drop nw).map (·.b)) ++ [t])) : NewS d lo hi b mw mt w2 w3 wn (X ++ [⟨nt, r.l, t, none⟩]) nw (nt + 1) := by
  have hl := h.len
  have hx : ∀ z ∈ X ++ [(⟨nt, r.l, t, none⟩ : Th)], z ∈ X ∨ z = ⟨nt, r.l, t, none⟩ := fun z hz => by simpa using hz
  refine ⟨h.g.trans (q.mono (fun i _ hi => .inr hi)), by simp; omega, fun j r' hj hr' => ?_, fun j r' hj hr' => ?_, ?_, ?_, fun z hz => ?_, fun z hz => ?_, fun z hz => ?_, newS_pair h ht _ rfl⟩
  · obtain ⟨x, h1, h2⟩ := h.xw j r' hj hr'
    exact ⟨x, by rw [List.getElem?_append_left (by omega)]; exact h1, h2⟩
  · by_cases e : j = nt
    · subst e
      obtain rfl : r = r' := Option.some.inj (hr.symm.trans hr')
      exact ⟨⟨j, r.l, t, none⟩, by rw [List.getElem?_append_right (by omega), show nw + j - X.length = 0 by omega]; rfl, rfl, rfl⟩
    · obtain ⟨x, h1, h2⟩ := h.xt j r' (by omega) hr'
      exact ⟨x, by rw [List.getElem?_append_left (by omega)]; exact h1, h2⟩
  · rw [List.take_append_of_le_length (by omega)]
    exact h.wm.g q hmt
  · rw [take_snoc hr, List.drop_append_of_le_length (by omega), List.map_append, List.map_append]
    exact hm
  · rcases hx z hz with hz | rfl
    · have := h.blt z hz; have := q.size; omega
    · exact ⟨hb, htn⟩
  · rcases hx z hz with hz | rfl
    · exact (h.at_ z hz).g q (fun i hi => by subst hi; have := h.blt z hz; omega)
    · exact ⟨⟨o, m, c, ho, hs⟩, hR, fun p hp => by cases hp⟩
  · rcases hx z hz with hz | rfl
    · exact h.nil z hz
    · rfl
end
end Go.Proofs.Ytkhaephmpifcmaa

namespace Go.Proofs.Ytkhaephmpifcmaa
open Go.RowKit
set_option linter.unusedVariables false
theorem wwithin_any (v e : Int) (w : World) : Calls Try.prog 76 #[.int .i64 v, .int .i64 e] w fun x w' => x = .returned (.bool (decide (0 ≤ v) && decide (v < e))) ∧ w = w' := by
  cases k1 : decide ((0 : Int) ≤ v)
  · go_enter Try.func76, Try.ntmps76
    go_wp2
    go_ret
    exact ⟨by simp [*], rfl⟩
  · cases k2 : decide (v < e)
    all_goals
      go_enter Try.func76, Try.ntmps76
      go_wp2
      go_ret
      exact ⟨by simp [*], rfl⟩
end Go.Proofs.Ytkhaephmpifcmaa

namespace Go.Proofs.Ytkhaephmpifcmaa
open Go.RowKit
set_option linter.unusedVariables false
theorem wsize_any (N : ByteArray) (X Y Z : Int) (sv : Value) (so : Option Addr) (sn sc : Nat) (hsv : sv = .slice so sn sc) (hb : 1 ≤ X ∧ X ≤ 8 ∧ 1 ≤ Y ∧ Y ≤ 12) (w : World) : Calls Try.prog 66 #[.agg #[.string N, .int .i64 X, .int .i64 Y, .int .i64 Z, sv]] w fun x w' => x = .returned (.int .i64 (X * Y)) ∧ Q w w' := by
  subst hsv
  obtain ⟨b1, b2, b3, b4⟩ := hb
  have hQ := (Q.refl w).alloc #[.string N, .int .i64 X, .int .i64 Y, .int .i64 Z, .slice so sn sc] 58
  have hxy := mul_small (a := X) (b := Y) (by omega) b2 (by omega) b4
  obtain ⟨P, hP⟩ : ∃ P, X * Y = P := ⟨_, rfl⟩
  rw [hP] at hxy ⊢
  have w1 : IntKind.i64.wrap (X * Y) = P := by rw [hP, IntKind.wrap_i64]; omega
  have k1 : decide (X < 1) = false := decide_eq_false (by omega)
  have k2 : decide ((8 : Int) < X) = false := decide_eq_false (by omega)
  have k3 : decide (Y < 1) = false := decide_eq_false (by omega)
  have k4 : decide ((12 : Int) < Y) = false := decide_eq_false (by omega)
  have HQ := Lib.hid hQ
  clear hP hxy b1 b2 b3 b4 hQ
  go_enter Try.func66, Try.ntmps66
  go_wp2
  go_ret
  exact ⟨rfl, HQ.out⟩
/-- Has a ware that well? -/
def hasB (N : ByteArray) (X Y : Int) (n : ByteArray) (r c : Int) : Bool := (N.toList == n.toList) && (decide (0 ≤ r) && decide (r < X)) && (decide (0 ≤ c) && decide (c < Y))
theorem whas_any (N : ByteArray) (X Y Z : Int) (sv : Value) (so : Option Addr) (sn sc : Nat) (hsv : sv = .slice so sn sc) (n : ByteArray) (r c : Int) (hX : I64 X) (hY : I64 Y) (hr : I64 r) (hc : I64 c) (w : World) : Calls Try.prog 67 #[.agg #[.string N, .int .i64 X, .int .i64 Y, .int .i64 Z, sv], .agg #[.string n, .int .i64 r, .int .i64 c]] w fun x w' => x = .returned (.bool (hasB N X Y n r c)) ∧ Q w w' := by
  subst hsv
  have hQ := ((Q.refl w).alloc #[.string N, .int .i64 X, .int .i64 Y, .int .i64 Z, .slice so sn sc] 58).alloc #[.string n, .int .i64 r, .int .i64 c] 61
  have cr := fun w => wwithin_any r X w
  have cc := fun w => wwithin_any c Y w
  have u1 : IntKind.i64.wrap X = X := by rw [IntKind.wrap_i64]; unfold I64 at hX; omega
  have u2 : IntKind.i64.wrap Y = Y := by rw [IntKind.wrap_i64]; unfold I64 at hY; omega
  have u3 : IntKind.i64.wrap r = r := by rw [IntKind.wrap_i64]; unfold I64 at hr; omega
  have u4 : IntKind.i64.wrap c = c := by rw [IntKind.wrap_i64]; unfold I64 at hc; omega
  have HQ := Lib.hid hQ
  clear hQ hX hY hr hc
  unfold hasB
  generalize (decide (0 ≤ r) && decide (r < X)) = b2 at *
  generalize (decide (0 ≤ c) && decide (c < Y)) = b3 at *
  cases hb : (N.toList == n.toList)
  · go_enter Try.func67, Try.ntmps67
    go_wp2
    go_ret
    exact ⟨rfl, HQ.out⟩
  · cases b2
    · go_enter Try.func67, Try.ntmps67
      go_wp2_with fail
      refine (cr _).mono ?_
      rintro _ _ ⟨rfl, rfl⟩
      go_wp2
      go_ret
      exact ⟨rfl, HQ.out⟩
    · go_enter Try.func67, Try.ntmps67
      go_wp2_with fail
      refine (cr _).mono ?_
      rintro _ _ ⟨rfl, rfl⟩
      go_wp2_with fail
      refine (cc _).mono ?_
      rintro _ _ ⟨rfl, rfl⟩
      go_wp2
      go_ret
      exact ⟨by cases b3 <;> rfl, HQ.out⟩
end Go.Proofs.Ytkhaephmpifcmaa

namespace Go.Proofs.Ytkhaephmpifcmaa
open Go.RowKit
set_option linter.unusedVariables false
/-- The well of a number. -/
def atW : List Wr → Int → Option (ByteArray × Int × Int)
  | [], _ => none
  | w :: ws, k => if k < 0 then none else if k < w.x * w.y then some (w.n, k / w.y, k % w.y) else atW ws (k - w.x * w.y)
def wellV : Option (ByteArray × Int × Int) → Value
  | none => .agg #[.string ⟨#[]⟩, .int .i64 0, .int .i64 0]
  | some (n, r, c) => .agg #[.string n, .int .i64 r, .int .i64 c]
theorem at_cons {ws : List Wr} {i : Nat} (hi : i < ws.length) (k : Int) : atW (ws.drop i) k = if k < 0 then none else if k < (ws[i]).x * (ws[i]).y then some ((ws[i]).n, k / (ws[i]).y, k % (ws[i]).y) else atW (ws.drop (i + 1)) (k - (ws[i]).x * (ws[i]).y) := by
  rw [List.drop_eq_getElem_cons hi]
  rfl
theorem at_neg {k : Int} (hk : k < 0) : ∀ ws : List Wr, atW ws k = none
  | [] => rfl
  | w :: ws => by rw [atW, if_pos hk]
set_option maxRecDepth 100000 in
set_option maxHeartbeats 2000000 in
theorem r8at_any (wv tv fv : Value) (d : Dk) (k : Int) (hk : I64 k) (w : World) (h : IsDk w wv tv fv d) (hb : ∀ x ∈ d.ws, wareB x) : Calls Try.prog 38 #[.agg #[wv, tv, fv], .int .i64 k] w fun e w' => e = .returned (.tuple #[wellV (atW d.ws k), .bool (atW d.ws k).isSome]) ∧ B w w' := by
  obtain ⟨ao, ac, bo, bc, co, cc, rfl, rfl, rfl⟩ := h.forms
  have hQ := ((B.refl w).alloc #[.slice ao d.ws.length ac, .slice bo d.ts.length bc, .slice co d.fs.length cc] 67).alloc #[.string ⟨#[]⟩, .int .i64 0, .int .i64 0] 61
  have hR := h.ws.keepB hQ
  obtain ⟨W, hW⟩ : ∃ W, (w.alloc (.cells #[.slice ao d.ws.length ac, .slice bo d.ts.length bc, .slice co d.fs.length cc] 67)).alloc (.cells #[.string ⟨#[]⟩, .int .i64 0, .int .i64 0] 61) = W := ⟨_, rfl⟩
  have e1 : (w.alloc (.cells #[.slice ao d.ws.length ac, .slice bo d.ts.length bc, .slice co d.fs.length cc] 67)).heap.size = w.heap.size + 1 := by simp
  have oD := ((B.refl _).alloc #[.string ⟨#[]⟩, .int .i64 0, .int .i64 0] 61).obj (obj_new w (.cells #[.slice ao d.ws.length ac, .slice bo d.ts.length bc, .slice co d.fs.length cc] 67))
  have oE := obj_new (w.alloc (.cells #[.slice ao d.ws.length ac, .slice bo d.ts.length bc, .slice co d.fs.length cc] 67)) (.cells #[.string ⟨#[]⟩, .int .i64 0, .int .i64 0] 61)
  rw [e1] at oE
  rw [hW] at hR hQ oD oE
  clear h e1
  obtain ⟨RR, hRR⟩ : ∃ RR, atW d.ws k = RR := ⟨_, rfl⟩
  rw [hRR]
  go_enter Try.func38, Try.ntmps38
  go_wp2_with fail
  try rw [hW]
  clear hW
  obtain ⟨H, hH⟩ : ∃ H, w.heap.size = H := ⟨_, rfl⟩
  obtain ⟨E, hE⟩ : ∃ E, w.heap.size + 1 = E := ⟨_, rfl⟩
  have hEg : w.heap.size ≤ E := by omega
  have hne : ¬ E = H := by omega
  have hne2 : ¬ H = E := by omega
  rw [hE] at oE ⊢
  rw [hH] at oD ⊢
  clear hE hH
  go_loopw [1, 6] (fun kv iv wr => ∃ (i : Nat) (K : Int), i ≤ d.ws.length ∧ iv = .int .i64 i ∧ kv = .int .i64 K ∧ I64 K ∧ RR = atW (d.ws.drop i) K ∧ B W wr) (fun _ iv _ => d.ws.length + 1 - (intOf iv).toNat)
  case atStart => exact ⟨0, k, Nat.zero_le _, rfl, rfl, hk, hRR.symm, B.refl _⟩
  case round =>
    obtain ⟨i, K, hi, rfl, rfl, hK, hRi, hBi⟩ := hrel
    obtain ⟨wo, rfl⟩ : ∃ wo : World, wo = wr := ⟨_, rfl⟩
    clear hRR hk
    have oD1 := hBi.obj oD
    have oE1 := hBi.obj oE
    have k0 : wo.cell? ⟨H, 0, none⟩ = some (.slice ao d.ws.length ac) := obj_cell oD1 0
    have B1 := hQ.trans hBi
    by_cases hgo : i < d.ws.length ∧ 0 ≤ K
    · obtain ⟨hl, hK0⟩ := hgo
      have hlB : decide ((i : Int) < (d.ws.length : Int)) = true := decide_eq_true (by omega)
      have hlI : (i : Int) < (d.ws.length : Int) := by omega
      have hKB : decide ((0 : Int) ≤ K) = true := decide_eq_true hK0
      have hi0 : (0 : Int) ≤ (i : Int) := by omega
      have wk1 : IntKind.i64.wrap ((i : Int) + 1) = (i : Int) + 1 := by rw [IntKind.wrap_i64]; have := hR.len; omega
      obtain ⟨a, cap, e1, _, _, hr⟩ := (hR.keepB hBi).at_ hl
      obtain ⟨rfl, _, rfl⟩ : ao = some a ∧ True ∧ ac = cap := by simpa using e1
      have hbi := hb _ (List.getElem_mem hl)
      rw [at_cons hl, if_neg (by omega)] at hRi
      obtain ⟨F, hF⟩ : ∃ F, d.ws[i] = F := ⟨_, rfl⟩
      rw [hF] at hr hRi hbi
      obtain ⟨b1, b2, b3, b4⟩ := hbi
      obtain ⟨g1, g2, g3, g4, sv, g5, g6⟩ := hr
      obtain ⟨so, sc, rfl⟩ := secs_form g6
      obtain ⟨sn, hsn⟩ : ∃ sn, F.l.length = sn := ⟨_, rfl⟩
      rw [hsn] at g5 g6
      clear hsn
      obtain ⟨N, X, Y, Z, SL⟩ := F
      simp only at g1 g2 g3 g4 g5 hRi b1 b2 b3 b4
      have hxy := mul_small (a := X) (b := Y) (by omega) b2 (by omega) b4
      obtain ⟨P, hP⟩ : ∃ P, X * Y = P := ⟨_, rfl⟩
      rw [hP] at hxy hRi
      have w1 : IntKind.i64.wrap (X * Y) = P := by rw [hP, IntKind.wrap_i64]; omega
      have q1 := (B.refl wo).alloc #[.string N, .int .i64 X, .int .i64 Y, .int .i64 Z, .slice so sn sc] 58
      have oW := obj_new wo (.cells #[.string N, .int .i64 X, .int .i64 Y, .int .i64 Z, .slice so sn sc] 58)
      obtain ⟨W1, hW1⟩ : ∃ W1, wo.alloc (.cells #[.string N, .int .i64 X, .int .i64 Y, .int .i64 Z, .slice so sn sc] 58) = W1 := ⟨_, rfl⟩
      rw [hW1] at oW q1
      have oE2 := q1.obj oE1
      have hElt := obj_lt oE1
      have p0 : W1.cell? ⟨wo.heap.size, 0, none⟩ = some (.string N) := obj_cell oW 0
      have p1 : W1.cell? ⟨wo.heap.size, 1, none⟩ = some (.int .i64 X) := obj_cell oW 1
      have p2 : W1.cell? ⟨wo.heap.size, 2, none⟩ = some (.int .i64 Y) := obj_cell oW 2
      have HL := Lib.hid hl
      clear hF e1 g6 hb hi hl hR oD1 oE1
      by_cases hlt : K < P
      · have hltB : decide (K < P) = true := decide_eq_true hlt
        rw [if_pos hlt] at hRi
        have y0 : ¬ Y = 0 := by omega
        have dv : IntKind.i64.wrap (K.tdiv Y) = K / Y := by
          rw [Int.tdiv_eq_ediv_of_nonneg hK0, IntKind.wrap_i64]
          have := Int.ediv_le_self Y hK0
          have := Int.ediv_nonneg hK0 (by omega : 0 ≤ Y)
          unfold I64 at hK
          omega
        have rv : IntKind.i64.wrap (K.tmod Y) = K % Y := by
          rw [Int.tmod_eq_emod_of_nonneg hK0, IntKind.wrap_i64]
          have := Int.emod_lt_of_pos K (by omega : 0 < Y)
          have := Int.emod_nonneg K (by omega : Y ≠ 0)
          omega
        have dv' : K.tdiv Y = K / Y := Int.tdiv_eq_ediv_of_nonneg hK0
        have rv' : K.tmod Y = K % Y := Int.tmod_eq_emod_of_nonneg hK0
        have r0 : W1.cell? ⟨E, 0, none⟩ = some (.string ⟨#[]⟩) := obj_cell oE2 0
        have r1 : W1.cell? ⟨E, 1, none⟩ = some (.int .i64 0) := obj_cell oE2 1
        have r2 : W1.cell? ⟨E, 2, none⟩ = some (.int .i64 0) := obj_cell oE2 2
        have f0 := obj_free oE2 0
        have f1 := obj_free oE2 1
        have f2 := obj_free oE2 2
        have hEw : ¬ E = wo.heap.size := by omega
        have hwE : ¬ wo.heap.size = E := by omega
        have oF := obj_three oE2 (.string N) (.int .i64 (K / Y)) (.int .i64 (K % Y))
        have hqF := b_three (B1.trans q1) hEg (.string N) (.int .i64 (K / Y)) (.int .i64 (K % Y))
        have HX := Lib.hid (And.intro hRi (And.intro oF hqF))
        clear hRi oF hqF hP hxy hlt oW oE2 q1 B1 hQ hBi oD oE
        rw [dv'] at dv
        rw [rv'] at rv
        generalize K / Y = QQ at *
        generalize K % Y = MM at *
        go_wp2_with fail
        try rw [hW1]
        generalize wo.heap.size = G at *
        have p0' : W1.drew.cell? ⟨G, 0, none⟩ = some (.string N) := p0
        have p2' : W1.drew.cell? ⟨G, 2, none⟩ = some (.int .i64 Y) := p2
        have r0' : W1.drew.cell? ⟨E, 0, none⟩ = some (.string ⟨#[]⟩) := r0
        have r1' : W1.drew.cell? ⟨E, 1, none⟩ = some (.int .i64 0) := r1
        have r2' : W1.drew.cell? ⟨E, 2, none⟩ = some (.int .i64 0) := r2
        have f0' : W1.drew.frozen? ⟨E, 0, none⟩ = false := f0
        have f1' : W1.drew.frozen? ⟨E, 1, none⟩ = false := f1
        have f2' : W1.drew.frozen? ⟨E, 2, none⟩ = false := f2
        go_region
        all_goals
          go_wp2
          obtain ⟨hRi, oF, hqF⟩ := HX.out
          have z0 := obj_cell oF 0
          have z1 := obj_cell oF 1
          have z2 := obj_cell oF 2
          exact bodyPost_ret (v := .tuple #[.agg #[.string N, .int .i64 QQ, .int .i64 MM], .bool true]) (by simp [results, Try.results38, go_sem, z0, z1, z2]) rfl ⟨by rw [hRi]; rfl, hqF.drew⟩
      · have hltB : decide (K < P) = false := decide_eq_false hlt
        rw [if_neg hlt] at hRi
        have w2 : IntKind.i64.wrap (K - P) = K - P := by rw [IntKind.wrap_i64]; unfold I64 at hK; omega
        have hK2 : I64 (K - P) := by unfold I64 at hK ⊢; omega
        have HX := Lib.hid (And.intro hRi (And.intro hK2 (hBi.trans q1)))
        clear hRi hK2 hP hxy hlt oW oE2 q1 B1 hQ hBi oD oE hK
        go_wp2
        go_roundw
        case rel =>
          obtain ⟨h1, h2, h3⟩ := HX.out
          have hl := HL.out
          exact ⟨i + 1, K - P, by omega, by go_num, rfl, h2, h1, h3⟩
        case measure => have := HL.out; simp [intOf]; omega
    · have hnone : RR = none := by
        rw [hRi]
        by_cases hl : i < d.ws.length
        · exact at_neg (by omega) _
        · rw [List.drop_eq_nil_of_le (by omega)]; rfl
      have r0 : wo.cell? ⟨E, 0, none⟩ = some (.string ⟨#[]⟩) := obj_cell oE1 0
      have r1 : wo.cell? ⟨E, 1, none⟩ = some (.int .i64 0) := obj_cell oE1 1
      have r2 : wo.cell? ⟨E, 2, none⟩ = some (.int .i64 0) := obj_cell oE1 2
      have f0 := obj_free oE1 0
      have f1 := obj_free oE1 1
      have f2 := obj_free oE1 2
      have oF := obj_three oE1 (.string ⟨#[]⟩) (.int .i64 0) (.int .i64 0)
      have hqF := b_three B1 hEg (.string ⟨#[]⟩) (.int .i64 0) (.int .i64 0)
      have HX := Lib.hid (And.intro hnone (And.intro oF hqF))
      have hor : (decide ((i : Int) < (d.ws.length : Int)) = false ∧ decide (i < d.ws.length) = false) ∨ (decide ((i : Int) < (d.ws.length : Int)) = true ∧ decide (i < d.ws.length) = true ∧ decide ((0 : Int) ≤ K) = false) := by
        by_cases hl : i < d.ws.length
        · exact .inr ⟨decide_eq_true (by omega), decide_eq_true hl, decide_eq_false (by omega)⟩
        · exact .inl ⟨decide_eq_false (by omega), decide_eq_false hl⟩
      clear hRi hnone oF hqF hgo hR hb hK hi oD oE oD1 oE1 B1 hQ hBi
      rcases hor with ⟨hA, hB⟩ | ⟨hA, hA', hB⟩
      all_goals
        go_wp2
        obtain ⟨hnone, oF, hqF⟩ := HX.out
        have z0 := obj_cell oF 0
        have z1 := obj_cell oF 1
        have z2 := obj_cell oF 2
        exact bodyPost_ret (v := .tuple #[.agg #[.string ⟨#[]⟩, .int .i64 0, .int .i64 0], .bool false]) (by simp [results, Try.results38, go_sem, z0, z1, z2]) rfl ⟨by rw [hnone]; rfl, hqF⟩
end Go.Proofs.Ytkhaephmpifcmaa

namespace Go.Proofs.Ytkhaephmpifcmaa
open Go.RowKit
set_option linter.unusedVariables false
/-- The number of a well, as the code looks for it. -/
def indexC : List Wr → Int → ByteArray → Int → Int → Option Int
  | [], _, _, _, _ => none
  | w :: ws, k, n, r, c => if hasB w.n w.x w.y n r c then some (k + (r * w.y + c)) else indexC ws (k + w.x * w.y) n r c
theorem indexC_cons {ws : List Wr} {i : Nat} (hi : i < ws.length) (K : Int) (n : ByteArray) (r c : Int) : indexC (ws.drop i) K n r c = (if hasB (ws[i]).n (ws[i]).x (ws[i]).y n r c then some (K + (r * (ws[i]).y + c)) else indexC (ws.drop (i + 1)) (K + (ws[i]).x * (ws[i]).y) n r c) := by
  rw [List.drop_eq_getElem_cons hi]
  rfl
theorem hasB_in {N : ByteArray} {X Y : Int} {n : ByteArray} {r c : Int} (h : hasB N X Y n r c = true) : 0 ≤ r ∧ r < X ∧ 0 ≤ c ∧ c < Y := by
  unfold hasB at h
  simp only [Bool.and_eq_true, decide_eq_true_eq] at h
  omega
set_option maxRecDepth 100000 in
set_option maxHeartbeats 2000000 in
theorem windex_any (wv tv fv : Value) (d : Dk) (n : ByteArray) (r c : Int) (hr : I64 r) (hc : I64 c) (w : World) (h : IsDk w wv tv fv d) (hb : ∀ x ∈ d.ws, wareB x) (h100 : d.ws.length ≤ 100) : Calls Try.prog 42 #[.agg #[wv, tv, fv], .agg #[.string n, .int .i64 r, .int .i64 c]] w fun e w' => e = .returned (.tuple #[.int .i64 ((indexC d.ws 0 n r c).getD 0), .bool (indexC d.ws 0 n r c).isSome]) ∧ Q w w' := by
  obtain ⟨ao, ac, bo, bc, co, cc, rfl, rfl, rfl⟩ := h.forms
  have hQ := ((Q.refl w).alloc #[.slice ao d.ws.length ac, .slice bo d.ts.length bc, .slice co d.fs.length cc] 67).alloc #[.string n, .int .i64 r, .int .i64 c] 61
  have hR := h.ws.keepB hQ.b
  have e1 : (w.alloc (.cells #[.slice ao d.ws.length ac, .slice bo d.ts.length bc, .slice co d.fs.length cc] 67)).heap.size = w.heap.size + 1 := by simp
  have oD := ((B.refl _).alloc #[.string n, .int .i64 r, .int .i64 c] 61).obj (obj_new w (.cells #[.slice ao d.ws.length ac, .slice bo d.ts.length bc, .slice co d.fs.length cc] 67))
  have oE := obj_new (w.alloc (.cells #[.slice ao d.ws.length ac, .slice bo d.ts.length bc, .slice co d.fs.length cc] 67)) (.cells #[.string n, .int .i64 r, .int .i64 c] 61)
  rw [e1] at oE
  obtain ⟨W, hW⟩ : ∃ W, (w.alloc (.cells #[.slice ao d.ws.length ac, .slice bo d.ts.length bc, .slice co d.fs.length cc] 67)).alloc (.cells #[.string n, .int .i64 r, .int .i64 c] 61) = W := ⟨_, rfl⟩
  rw [hW] at hR hQ oD oE
  have k0 : W.cell? ⟨w.heap.size, 0, none⟩ = some (.slice ao d.ws.length ac) := obj_cell oD 0
  replace hQ := Lib.hid hQ
  clear h e1
  obtain ⟨R, hRR⟩ : ∃ R, indexC d.ws 0 n r c = R := ⟨_, rfl⟩
  rw [hRR]
  go_enter Try.func42, Try.ntmps42
  go_wp2_with fail
  try rw [hW]
  go_wp2_with fail
  clear hW k0 oD
  obtain ⟨E, hE⟩ : ∃ E, w.heap.size + 1 = E := ⟨_, rfl⟩
  rw [hE] at oE ⊢
  clear hE
  generalize w.heap.size = H at *
  go_loopw [6, 12] (fun nv iv wr => ∃ (i : Nat) (K : Int), i ≤ d.ws.length ∧ iv = .int .i64 i ∧ nv = .int .i64 K ∧ 0 ≤ K ∧ K ≤ 96 * (i : Int) ∧ R = indexC (d.ws.drop i) K n r c ∧ Q W wr) (fun _ iv _ => d.ws.length + 1 - (intOf iv).toNat)
  case atStart => exact ⟨0, 0, Nat.zero_le _, rfl, rfl, by omega, by omega, hRR.symm, Q.refl _⟩
  case round =>
    obtain ⟨i, K, hi, rfl, rfl, hK0, hK1, hRi, hQi⟩ := hrel
    obtain ⟨wo, rfl⟩ : ∃ wo : World, wo = wr := ⟨_, rfl⟩
    clear hRR
    have oE1 := hQi.b.obj oE
    by_cases hl : i < d.ws.length
    · have hlB : decide ((i : Int) < (d.ws.length : Int)) = true := decide_eq_true (by omega)
      have hlI : (i : Int) < (d.ws.length : Int) := by omega
      have hi0 : (0 : Int) ≤ (i : Int) := by omega
      have wk1 : IntKind.i64.wrap ((i : Int) + 1) = (i : Int) + 1 := by rw [IntKind.wrap_i64]; omega
      obtain ⟨a, cap, e1, _, _, hrec⟩ := (hR.keepB hQi.b).at_ hl
      obtain ⟨rfl, _, rfl⟩ : ao = some a ∧ True ∧ ac = cap := by simpa using e1
      have hbi := hb _ (List.getElem_mem hl)
      rw [indexC_cons hl] at hRi
      obtain ⟨F, hF⟩ : ∃ F, d.ws[i] = F := ⟨_, rfl⟩
      rw [hF] at hrec hRi hbi
      obtain ⟨g1, g2, g3, g4, sv, g5, g6⟩ := hrec
      obtain ⟨so, sc, rfl⟩ := secs_form g6
      obtain ⟨sn, hsn⟩ : ∃ sn, F.l.length = sn := ⟨_, rfl⟩
      rw [hsn] at g5 g6
      clear hsn
      obtain ⟨N, X, Y, Z, SL⟩ := F
      have cs := fun w => wsize_any N X Y Z _ so sn sc rfl hbi w
      obtain ⟨b1, b2, b3, b4⟩ := hbi
      simp only at g1 g2 g3 g4 g5 hRi b1 b2 b3 b4
      have ch := fun w => whas_any N X Y Z _ so sn sc rfl n r c (by unfold I64; omega) (by unfold I64; omega) hr hc w
      have q1 := (Q.refl wo).alloc #[.string N, .int .i64 X, .int .i64 Y, .int .i64 Z, .slice so sn sc] 58
      have oE2 := q1.b.obj oE1
      have oW := obj_new wo (.cells #[.string N, .int .i64 X, .int .i64 Y, .int .i64 Z, .slice so sn sc] 58)
      have HL := Lib.hid hl
      have hQ1 := hQi.trans q1
      obtain ⟨W1, hW1⟩ : ∃ W1, wo.alloc (.cells #[.string N, .int .i64 X, .int .i64 Y, .int .i64 Z, .slice so sn sc] 58) = W1 := ⟨_, rfl⟩
      rw [hW1] at hQ1 oW oE2
      have p0 : W1.cell? ⟨wo.heap.size, 0, none⟩ = some (.string N) := obj_cell oW 0
      have p1 : W1.cell? ⟨wo.heap.size, 1, none⟩ = some (.int .i64 X) := obj_cell oW 1
      have p2 : W1.cell? ⟨wo.heap.size, 2, none⟩ = some (.int .i64 Y) := obj_cell oW 2
      have p3 : W1.cell? ⟨wo.heap.size, 3, none⟩ = some (.int .i64 Z) := obj_cell oW 3
      have p4 : W1.cell? ⟨wo.heap.size, 4, none⟩ = some (.slice so sn sc) := obj_cell oW 4
      have r0 : W1.cell? ⟨E, 0, none⟩ = some (.string n) := obj_cell oE2 0
      have r1 : W1.cell? ⟨E, 1, none⟩ = some (.int .i64 r) := obj_cell oE2 1
      have r2 : W1.cell? ⟨E, 2, none⟩ = some (.int .i64 c) := obj_cell oE2 2
      have hEw : ¬ E = wo.heap.size := by have := obj_lt oE1; omega
      have hwE : ¬ wo.heap.size = E := by omega
      clear hF e1 g6 q1 hb hl hR oE1 oE hQi
      cases hB : hasB N X Y n r c
      · rw [hB] at ch hRi
        rw [if_neg (by decide)] at hRi
        have hxy := mul_small (a := X) (b := Y) (by omega) b2 (by omega) b4
        generalize X * Y = P at *
        have w2 : IntKind.i64.wrap (K + P) = K + P := by rw [IntKind.wrap_i64]; omega
        have HX := Lib.hid (And.intro hRi (And.intro (show 0 ≤ K + P ∧ K + P ≤ 96 * ((i : Int) + 1) by omega) hQ1))
        clear hRi hxy hB hQ1 b1 b2 b3 b4
        go_wp2_with fail
        try rw [hW1]
        go_wp2_with fail
        refine (ch _).mono ?_
        rintro _ w2 ⟨rfl, q2⟩
        replace p0 := q2.keep p0
        replace p1 := q2.keep p1
        replace p2 := q2.keep p2
        replace p3 := q2.keep p3
        replace p4 := q2.keep p4
        go_wp2_with fail
        refine (cs _).mono ?_
        rintro _ w3 ⟨rfl, q3⟩
        go_wp2
        go_roundw
        case rel =>
          obtain ⟨h1, ⟨h2, h3⟩, h5⟩ := HX.out
          have hl := HL.out
          exact ⟨i + 1, K + P, by omega, by go_num, rfl, h2, by omega, h1, (h5.trans q2).trans q3⟩
        case measure => have := HL.out; simp [intOf]; omega
      · rw [hB] at ch hRi
        rw [if_pos rfl] at hRi
        obtain ⟨i1, i2, i3, i4⟩ := hasB_in hB
        have hxy := mul_small (a := r) (b := Y) i1 (by omega) (by omega) b4
        obtain ⟨P, hP⟩ : ∃ P, r * Y = P := ⟨_, rfl⟩
        rw [hP] at hxy hRi
        have w1 : IntKind.i64.wrap (r * Y) = P := by rw [hP, IntKind.wrap_i64]; omega
        obtain ⟨K1, hK1'⟩ : ∃ K1, K + P = K1 := ⟨_, rfl⟩
        obtain ⟨K2, hK2⟩ : ∃ K2, K1 + c = K2 := ⟨_, rfl⟩
        have w2 : IntKind.i64.wrap (K + P) = K1 := by rw [hK1', IntKind.wrap_i64]; omega
        have w3 : IntKind.i64.wrap (K1 + c) = K2 := by rw [hK2, IntKind.wrap_i64]; omega
        have e2 : K + (P + c) = K2 := by omega
        rw [e2] at hRi
        subst hRi
        have HX := Lib.hid hQ1
        clear hP hxy hK1' hK2 e2 hK0 hK1 b1 b2 b3 b4 i1 i2 i3 i4 hB hQ1
        go_wp2_with fail
        try rw [hW1]
        go_wp2_with fail
        refine (ch _).mono ?_
        rintro _ w2 ⟨rfl, q2⟩
        replace p2 := q2.keep p2
        replace r1 := q2.keep r1
        replace r2 := q2.keep r2
        go_wp2
        go_ret2
        exact ⟨rfl, (hQ.out.trans HX.out).trans q2⟩
    · have hlB : decide ((i : Int) < (d.ws.length : Int)) = false := decide_eq_false (by omega)
      have hlN : decide (i < d.ws.length) = false := decide_eq_false hl
      rw [List.drop_eq_nil_of_le (by omega)] at hRi
      have hRn : R = none := hRi
      subst hRn
      have HQ := Lib.hid (hQ.out.trans hQi)
      clear hRi hR hQi hi hK0 hK1 hl
      go_wp2
      go_ret2
      exact ⟨rfl, HQ.out⟩
end Go.Proofs.Ytkhaephmpifcmaa

namespace Go.Proofs.Ytkhaephmpifcmaa
open Go.RowKit
set_option linter.unusedVariables false
/-- How many wells there are. -/
def countW : List Wr → Int
  | [] => 0
  | w :: ws => w.x * w.y + countW ws
theorem count_take {ws : List Wr} {i : Nat} {F : Wr} (h : ws[i]? = some F) : countW (ws.take (i + 1)) = countW (ws.take i) + F.x * F.y := by
  have e : ∀ (l : List Wr) (r : Wr), countW (l ++ [r]) = countW l + r.x * r.y := fun l r => by
    induction l with
    | nil => simp [countW]
    | cons x l ih => show x.x * x.y + countW (l ++ [r]) = x.x * x.y + countW l + _; rw [ih]; omega
  rw [List.take_add_one, h]
  exact e _ _
set_option maxRecDepth 100000 in
set_option maxHeartbeats 2000000 in
theorem r8count_any (wv tv fv : Value) (d : Dk) (w : World) (h : IsDk w wv tv fv d) (hb : ∀ x ∈ d.ws, wareB x) (h100 : d.ws.length ≤ 100) : Calls Try.prog 31 #[.agg #[wv, tv, fv]] w fun e w' => e = .returned (.int .i64 (countW d.ws)) ∧ B w w' := by
  obtain ⟨ao, ac, bo, bc, co, cc, rfl, rfl, rfl⟩ := h.forms
  have hQ := (B.refl w).alloc #[.slice ao d.ws.length ac, .slice bo d.ts.length bc, .slice co d.fs.length cc] 67
  have hR := h.ws.keepB hQ
  have oD := obj_new w (.cells #[.slice ao d.ws.length ac, .slice bo d.ts.length bc, .slice co d.fs.length cc] 67)
  obtain ⟨W, hW⟩ : ∃ W, w.alloc (.cells #[.slice ao d.ws.length ac, .slice bo d.ts.length bc, .slice co d.fs.length cc] 67) = W := ⟨_, rfl⟩
  rw [hW] at hR hQ oD
  clear h
  go_enter Try.func31, Try.ntmps31
  go_wp2_with fail
  try rw [hW]
  clear hW
  generalize w.heap.size = H at *
  go_loopw [3, 4] (fun nv iv wr => ∃ (i : Nat) (K : Int), i ≤ d.ws.length ∧ iv = .int .i64 i ∧ nv = .int .i64 K ∧ 0 ≤ K ∧ K ≤ 96 * (i : Int) ∧ K = countW (d.ws.take i) ∧ Dr W wr) (fun _ iv _ => d.ws.length + 1 - (intOf iv).toNat)
  case atStart => exact ⟨0, 0, Nat.zero_le _, rfl, rfl, by omega, by omega, rfl, Dr.refl _⟩
  case round =>
    obtain ⟨i, K, hi, rfl, rfl, hK0, hK1, hKe, n, rfl⟩ := hrel
    have k0 : (W.drewN n).cell? ⟨H, 0, none⟩ = some (.slice ao d.ws.length ac) := obj_cell (w := W.drewN n) oD 0
    by_cases hl : i < d.ws.length
    · have hlB : decide ((i : Int) < (d.ws.length : Int)) = true := decide_eq_true (by omega)
      have hlI : (i : Int) < (d.ws.length : Int) := by omega
      have hi0 : (0 : Int) ≤ (i : Int) := by omega
      have wk1 : IntKind.i64.wrap ((i : Int) + 1) = (i : Int) + 1 := by rw [IntKind.wrap_i64]; omega
      obtain ⟨a, cap, e1, _, _, hr⟩ := hR.at_ hl
      obtain ⟨rfl, _, rfl⟩ : ao = some a ∧ True ∧ ac = cap := by simpa using e1
      have hbi := hb _ (List.getElem_mem hl)
      have hT := count_take (ws := d.ws) (i := i) (List.getElem?_eq_getElem hl)
      obtain ⟨F, hF⟩ : ∃ F, d.ws[i] = F := ⟨_, rfl⟩
      rw [hF] at hr hbi hT
      obtain ⟨b1, b2, b3, b4⟩ := hbi
      obtain ⟨g1, g2, g3, _⟩ := hr
      obtain ⟨N, X, Y, Z, SL⟩ := F
      simp only at g2 g3 b1 b2 b3 b4 hT
      have g2' : ∀ m, (W.drewN m).cell? _ = _ := fun m => g2
      have g3' : ∀ m, (W.drewN m).cell? _ = _ := fun m => g3
      have hxy := mul_small (a := X) (b := Y) (by omega) b2 (by omega) b4
      rw [← hKe] at hT
      obtain ⟨P, hP⟩ : ∃ P, X * Y = P := ⟨_, rfl⟩
      rw [hP] at hxy hT
      have w1 : IntKind.i64.wrap (X * Y) = P := by rw [hP, IntKind.wrap_i64]; omega
      have w2 : IntKind.i64.wrap (K + P) = K + P := by rw [IntKind.wrap_i64]; omega
      have k0' : ∀ m, (W.drewN m).cell? ⟨H, 0, none⟩ = some (.slice (some a) d.ws.length ac) := fun m => k0
      have HX := Lib.hid (And.intro hT (And.intro (show 0 ≤ K + P ∧ K + P ≤ 96 * ((i : Int) + 1) by omega) hl))
      clear hT hKe hb hF e1 hP hxy hl hi
      go_wp2_with fail
      go_quiet (fail)
      go_wp2
      go_roundw
      case rel =>
        obtain ⟨h1, ⟨h2, h3⟩, h4⟩ := HX.out
        exact ⟨i + 1, K + P, by omega, by go_num, rfl, h2, by omega, h1.symm, _, rfl⟩
      case measure => have := HX.out; simp [intOf]; omega
    · have hlB : decide ((i : Int) < (d.ws.length : Int)) = false := decide_eq_false (by omega)
      have hlN : decide (i < d.ws.length) = false := decide_eq_false hl
      rw [List.take_of_length_le (by omega)] at hKe
      have HX := Lib.hid (And.intro hKe (hQ.drewN n))
      clear hKe hl
      go_wp2
      go_ret
      exact ⟨by rw [← HX.out.1]; rfl, HX.out.2⟩
end Go.Proofs.Ytkhaephmpifcmaa

namespace Go.Proofs.Ytkhaephmpifcmaa
open Go.RowKit
theorem shape_pick (w : World) (m : Nat) (h : m < 6) : ∃ V, [Value.slice (some ⟨w.heap.size, 0, none⟩) 1 1, Value.slice (some ⟨w.heap.size + 1, 0, none⟩) 2 2, Value.slice (some ⟨w.heap.size + 1 + 1, 0, none⟩) 1 1, Value.slice (some ⟨w.heap.size + 1 + 1 + 1, 0, none⟩) 2 2, Value.slice (some ⟨w.heap.size + 1 + 1 + 1 + 1, 0, none⟩) 1 1, Value.slice (some ⟨w.heap.size + 1 + 1 + 1 + 1 + 1, 0, none⟩) 3 3][m]? = some V := by
  match m, h with
  | 0, _ => exact ⟨_, rfl⟩
  | 1, _ => exact ⟨_, rfl⟩
  | 2, _ => exact ⟨_, rfl⟩
  | 3, _ => exact ⟨_, rfl⟩
  | 4, _ => exact ⟨_, rfl⟩
  | 5, _ => exact ⟨_, rfl⟩
set_option maxHeartbeats 4000000 in
theorem shape_any (k : Int) (h1 : 0 ≤ k) (h2 : k ≤ 255) (w : World) :
    Calls Try.prog 20 #[.int .u8 k] w (Shaped (shapeOf (k % 6).toNat) w) := by
  obtain ⟨V, hp⟩ := shape_pick w (k % 6).toNat (by omega)
  have HP := Lib.hid hp
  have hm : (k % 6).toNat < 6 := by omega
  have HM := Lib.hid hm
  clear hm
  go_enter Try.func20, Try.ntmps20
  go_wp2
  go_ret
  refine ⟨V, rfl, ?_, ?_⟩
  · clear hp h1 h2
    have hp := HP.out
    have hm := HM.out
    clear HP HM
    generalize (k % 6).toNat = m at *
    match m, hm with
    | 0, _ =>
      obtain rfl : Value.slice (some ⟨w.heap.size, 0, none⟩) 1 1 = V := Option.some.inj hp
      exact (isSecs_new (l := shapeOf 0) rfl (by simp) (fitsB_I (by decide)) (by decide) (by decide)).keep (((((((Q.refl _).alloc _ _).alloc _ _).alloc _ _).alloc _ _).alloc _ _).alloc _ _)
    | 1, _ =>
      obtain rfl : Value.slice (some ⟨w.heap.size + 1, 0, none⟩) 2 2 = V := Option.some.inj hp
      exact (isSecs_new (l := shapeOf 1) rfl (by simp) (fitsB_I (by decide)) (by decide) (by decide)).keep ((((((Q.refl _).alloc _ _).alloc _ _).alloc _ _).alloc _ _).alloc _ _)
    | 2, _ =>
      obtain rfl : Value.slice (some ⟨w.heap.size + 1 + 1, 0, none⟩) 1 1 = V := Option.some.inj hp
      exact (isSecs_new (l := shapeOf 2) rfl (by simp) (fitsB_I (by decide)) (by decide) (by decide)).keep (((((Q.refl _).alloc _ _).alloc _ _).alloc _ _).alloc _ _)
    | 3, _ =>
      obtain rfl : Value.slice (some ⟨w.heap.size + 1 + 1 + 1, 0, none⟩) 2 2 = V := Option.some.inj hp
      exact (isSecs_new (l := shapeOf 3) rfl (by simp) (fitsB_I (by decide)) (by decide) (by decide)).keep ((((Q.refl _).alloc _ _).alloc _ _).alloc _ _)
    | 4, _ =>
      obtain rfl : Value.slice (some ⟨w.heap.size + 1 + 1 + 1 + 1, 0, none⟩) 1 1 = V := Option.some.inj hp
      exact (isSecs_new (l := shapeOf 4) rfl (by simp) (fitsB_I (by decide)) (by decide) (by decide)).keep (((Q.refl _).alloc _ _).alloc _ _)
    | 5, _ =>
      obtain rfl : Value.slice (some ⟨w.heap.size + 1 + 1 + 1 + 1 + 1, 0, none⟩) 3 3 = V := Option.some.inj hp
      exact (isSecs_new (l := shapeOf 5) rfl (by simp) (fitsB_I (by decide)) (by decide) (by decide)).keep ((Q.refl _).alloc _ _)
  · exact ((((((((Q.refl _).alloc _ _).alloc _ _).alloc _ _).alloc _ _).alloc _ _).alloc _ _).alloc _ _)
end Go.Proofs.Ytkhaephmpifcmaa

namespace Go.Proofs.Ytkhaephmpifcmaa
open Go.RowKit
/-- The outer shape of a number. -/
def outerOf : Nat → List Sec
  | 0 => [⟨true, 5000, 500, 0, 800, 0⟩, ⟨true, 30000, 800, 0, 1500, 0⟩]
  | 1 => [⟨true, 20000, 700, 0, 2500, 0⟩]
  | _ => [⟨true, 900, 300, 0, 600, 0⟩]
theorem outer_right : ∀ m : Nat, rightS (outerOf m) = true
  | 0 => by decide
  | 1 => by decide
  | n + 2 => by rw [show outerOf (n + 2) = outerOf 2 from rfl]; decide
theorem outer_len : ∀ m : Nat, 1 ≤ (outerOf m).length
  | 0 => by decide
  | 1 => by decide
  | n + 2 => by rw [show outerOf (n + 2) = outerOf 2 from rfl]; decide
theorem outer_pick (w : World) (m : Nat) (h : m < 3) : ∃ V, [Value.slice (some ⟨w.heap.size, 0, none⟩) 2 2, Value.slice (some ⟨w.heap.size + 1, 0, none⟩) 1 1, Value.slice (some ⟨w.heap.size + 1 + 1, 0, none⟩) 1 1][m]? = some V := by
  match m, h with
  | 0, _ => exact ⟨_, rfl⟩
  | 1, _ => exact ⟨_, rfl⟩
  | 2, _ => exact ⟨_, rfl⟩
theorem outer_blocks (w : World) (m : Nat) (V : Value) (hm : m < 3) (h : [Value.slice (some ⟨w.heap.size, 0, none⟩) 2 2, Value.slice (some ⟨w.heap.size + 1, 0, none⟩) 1 1, Value.slice (some ⟨w.heap.size + 1 + 1, 0, none⟩) 1 1][m]? = some V) : ∀ g, V.ownBlock = some g → w.heap.size ≤ g := by
  intro g hg
  match m, hm with
  | 0, _ => obtain rfl := Option.some.inj h; have e := Option.some.inj hg; simp at e; omega
  | 1, _ => obtain rfl := Option.some.inj h; have e := Option.some.inj hg; simp at e; omega
  | 2, _ => obtain rfl := Option.some.inj h; have e := Option.some.inj hg; simp at e; omega
set_option maxHeartbeats 4000000 in
theorem outer_new (k : Int) (h1 : 0 ≤ k) (h2 : k ≤ 255) (w : World) :
    Calls Try.prog 37 #[.int .u8 k] w fun e w' => ∃ v, e = .returned v ∧ IsSecs w' v (outerOf (k % 3).toNat) ∧ Q w w' ∧ ∀ g, v.ownBlock = some g → w.heap.size ≤ g := by
  obtain ⟨V, hp⟩ := outer_pick w (k % 3).toNat (by omega)
  have HP := Lib.hid hp
  have hm : (k % 3).toNat < 3 := by omega
  have HM := Lib.hid hm
  clear hm
  go_enter Try.func37, Try.ntmps37
  go_wp2
  go_ret
  refine ⟨V, rfl, ?_, ?_, outer_blocks w _ V HM.out HP.out⟩
  · clear hp h1 h2
    have hp := HP.out
    have hm := HM.out
    clear HP HM
    generalize (k % 3).toNat = m at *
    match m, hm with
    | 0, _ =>
      obtain rfl : Value.slice (some ⟨w.heap.size, 0, none⟩) 2 2 = V := Option.some.inj hp
      exact (isSecs_new (l := outerOf 0) rfl (by simp) (fitsB_I (by decide)) (by decide) (by decide)).keep ((((Q.refl _).alloc _ _).alloc _ _).alloc _ _)
    | 1, _ =>
      obtain rfl : Value.slice (some ⟨w.heap.size + 1, 0, none⟩) 1 1 = V := Option.some.inj hp
      exact (isSecs_new (l := outerOf 1) rfl (by simp) (fitsB_I (by decide)) (by decide) (by decide)).keep (((Q.refl _).alloc _ _).alloc _ _)
    | 2, _ =>
      obtain rfl : Value.slice (some ⟨w.heap.size + 1 + 1, 0, none⟩) 1 1 = V := Option.some.inj hp
      exact (isSecs_new (l := outerOf 2) rfl (by simp) (fitsB_I (by decide)) (by decide) (by decide)).keep ((Q.refl _).alloc _ _)
  · exact ((((((Q.refl _).alloc _ _).alloc _ _).alloc _ _).alloc _ _))
end Go.Proofs.Ytkhaephmpifcmaa

namespace Go.Proofs.Ytkhaephmpifcmaa
open Go.RowKit
def nameT1 : ByteArray := ⟨#[116, 49]⟩
def nameT2 : ByteArray := ⟨#[116, 50]⟩
def namePlate : ByteArray := ⟨#[112, 108, 97, 116, 101]⟩
def nameTube : ByteArray := ⟨#[116, 117, 98, 101]⟩
/-- What stands on it. -/
def wares7 (a b c d : Int) : List Rec := [⟨namePlate, a / 6 % 3 + 1, b / 6 % 4 + 2, c % 4 * 500, shapeOf (a % 6).toNat⟩, ⟨nameTube, 1, c / 4 % 3 + 2, d % 3 * 300, shapeOf (b % 6).toNat⟩]
def cap7 (c : Int) : Int := if c % 3 = 0 then 200000 else if c % 3 = 1 then 30000 else 5000
def filt7 (d : Int) : Int := if d % 2 = 0 then 60000 else 15000
def err7 (d : Int) : Int := if d / 2 % 3 = 0 then 0 else if d / 2 % 3 = 1 then 20 else 100
def tips7 (c d : Int) : List Rec := ⟨nameT1, cap7 c, filt7 d, err7 d, outerOf (c % 3).toNat⟩ :: if d % 5 = 0 then [] else [⟨nameT2, 50000, 40000, d % 30, outerOf (d % 3).toNat⟩]
theorem tipInfo : (Try.prog.info? 116).map (fun i => (i.zero, i.size, i.bytes)) = some (some (.agg #[.string ⟨#[]⟩, .int .i64 0, .int .i64 0, .int .i64 0, .slice none 0 0]), 5, 64) := by kernel_rfl
end Go.Proofs.Ytkhaephmpifcmaa
