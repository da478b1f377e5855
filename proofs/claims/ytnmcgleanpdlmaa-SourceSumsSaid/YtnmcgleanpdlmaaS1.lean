/-
  A law and what it rests on.
-/
import Derived.Deep.QuietTactic
import Derived.BigQuiet
import Derived.Deep.AppendLies
import Derived.Test.YtnmcgleanpdlmaaY21
namespace Go.Proofs.Ytnmcgleanpdlmaa
open Go.RowKit

theorem results_tmp4 {fn : Func} {t u v x : Tmp} (h : fn.results = #[.tmp t, .tmp u, .tmp v, .tmp x]) (tmps : Array Value) (P : Program) (w : World) :
    (results fn tmps).run P w = .ok (.tuple #[tmps.getD t undef, tmps.getD u undef, tmps.getD v undef, tmps.getD x undef]) w := by
  simp [results, h]
end Go.Proofs.Ytnmcgleanpdlmaa
namespace Go.Proofs.Ytnmcgleanpdlmaa
open Go.RowKit
set_option linter.unusedVariables false

theorem beq_ba (a b : ByteArray) : (a == b) = (a.toList == b.toList) := beq_toListBytes a b
set_option maxHeartbeats 2000000 in
theorem r11tip_any (d : Dk) (b : Nat) (wv tv fv : Value) (w : World) (hR : RBt d b wv tv fv w) (hD : IsDk w wv tv fv d) (n : ByteArray) :
    Calls Try.prog 23 #[.pointer (some ⟨b, 0, none⟩), .string n] w fun e w' => ∃ k : Int, e = .returned (.int .i64 k) ∧ ((namedL (d.ts.map (·.n)) n = false ∧ k = -1) ∨ ∃ (i : Nat) (rc : Wr), d.ts[i]? = some rc ∧ rc.n = n ∧ k = (i : Int)) ∧ B w w' := by
  obtain ⟨gw, cw, gt, ct, ho, _, _⟩ := hR
  obtain ⟨ao, ac, bo, bc, co, cc, rfl, rfl, rfl⟩ := hD.forms
  have hlen := hD.ts.len
  have y0 := obj_cell ho 1
  clear ho
  go_enter Try.func23, Try.ntmps23
  go_wp2
  go_loopw [5] (fun iv wr => ∃ i : Nat, i ≤ d.ts.length ∧ iv = .int .i64 i ∧ (∀ j r, j < i → d.ts[j]? = some r → (r.n.toList == n.toList) = false) ∧ B w wr) (fun iv _ => d.ts.length + 1 - (intOf iv).toNat)
  case atStart => exact ⟨0, Nat.zero_le _, rfl, fun j r h => by omega, B.refl _⟩
  case round =>
    obtain ⟨i, hi, rfl, hno, q⟩ := hrel
    obtain ⟨wl, rfl⟩ : ∃ wl : World, wl = wr := ⟨_, rfl⟩
    replace y0 := q.keep y0
    by_cases hl : i < d.ts.length
    · have hlB : decide ((i : Int) < (d.ts.length : Int)) = true := decide_eq_true (by omega)
      have hlN : decide (i < d.ts.length) = true := decide_eq_true hl
      have hlI : (i : Int) < (d.ts.length : Int) := by omega
      have hi0 : (0 : Int) ≤ (i : Int) := by omega
      have wk1 : IntKind.i64.wrap ((i : Int) + 1) = (i : Int) + 1 := by rw [IntKind.wrap_i64]; omega
      have hr : d.ts[i]? = some d.ts[i] := List.getElem?_eq_getElem hl
      obtain ⟨a, cap, e1, _, _, hrec⟩ := (hD.ts.keepB q).at_ hl
      simp only [Value.slice.injEq, true_and] at e1
      obtain ⟨rfl, rfl⟩ := e1
      have g0 := hrec.n
      generalize d.ts[i] = r at *
      cases hb : (r.n.toList == n.toList) with
      | true =>
        have hb' : (r.n == n) = true := by rw [beq_ba]; exact hb
        have HZ := Lib.hid (And.intro hr (And.intro (ba_eq (by simpa using hb)) q))
        clear hno hrec hr q hD hlen
        go_wp2_with fail
        go_ret
        exact ⟨(i : Int), rfl, .inr ⟨i, r, HZ.out.1, HZ.out.2.1, rfl⟩, HZ.out.2.2⟩
      | false =>
        have hb' : (r.n == n) = false := by rw [beq_ba]; exact hb
        have hno' : ∀ j r', j < i + 1 → d.ts[j]? = some r' → (r'.n.toList == n.toList) = false := fun j r' hj hr' => by
          by_cases h : j = i
          · subst h
            obtain rfl := Option.some.inj (hr.symm.trans hr')
            exact hb
          · exact hno j r' (by omega) hr'
        have HZ := Lib.hid (And.intro hno' (And.intro q hl))
        clear hno hno' hrec hr q hD hlen hl
        go_wp2
        go_roundw
        case rel => exact ⟨i + 1, by have := HZ.out.2.2; omega, by go_num, HZ.out.1, HZ.out.2.1⟩
        case measure => have := HZ.out.2.2; simp [intOf]; omega
    · have hlB : decide ((i : Int) < (d.ts.length : Int)) = false := decide_eq_false (by omega)
      have hlN : decide (i < d.ts.length) = false := decide_eq_false hl
      have hnone : namedL (d.ts.map (·.n)) n = false := by
        rw [names_map]
        unfold namedW
        rw [List.any_eq_false]
        intro r hr
        obtain ⟨j, hj⟩ := List.getElem?_of_mem hr
        rw [hno j r (by have := (List.getElem?_eq_some_iff.1 hj).1; omega) hj]
        simp
      have HZ := Lib.hid (And.intro hnone q)
      clear hnone q hno hD hlen
      go_wp2
      go_ret
      exact ⟨-1, rfl, .inl ⟨HZ.out.1, rfl⟩, HZ.out.2⟩
end Go.Proofs.Ytnmcgleanpdlmaa
namespace Go.Proofs.Ytnmcgleanpdlmaa
open Go.RowKit
set_option linter.unusedVariables false

def flatPr (l : List (Wp × Wp)) : List Value := l.flatMap (fun x => [.string x.1.n, .int .i64 x.1.r, .int .i64 x.1.c, .string x.2.n, .int .i64 x.2.r, .int .i64 x.2.c])
theorem flatPr_snoc (l : List (Wp × Wp)) (x : Wp × Wp) : flatPr (l ++ [x]) = flatPr l ++ [.string x.1.n, .int .i64 x.1.r, .int .i64 x.1.c, .string x.2.n, .int .i64 x.2.r, .int .i64 x.2.c] := by
  unfold flatPr
  rw [List.flatMap_append]
  rfl
theorem flatPr_get {l : List (Wp × Wp)} {i : Nat} {x : Wp × Wp} (h : l[i]? = some x) (j : Nat) (hj : j < 6) : (flatPr l)[i * 6 + j]? = ([.string x.1.n, .int .i64 x.1.r, .int .i64 x.1.c, .string x.2.n, .int .i64 x.2.r, .int .i64 x.2.c] : List Value)[j]? := flatK_get _ 6 (fun _ => rfl) l i j x h hj
theorem flatPr_len (l : List (Wp × Wp)) : (flatPr l).length = l.length * 6 := flatK_len _ 6 (fun _ => rfl) l
def PrI (l : List (Wp × Wp)) : Prop := ∀ x ∈ l, (I64 x.1.r ∧ I64 x.1.c) ∧ (I64 x.2.r ∧ I64 x.2.c)
theorem prInfo : (Try.prog.info? 86).map (fun i => (i.zero, i.size, i.bytes)) = some (some (.agg #[.string ⟨#[]⟩, .int .i64 0, .int .i64 0, .string ⟨#[]⟩, .int .i64 0, .int .i64 0]), 6, 64) := by kernel_rfl
set_option maxRecDepth 100000 in
set_option maxHeartbeats 4000000 in
theorem r11pairs_any (K : Int) (nm : ByteArray) (wsv : Value) (L : List Wp) (v : Int) (M : Nat) (hM : M ≤ 20) (hn1 : 1 ≤ L.length) (hn2 : L.length ≤ 96) (hLI : ∀ p ∈ L, I64 p.r ∧ I64 p.c) (w : World) (h : IsWps w wsv L) :
    Calls Try.prog 24 #[.agg #[.int .i64 K, .string nm, wsv, .int .i64 v, .int .i64 (M : Int)]] w fun e w' => ∃ pl lo lc, e = .returned (.slice lo pl.length lc) ∧ w'.ownsRow w.heap.size 86 6 (.slice lo pl.length lc) pl.length (flatPr pl) ∧ PrI pl ∧ pl.length ≤ 95 ∧ B w w' := by
  obtain ⟨i0, hi0, hz0, hz1, hz2⟩ := info_of prInfo
  obtain ⟨ao, cap, rfl⟩ := h.form
  obtain ⟨n, hn⟩ : ∃ n, L.length = n := ⟨_, rfl⟩
  rw [hn] at h hn1 hn2 ⊢
  obtain ⟨a, rfl⟩ : ∃ a, ao = some a := by
    rcases h with ⟨h, _⟩ | ⟨a, _, h, _⟩
    · simp only [Value.slice.injEq] at h; omega
    · simp only [Value.slice.injEq] at h; exact ⟨a, h.1⟩
  have wells : ∀ i, i < n → ∀ w', B w w' → WpAt w' (a.add (i * 3)) (L.getD i ⟨⟨#[]⟩, 0, 0⟩) ∧ (I64 (L.getD i ⟨⟨#[]⟩, 0, 0⟩).r ∧ I64 (L.getD i ⟨⟨#[]⟩, 0, 0⟩).c) := fun i hi w' q => by
    have hi' : i < L.length := by omega
    have hq : IsWps w' (.slice (some a) L.length cap) L := by rw [hn]; exact h.keepB q
    obtain ⟨a2, cap2, e2, _, _, hp⟩ := hq.at_ hi'
    simp only [Value.slice.injEq, Option.some.injEq] at e2
    obtain ⟨rfl, -, -⟩ := e2
    have eg : L.getD i ⟨⟨#[]⟩, 0, 0⟩ = L[i] := by rw [List.getD_eq_getElem?_getD, List.getElem?_eq_getElem hi']; rfl
    rw [eg]
    exact ⟨hp, hLI _ (List.getElem_mem hi')⟩
  have ea : a.add (0 * 3) = a := by cases a; simp [Addr.add]
  have q0 : B w (w.alloc (.cells #[.int .i64 K, .string nm, .slice (some a) n cap, .int .i64 v, .int .i64 (M : Int)] 82)) := (B.refl w).alloc _ _
  have oS := obj_new w (.cells #[.int .i64 K, .string nm, .slice (some a) n cap, .int .i64 v, .int .i64 (M : Int)] 82)
  have k0 := obj_cell oS 0
  have k2 := obj_cell oS 2
  have k4 := obj_cell oS 4
  obtain ⟨S, hS⟩ : ∃ S, w.heap.size = S := ⟨_, rfl⟩
  have hSI := Lib.hid hS
  have hp1 : 0 < n := by omega
  have hp2 : (0 : Int) < (n : Int) := by omega
  have HW0 := Lib.hid (And.intro q0 oS)
  clear h hLI oS q0
  by_cases h5 : K = 5
  · have e5 : ((K : Int) == 5) = true := by simp [h5]
    replace h5 := Lib.hid h5
    go_enter Try.func24, Try.ntmps24
    go_wp2_with fail
    generalize w.alloc (.cells #[.int .i64 K, .string nm, .slice (some a) n cap, .int .i64 v, .int .i64 (M : Int)] 82) = w0 at *
    have HO : Hid (B w w0 ∧ True ∧ ∀ w', B w0 w' → w'.heap[S]? = some (.cells #[.int .i64 K, .string nm, .slice (some a) n cap, .int .i64 v, .int .i64 (M : Int)] 82 (0, 0))) := Lib.hid ⟨HW0.out.1, trivial, fun w' q => q.obj (by rw [← hSI.out]; exact HW0.out.2)⟩
    go_loopw [3, 4] (fun ov iv wr => ∃ (i j : Nat) (pl : List (Wp × Wp)) (lo : Option Addr) (lc : Nat), i ≤ M ∧ i = j + 0 ∧ iv = .int .i64 i ∧ pl.length = j ∧ ov = .slice lo j lc ∧ PrI pl ∧ wr.ownsRow w0.heap.size 86 6 (.slice lo j lc) j (flatPr pl) ∧ B w0 wr) (fun _ iv _ => M + 1 - (intOf iv).toNat)
    case atStart => exact ⟨0, 0, [], none, 0, by omega, rfl, rfl, rfl, rfl, fun x hx => (by cases hx), World.ownsRow_nil _ _ _ _, B.refl _⟩
    case round =>
      obtain ⟨i, j, pl, lo, lc, hi, hij, rfl, hpl, rfl, hPI, hown, q⟩ := hrel
      obtain ⟨wo, rfl⟩ : ∃ wo : World, wo = wr := ⟨_, rfl⟩
      have s0 := obj_cell (HO.out.2.2 wo q) 2
      have s9 := obj_cell (HO.out.2.2 wo q) 4
      by_cases hl : i < M
      · have hlB : decide ((i : Int) < (M : Int)) = true := decide_eq_true (by omega)
        have hlN : decide (i < M) = true := decide_eq_true hl
        have hlI : (i : Int) < (M : Int) := by omega
        have hi0' : (0 : Int) ≤ (i : Int) := by omega
        have wk1 : IntKind.i64.wrap ((i : Int) + 1) = (i : Int) + 1 := by rw [IntKind.wrap_i64]; omega
        have hj96 : j ≤ 95 := by omega
        obtain ⟨hA, iA⟩ := wells 0 (by omega) wo (HO.out.1.trans q)
        obtain ⟨xa, hxa⟩ : ∃ x, L.getD 0 ⟨⟨#[]⟩, 0, 0⟩ = x := ⟨_, rfl⟩
        rw [hxa] at hA iA
        rw [ea] at hA
        obtain ⟨an, ar, ac⟩ := xa
        obtain ⟨s1, s2, s3⟩ := hA
        simp only at s1 s2 s3 iA
        have HN := Lib.hid (show PrI (pl ++ [(⟨an, ar, ac⟩, ⟨an, ar, ac⟩)]) from fun x hx => by
          rcases List.mem_append.1 hx with hx | hx
          · exact hPI x hx
          · obtain rfl := List.mem_singleton.1 hx
            exact ⟨iA, iA⟩)
        have HX := Lib.hid (And.intro (And.intro hl (And.intro hij hpl)) (And.intro hown q))
        clear hl hi hij hpl hPI hown q
        go_wp2_with fail
        refine wp_region_noPanic ?_
        refine wp_region_gate (S := fun w' => w'.cell? ⟨S, 2, none⟩ = some (.slice (some a) n cap) ∧ w'.cell? a = some (.string an) ∧ w'.cell? ⟨a.block, a.off + 1, none⟩ = some (.int .i64 ar) ∧ w'.cell? ⟨a.block, a.off + 2, none⟩ = some (.int .i64 ac) ∧ B wo w') 11 [(0, 3), (1, 3), (2, 0), (3, 3), (4, 0), (5, 3), (6, 0), (7, 3), (8, 0), (9, 3), (10, 2), (11, 4), (12, 3)] [0, 0, 2, 4, 8, 0, 32, 64, 128, 272, 512, 1025, 4095] [0, 0, 2, 4, 8, 0, 32, 64, 128, 272, 512, 1025, 2049] [0, 0, 7708, 0, 7696, 0, 8128, 0, 7936, 0, 0, 0, 0] (by kernel_rfl) (by kernel_rfl) (fun _ _ _ _ _ h => h) ?_ (fun hH => ?_)
        · exact ⟨(B.refl wo).drew.keep s0, (B.refl wo).drew.keep s1, (B.refl wo).drew.keep s2, (B.refl wo).drew.keep s3, (B.refl wo).drew⟩
        refine wpSeqG_free (d := 38) (v := ?_) rfl rfl (by kernel_rfl) (fun w => ?_) ?_
        rotate_left
        · go_simp <;> with_reducible rfl
        dsimp only [List.set_cons_zero, List.set_cons_succ]
        refine wpSeqG_free (d := 39) (v := ?_) rfl rfl (by kernel_rfl) (fun w => ?_) ?_
        rotate_left
        · go_simp <;> with_reducible rfl
        dsimp only [List.set_cons_zero, List.set_cons_succ]
        refine wpSeqG_take (d := 40) (v := ?_) rfl rfl (by kernel_rfl) (fun w hS => ?_) ?_
        rotate_left
        · go_simp <;> with_reducible rfl
        dsimp only [List.set_cons_zero, List.set_cons_succ]
        refine wpSeqG_free (d := 41) (v := ?_) rfl rfl (by kernel_rfl) (fun w => ?_) ?_
        rotate_left
        · go_simp <;> with_reducible rfl
        dsimp only [List.set_cons_zero, List.set_cons_succ]
        refine wpSeqG_take (d := 42) (v := ?_) rfl rfl (by kernel_rfl) (fun w hS => ?_) ?_
        rotate_left
        · go_simp <;> with_reducible rfl
        dsimp only [List.set_cons_zero, List.set_cons_succ]
        refine wpSeqG_free (d := 43) (v := ?_) rfl rfl (by kernel_rfl) (fun w => ?_) ?_
        rotate_left
        · go_simp <;> with_reducible rfl
        dsimp only [List.set_cons_zero, List.set_cons_succ]
        refine wpSeqG_take (d := 44) (v := ?_) rfl rfl (by kernel_rfl) (fun w hS => ?_) ?_
        rotate_left
        · go_simp <;> with_reducible rfl
        dsimp only [List.set_cons_zero, List.set_cons_succ]
        refine wpSeqG_free (d := 45) (v := ?_) rfl rfl (by kernel_rfl) (fun w => ?_) ?_
        rotate_left
        · go_simp <;> with_reducible rfl
        dsimp only [List.set_cons_zero, List.set_cons_succ]
        refine wpSeqG_take (d := 46) (v := ?_) rfl rfl (by kernel_rfl) (fun w hS => ?_) ?_
        rotate_left
        · go_simp <;> with_reducible rfl
        dsimp only [List.set_cons_zero, List.set_cons_succ]
        refine wpSeqG_free (d := 47) (v := ?_) rfl rfl (by kernel_rfl) (fun w => ?_) ?_
        rotate_left
        · go_simp <;> with_reducible rfl
        dsimp only [List.set_cons_zero, List.set_cons_succ]
        refine wpSeqG_call rfl (by kernel_rfl) (fun K hK => ?_)
        go_simp
        refine hK.out _ _ ?_ (fun hH => ?_)
        · exact ⟨((B.refl _).alloc _ _).keep hH.1, ((B.refl _).alloc _ _).keep hH.2.1, ((B.refl _).alloc _ _).keep hH.2.2.1, ((B.refl _).alloc _ _).keep hH.2.2.2.1, (hH.2.2.2.2).alloc _ _⟩
        clear hK
        refine wpSeqG_gate rfl (by kernel_rfl) (fun K hK => ?_)
        have qa9 : B wo (wo.alloc (.cells #[.string an, .int .i64 ar, .int .i64 ac, .string an, .int .i64 ar, .int .i64 ac] 86)).drew := ((B.refl wo).alloc _ _).drew
        have own9 := row_keep HX.out.2.1 qa9
        refine wp_append_lies _ _ _ 84 rfl w0.heap.size 86 i0 _ 6 64 Try.underlying84 hi0 hz0 hz1 hz2 rfl (by omega) (.slice lo j lc) j (flatPr pl) rfl own9 ⟨wo.heap.size, 0, none⟩ 1 1 [.string an, .int .i64 ar, .int .i64 ac, .string an, .int .i64 ar, .int .i64 ac] rfl rfl (fun j u hj => (B.refl _).drew.keep (newest rfl j u hj)) (fun u hu => by simp only [List.mem_cons, List.not_mem_nil, or_false] at hu; rcases hu with rfl | rfl | rfl | rfl | rfl | rfl <;> rfl) (by omega) (by unfold maxLen; omega) (by omega) ((HX.out.2.2.trans qa9).below.size) _ rfl ?_
        intro g1 c1 W4 hown4 hgrow4 hat4 hlt4
        have hB4 := (HX.out.2.2.trans qa9).grownBy hgrow4 (fun x hx => (own9.lt x hx).1)
        clear hgrow4 hat4 hlt4
        replace hown4 := Lib.hid (And.intro hown4 hB4)
        clear hB4 qa9 own9
        try simp only [Act.put, List.setIfInBounds_toArray, List.set_cons_zero, List.set_cons_succ]
        refine hK.out _ _ ?_
        clear hK
        refine wpSeqG_free (d := 3) (v := ?_) rfl rfl (by kernel_rfl) (fun w => ?_) ?_
        rotate_left
        · go_simp <;> with_reducible rfl
        dsimp only [List.set_cons_zero, List.set_cons_succ]
        refine wpSeqG_done ?_
        refine NoPanic.normal ?_
        go_wp2
        go_roundw
        case rel => exact ⟨i + 1, j + 1, pl ++ [(⟨an, ar, ac⟩, ⟨an, ar, ac⟩)], some ⟨g1, 0, none⟩, c1, by have := HX.out.1.1; omega, by have := HX.out.1.2.1; omega, by go_num, by rw [List.length_append, HX.out.1.2.2]; rfl, rfl, HN.out, by rw [flatPr_snoc]; exact hown4.out.1, hown4.out.2⟩
        case measure => have := HX.out.1.1; simp [intOf]; omega
      · have hlB : decide ((i : Int) < (M : Int)) = false := decide_eq_false (by omega)
        have hlN : decide (i < M) = false := decide_eq_false hl
        have HX := Lib.hid (And.intro (And.intro hPI (show j ≤ 95 by omega)) (And.intro hpl (And.intro hown q)))
        clear hl hi hij hPI hown q hpl
        go_wp2
        go_ret
        exact ⟨pl, lo, lc, by rw [HX.out.2.1]; rfl, by rw [HX.out.2.1]; exact own_low HX.out.2.2.1 HO.out.1.below.size, HX.out.1.1, by rw [HX.out.2.1]; exact HX.out.1.2, HO.out.1.trans HX.out.2.2.2⟩
  · have e5 : ((K : Int) == 5) = false := by simp [h5]
    by_cases h4 : K = 4
    · have e4 : ((K : Int) == 4) = true := by simp [h4]
      clear h5
      replace h4 := Lib.hid h4
      go_enter Try.func24, Try.ntmps24
      go_wp2_with fail
      generalize w.alloc (.cells #[.int .i64 K, .string nm, .slice (some a) n cap, .int .i64 v, .int .i64 (M : Int)] 82) = w0 at *
      have HO : Hid (B w w0 ∧ True ∧ ∀ w', B w0 w' → w'.heap[S]? = some (.cells #[.int .i64 K, .string nm, .slice (some a) n cap, .int .i64 v, .int .i64 (M : Int)] 82 (0, 0))) := Lib.hid ⟨HW0.out.1, trivial, fun w' q => q.obj (by rw [← hSI.out]; exact HW0.out.2)⟩
      go_loopw [3, 5] (fun ov iv wr => ∃ (i j : Nat) (pl : List (Wp × Wp)) (lo : Option Addr) (lc : Nat), i ≤ n ∧ i = j + 1 ∧ iv = .int .i64 i ∧ pl.length = j ∧ ov = .slice lo j lc ∧ PrI pl ∧ wr.ownsRow w0.heap.size 86 6 (.slice lo j lc) j (flatPr pl) ∧ B w0 wr) (fun _ iv _ => n + 1 - (intOf iv).toNat)
      case atStart => exact ⟨1, 0, [], none, 0, by omega, rfl, rfl, rfl, rfl, fun x hx => (by cases hx), World.ownsRow_nil _ _ _ _, B.refl _⟩
      case round =>
        obtain ⟨i, j, pl, lo, lc, hi, hij, rfl, hpl, rfl, hPI, hown, q⟩ := hrel
        obtain ⟨wo, rfl⟩ : ∃ wo : World, wo = wr := ⟨_, rfl⟩
        have s0 := obj_cell (HO.out.2.2 wo q) 2
        have s9 := obj_cell (HO.out.2.2 wo q) 4
        by_cases hl : i < n
        · have hlB : decide ((i : Int) < (n : Int)) = true := decide_eq_true (by omega)
          have hlN : decide (i < n) = true := decide_eq_true hl
          have hlI : (i : Int) < (n : Int) := by omega
          have hi0' : (0 : Int) ≤ (i : Int) := by omega
          have wk1 : IntKind.i64.wrap ((i : Int) + 1) = (i : Int) + 1 := by rw [IntKind.wrap_i64]; omega
          have hj96 : j ≤ 95 := by omega
          obtain ⟨hA, iA⟩ := wells i (by omega) wo (HO.out.1.trans q)
          obtain ⟨hB, iB⟩ := wells 0 (by omega) wo (HO.out.1.trans q)
          obtain ⟨xa, hxa⟩ : ∃ x, L.getD i ⟨⟨#[]⟩, 0, 0⟩ = x := ⟨_, rfl⟩
          rw [hxa] at hA iA
          obtain ⟨an, ar, ac⟩ := xa
          obtain ⟨s1, s2, s3⟩ := hA
          simp only at s1 s2 s3 iA
          obtain ⟨xb, hxb⟩ : ∃ x, L.getD 0 ⟨⟨#[]⟩, 0, 0⟩ = x := ⟨_, rfl⟩
          rw [hxb] at hB iB
          rw [ea] at hB
          obtain ⟨bn, br, bc⟩ := xb
          obtain ⟨s4, s5, s6⟩ := hB
          simp only at s4 s5 s6 iB
          have HN := Lib.hid (show PrI (pl ++ [(⟨an, ar, ac⟩, ⟨bn, br, bc⟩)]) from fun x hx => by
            rcases List.mem_append.1 hx with hx | hx
            · exact hPI x hx
            · obtain rfl := List.mem_singleton.1 hx
              exact ⟨iA, iB⟩)
          have HX := Lib.hid (And.intro (And.intro hl (And.intro hij hpl)) (And.intro hown q))
          clear hl hi hij hpl hPI hown q
          go_wp2_with fail
          refine wp_region_noPanic ?_
          refine wp_region_gate (S := fun w' => w'.cell? ⟨S, 2, none⟩ = some (.slice (some a) n cap) ∧ w'.cell? (a.add (i * 3)) = some (.string an) ∧ w'.cell? ⟨(a.add (i * 3)).block, (a.add (i * 3)).off + 1, none⟩ = some (.int .i64 ar) ∧ w'.cell? ⟨(a.add (i * 3)).block, (a.add (i * 3)).off + 2, none⟩ = some (.int .i64 ac) ∧ w'.cell? a = some (.string bn) ∧ w'.cell? ⟨a.block, a.off + 1, none⟩ = some (.int .i64 br) ∧ w'.cell? ⟨a.block, a.off + 2, none⟩ = some (.int .i64 bc) ∧ B wo w') 12 [(0, 3), (1, 3), (2, 0), (3, 3), (4, 3), (5, 0), (6, 3), (7, 0), (8, 3), (9, 0), (10, 3), (11, 2), (12, 4), (13, 3)] [0, 0, 2, 0, 12, 16, 0, 64, 128, 256, 544, 1024, 2049, 8191] [0, 0, 2, 0, 12, 16, 0, 64, 128, 256, 544, 1024, 2049, 4097] [0, 0, 15412, 0, 0, 15392, 0, 16256, 0, 15872, 0, 0, 0, 0] (by kernel_rfl) (by kernel_rfl) (fun _ _ _ _ _ h => h) ?_ (fun hH => ?_)
          · exact ⟨(B.refl wo).drew.keep s0, (B.refl wo).drew.keep s1, (B.refl wo).drew.keep s2, (B.refl wo).drew.keep s3, (B.refl wo).drew.keep s4, (B.refl wo).drew.keep s5, (B.refl wo).drew.keep s6, (B.refl wo).drew⟩
          refine wpSeqG_free (d := 59) (v := ?_) rfl rfl (by kernel_rfl) (fun w => ?_) ?_
          rotate_left
          · go_simp <;> with_reducible rfl
          dsimp only [List.set_cons_zero, List.set_cons_succ]
          refine wpSeqG_free (d := 60) (v := ?_) rfl rfl (by kernel_rfl) (fun w => ?_) ?_
          rotate_left
          · go_simp <;> with_reducible rfl
          dsimp only [List.set_cons_zero, List.set_cons_succ]
          refine wpSeqG_take (d := 61) (v := ?_) rfl rfl (by kernel_rfl) (fun w hS => ?_) ?_
          rotate_left
          · go_simp <;> with_reducible rfl
          dsimp only [List.set_cons_zero, List.set_cons_succ]
          refine wpSeqG_free (d := 62) (v := ?_) rfl rfl (by kernel_rfl) (fun w => ?_) ?_
          rotate_left
          · go_simp <;> with_reducible rfl
          dsimp only [List.set_cons_zero, List.set_cons_succ]
          refine wpSeqG_free (d := 63) (v := ?_) rfl rfl (by kernel_rfl) (fun w => ?_) ?_
          rotate_left
          · go_simp <;> with_reducible rfl
          dsimp only [List.set_cons_zero, List.set_cons_succ]
          refine wpSeqG_take (d := 64) (v := ?_) rfl rfl (by kernel_rfl) (fun w hS => ?_) ?_
          rotate_left
          · go_simp <;> with_reducible rfl
          dsimp only [List.set_cons_zero, List.set_cons_succ]
          refine wpSeqG_free (d := 65) (v := ?_) rfl rfl (by kernel_rfl) (fun w => ?_) ?_
          rotate_left
          · go_simp <;> with_reducible rfl
          dsimp only [List.set_cons_zero, List.set_cons_succ]
          refine wpSeqG_take (d := 66) (v := ?_) rfl rfl (by kernel_rfl) (fun w hS => ?_) ?_
          rotate_left
          · go_simp <;> with_reducible rfl
          dsimp only [List.set_cons_zero, List.set_cons_succ]
          refine wpSeqG_free (d := 67) (v := ?_) rfl rfl (by kernel_rfl) (fun w => ?_) ?_
          rotate_left
          · go_simp <;> with_reducible rfl
          dsimp only [List.set_cons_zero, List.set_cons_succ]
          refine wpSeqG_take (d := 68) (v := ?_) rfl rfl (by kernel_rfl) (fun w hS => ?_) ?_
          rotate_left
          · go_simp <;> with_reducible rfl
          dsimp only [List.set_cons_zero, List.set_cons_succ]
          refine wpSeqG_free (d := 69) (v := ?_) rfl rfl (by kernel_rfl) (fun w => ?_) ?_
          rotate_left
          · go_simp <;> with_reducible rfl
          dsimp only [List.set_cons_zero, List.set_cons_succ]
          refine wpSeqG_call rfl (by kernel_rfl) (fun K hK => ?_)
          go_simp
          refine hK.out _ _ ?_ (fun hH => ?_)
          · exact ⟨((B.refl _).alloc _ _).keep hH.1, ((B.refl _).alloc _ _).keep hH.2.1, ((B.refl _).alloc _ _).keep hH.2.2.1, ((B.refl _).alloc _ _).keep hH.2.2.2.1, ((B.refl _).alloc _ _).keep hH.2.2.2.2.1, ((B.refl _).alloc _ _).keep hH.2.2.2.2.2.1, ((B.refl _).alloc _ _).keep hH.2.2.2.2.2.2.1, (hH.2.2.2.2.2.2.2).alloc _ _⟩
          clear hK
          refine wpSeqG_gate rfl (by kernel_rfl) (fun K hK => ?_)
          have qa9 : B wo (wo.alloc (.cells #[.string an, .int .i64 ar, .int .i64 ac, .string bn, .int .i64 br, .int .i64 bc] 86)).drew := ((B.refl wo).alloc _ _).drew
          have own9 := row_keep HX.out.2.1 qa9
          refine wp_append_lies _ _ _ 84 rfl w0.heap.size 86 i0 _ 6 64 Try.underlying84 hi0 hz0 hz1 hz2 rfl (by omega) (.slice lo j lc) j (flatPr pl) rfl own9 ⟨wo.heap.size, 0, none⟩ 1 1 [.string an, .int .i64 ar, .int .i64 ac, .string bn, .int .i64 br, .int .i64 bc] rfl rfl (fun j u hj => (B.refl _).drew.keep (newest rfl j u hj)) (fun u hu => by simp only [List.mem_cons, List.not_mem_nil, or_false] at hu; rcases hu with rfl | rfl | rfl | rfl | rfl | rfl <;> rfl) (by omega) (by unfold maxLen; omega) (by omega) ((HX.out.2.2.trans qa9).below.size) _ rfl ?_
          intro g1 c1 W4 hown4 hgrow4 hat4 hlt4
          have hB4 := (HX.out.2.2.trans qa9).grownBy hgrow4 (fun x hx => (own9.lt x hx).1)
          clear hgrow4 hat4 hlt4
          replace hown4 := Lib.hid (And.intro hown4 hB4)
          clear hB4 qa9 own9
          try simp only [Act.put, List.setIfInBounds_toArray, List.set_cons_zero, List.set_cons_succ]
          refine hK.out _ _ ?_
          clear hK
          refine wpSeqG_free (d := 3) (v := ?_) rfl rfl (by kernel_rfl) (fun w => ?_) ?_
          rotate_left
          · go_simp <;> with_reducible rfl
          dsimp only [List.set_cons_zero, List.set_cons_succ]
          refine wpSeqG_done ?_
          refine NoPanic.normal ?_
          go_wp2
          go_roundw
          case rel => exact ⟨i + 1, j + 1, pl ++ [(⟨an, ar, ac⟩, ⟨bn, br, bc⟩)], some ⟨g1, 0, none⟩, c1, by have := HX.out.1.1; omega, by have := HX.out.1.2.1; omega, by go_num, by rw [List.length_append, HX.out.1.2.2]; rfl, rfl, HN.out, by rw [flatPr_snoc]; exact hown4.out.1, hown4.out.2⟩
          case measure => have := HX.out.1.1; simp [intOf]; omega
        · have hlB : decide ((i : Int) < (n : Int)) = false := decide_eq_false (by omega)
          have hlN : decide (i < n) = false := decide_eq_false hl
          have HX := Lib.hid (And.intro (And.intro hPI (show j ≤ 95 by omega)) (And.intro hpl (And.intro hown q)))
          clear hl hi hij hPI hown q hpl
          go_wp2
          go_ret
          exact ⟨pl, lo, lc, by rw [HX.out.2.1]; rfl, by rw [HX.out.2.1]; exact own_low HX.out.2.2.1 HO.out.1.below.size, HX.out.1.1, by rw [HX.out.2.1]; exact HX.out.1.2, HO.out.1.trans HX.out.2.2.2⟩
    · have e4 : ((K : Int) == 4) = false := by simp [h4]
      by_cases h6 : K = 6
      · have e6 : ((K : Int) == 6) = true := by simp [h6]
        clear h5 h4
        replace h6 := Lib.hid h6
        go_enter Try.func24, Try.ntmps24
        go_wp2_with fail
        generalize w.alloc (.cells #[.int .i64 K, .string nm, .slice (some a) n cap, .int .i64 v, .int .i64 (M : Int)] 82) = w0 at *
        have HO : Hid (B w w0 ∧ True ∧ ∀ w', B w0 w' → w'.heap[S]? = some (.cells #[.int .i64 K, .string nm, .slice (some a) n cap, .int .i64 v, .int .i64 (M : Int)] 82 (0, 0))) := Lib.hid ⟨HW0.out.1, trivial, fun w' q => q.obj (by rw [← hSI.out]; exact HW0.out.2)⟩
        go_loopw [3, 6] (fun ov iv wr => ∃ (i j : Nat) (pl : List (Wp × Wp)) (lo : Option Addr) (lc : Nat), i ≤ n ∧ i = j + 1 ∧ iv = .int .i64 i ∧ pl.length = j ∧ ov = .slice lo j lc ∧ PrI pl ∧ wr.ownsRow w0.heap.size 86 6 (.slice lo j lc) j (flatPr pl) ∧ B w0 wr) (fun _ iv _ => n + 1 - (intOf iv).toNat)
        case atStart => exact ⟨1, 0, [], none, 0, by omega, rfl, rfl, rfl, rfl, fun x hx => (by cases hx), World.ownsRow_nil _ _ _ _, B.refl _⟩
        case round =>
          obtain ⟨i, j, pl, lo, lc, hi, hij, rfl, hpl, rfl, hPI, hown, q⟩ := hrel
          obtain ⟨wo, rfl⟩ : ∃ wo : World, wo = wr := ⟨_, rfl⟩
          have s0 := obj_cell (HO.out.2.2 wo q) 2
          have s9 := obj_cell (HO.out.2.2 wo q) 4
          by_cases hl : i < n
          · have hlB : decide ((i : Int) < (n : Int)) = true := decide_eq_true (by omega)
            have hlN : decide (i < n) = true := decide_eq_true hl
            have hlI : (i : Int) < (n : Int) := by omega
            have hi0' : (0 : Int) ≤ (i : Int) := by omega
            have wk1 : IntKind.i64.wrap ((i : Int) + 1) = (i : Int) + 1 := by rw [IntKind.wrap_i64]; omega
            have hj96 : j ≤ 95 := by omega
            obtain ⟨p, hp⟩ : ∃ p : Nat, i = p + 1 := ⟨i - 1, by omega⟩
            have wp1 : IntKind.i64.wrap ((i : Int) - 1) = (p : Int) := by rw [IntKind.wrap_i64]; omega
            have wp2 : IntKind.i64.wrap (p : Int) = (p : Int) := by rw [IntKind.wrap_i64]; omega
            have hpI : (p : Int) < (n : Int) := by omega
            have hp0 : (0 : Int) ≤ (p : Int) := by omega
            replace hp := Lib.hid hp
            obtain ⟨hA, iA⟩ := wells p (by omega) wo (HO.out.1.trans q)
            obtain ⟨hB, iB⟩ := wells i (by omega) wo (HO.out.1.trans q)
            obtain ⟨xa, hxa⟩ : ∃ x, L.getD p ⟨⟨#[]⟩, 0, 0⟩ = x := ⟨_, rfl⟩
            rw [hxa] at hA iA
            obtain ⟨an, ar, ac⟩ := xa
            obtain ⟨s1, s2, s3⟩ := hA
            simp only at s1 s2 s3 iA
            obtain ⟨xb, hxb⟩ : ∃ x, L.getD i ⟨⟨#[]⟩, 0, 0⟩ = x := ⟨_, rfl⟩
            rw [hxb] at hB iB
            obtain ⟨bn, br, bc⟩ := xb
            obtain ⟨s4, s5, s6⟩ := hB
            simp only at s4 s5 s6 iB
            have HN := Lib.hid (show PrI (pl ++ [(⟨an, ar, ac⟩, ⟨bn, br, bc⟩)]) from fun x hx => by
              rcases List.mem_append.1 hx with hx | hx
              · exact hPI x hx
              · obtain rfl := List.mem_singleton.1 hx
                exact ⟨iA, iB⟩)
            have HX := Lib.hid (And.intro (And.intro hl (And.intro hij hpl)) (And.intro hown q))
            clear hl hi hij hpl hPI hown q
            go_wp2_with fail
            refine wp_region_noPanic ?_
            refine wp_region_gate (S := fun w' => w'.cell? ⟨S, 2, none⟩ = some (.slice (some a) n cap) ∧ w'.cell? (a.add (p * 3)) = some (.string an) ∧ w'.cell? ⟨(a.add (p * 3)).block, (a.add (p * 3)).off + 1, none⟩ = some (.int .i64 ar) ∧ w'.cell? ⟨(a.add (p * 3)).block, (a.add (p * 3)).off + 2, none⟩ = some (.int .i64 ac) ∧ w'.cell? (a.add (i * 3)) = some (.string bn) ∧ w'.cell? ⟨(a.add (i * 3)).block, (a.add (i * 3)).off + 1, none⟩ = some (.int .i64 br) ∧ w'.cell? ⟨(a.add (i * 3)).block, (a.add (i * 3)).off + 2, none⟩ = some (.int .i64 bc) ∧ B wo w') 14 [(0, 3), (1, 3), (2, 0), (3, 3), (4, 3), (5, 3), (6, 0), (7, 3), (8, 0), (9, 3), (10, 3), (11, 0), (12, 3), (13, 2), (14, 4), (15, 3)] [0, 0, 2, 0, 8, 20, 32, 0, 128, 0, 768, 1024, 2112, 4096, 8193, 32767] [0, 0, 2, 0, 8, 20, 32, 0, 128, 0, 768, 1024, 2112, 4096, 8193, 16385] [0, 0, 61540, 0, 0, 0, 61504, 0, 64768, 0, 0, 63488, 0, 0, 0, 0] (by kernel_rfl) (by kernel_rfl) (fun _ _ _ _ _ h => h) ?_ (fun hH => ?_)
            · exact ⟨(B.refl wo).drew.keep s0, (B.refl wo).drew.keep s1, (B.refl wo).drew.keep s2, (B.refl wo).drew.keep s3, (B.refl wo).drew.keep s4, (B.refl wo).drew.keep s5, (B.refl wo).drew.keep s6, (B.refl wo).drew⟩
            refine wpSeqG_free (d := 81) (v := ?_) rfl rfl (by kernel_rfl) (fun w => ?_) ?_
            rotate_left
            · go_simp <;> with_reducible rfl
            dsimp only [List.set_cons_zero, List.set_cons_succ]
            refine wpSeqG_free (d := 82) (v := ?_) rfl rfl (by kernel_rfl) (fun w => ?_) ?_
            rotate_left
            · go_simp <;> with_reducible rfl
            dsimp only [List.set_cons_zero, List.set_cons_succ]
            refine wpSeqG_take (d := 83) (v := ?_) rfl rfl (by kernel_rfl) (fun w hS => ?_) ?_
            rotate_left
            · go_simp <;> with_reducible rfl
            dsimp only [List.set_cons_zero, List.set_cons_succ]
            refine wpSeqG_free (d := 84) (v := ?_) rfl rfl (by kernel_rfl) (fun w => ?_) ?_
            rotate_left
            · go_simp <;> with_reducible rfl
            dsimp only [List.set_cons_zero, List.set_cons_succ]
            refine wpSeqG_free (d := 85) (v := ?_) rfl rfl (by kernel_rfl) (fun w => ?_) ?_
            rotate_left
            · go_simp <;> with_reducible rfl
            dsimp only [List.set_cons_zero, List.set_cons_succ]
            refine wpSeqG_free (d := 86) (v := ?_) rfl rfl (by kernel_rfl) (fun w => ?_) ?_
            rotate_left
            · go_simp <;> with_reducible rfl
            dsimp only [List.set_cons_zero, List.set_cons_succ]
            refine wpSeqG_take (d := 87) (v := ?_) rfl rfl (by kernel_rfl) (fun w hS => ?_) ?_
            rotate_left
            · go_simp <;> with_reducible rfl
            dsimp only [List.set_cons_zero, List.set_cons_succ]
            refine wpSeqG_free (d := 88) (v := ?_) rfl rfl (by kernel_rfl) (fun w => ?_) ?_
            rotate_left
            · go_simp <;> with_reducible rfl
            dsimp only [List.set_cons_zero, List.set_cons_succ]
            refine wpSeqG_take (d := 89) (v := ?_) rfl rfl (by kernel_rfl) (fun w hS => ?_) ?_
            rotate_left
            · go_simp <;> with_reducible rfl
            dsimp only [List.set_cons_zero, List.set_cons_succ]
            refine wpSeqG_free (d := 90) (v := ?_) rfl rfl (by kernel_rfl) (fun w => ?_) ?_
            rotate_left
            · go_simp <;> with_reducible rfl
            dsimp only [List.set_cons_zero, List.set_cons_succ]
            refine wpSeqG_free (d := 91) (v := ?_) rfl rfl (by kernel_rfl) (fun w => ?_) ?_
            rotate_left
            · go_simp <;> with_reducible rfl
            dsimp only [List.set_cons_zero, List.set_cons_succ]
            refine wpSeqG_take (d := 92) (v := ?_) rfl rfl (by kernel_rfl) (fun w hS => ?_) ?_
            rotate_left
            · go_simp <;> with_reducible rfl
            dsimp only [List.set_cons_zero, List.set_cons_succ]
            refine wpSeqG_free (d := 93) (v := ?_) rfl rfl (by kernel_rfl) (fun w => ?_) ?_
            rotate_left
            · go_simp <;> with_reducible rfl
            dsimp only [List.set_cons_zero, List.set_cons_succ]
            refine wpSeqG_call rfl (by kernel_rfl) (fun K hK => ?_)
            go_simp
            refine hK.out _ _ ?_ (fun hH => ?_)
            · exact ⟨((B.refl _).alloc _ _).keep hH.1, ((B.refl _).alloc _ _).keep hH.2.1, ((B.refl _).alloc _ _).keep hH.2.2.1, ((B.refl _).alloc _ _).keep hH.2.2.2.1, ((B.refl _).alloc _ _).keep hH.2.2.2.2.1, ((B.refl _).alloc _ _).keep hH.2.2.2.2.2.1, ((B.refl _).alloc _ _).keep hH.2.2.2.2.2.2.1, (hH.2.2.2.2.2.2.2).alloc _ _⟩
            clear hK
            refine wpSeqG_gate rfl (by kernel_rfl) (fun K hK => ?_)
            have qa9 : B wo (wo.alloc (.cells #[.string an, .int .i64 ar, .int .i64 ac, .string bn, .int .i64 br, .int .i64 bc] 86)).drew := ((B.refl wo).alloc _ _).drew
            have own9 := row_keep HX.out.2.1 qa9
            refine wp_append_lies _ _ _ 84 rfl w0.heap.size 86 i0 _ 6 64 Try.underlying84 hi0 hz0 hz1 hz2 rfl (by omega) (.slice lo j lc) j (flatPr pl) rfl own9 ⟨wo.heap.size, 0, none⟩ 1 1 [.string an, .int .i64 ar, .int .i64 ac, .string bn, .int .i64 br, .int .i64 bc] rfl rfl (fun j u hj => (B.refl _).drew.keep (newest rfl j u hj)) (fun u hu => by simp only [List.mem_cons, List.not_mem_nil, or_false] at hu; rcases hu with rfl | rfl | rfl | rfl | rfl | rfl <;> rfl) (by omega) (by unfold maxLen; omega) (by omega) ((HX.out.2.2.trans qa9).below.size) _ rfl ?_
            intro g1 c1 W4 hown4 hgrow4 hat4 hlt4
            have hB4 := (HX.out.2.2.trans qa9).grownBy hgrow4 (fun x hx => (own9.lt x hx).1)
            clear hgrow4 hat4 hlt4
            replace hown4 := Lib.hid (And.intro hown4 hB4)
            clear hB4 qa9 own9
            try simp only [Act.put, List.setIfInBounds_toArray, List.set_cons_zero, List.set_cons_succ]
            refine hK.out _ _ ?_
            clear hK
            refine wpSeqG_free (d := 3) (v := ?_) rfl rfl (by kernel_rfl) (fun w => ?_) ?_
            rotate_left
            · go_simp <;> with_reducible rfl
            dsimp only [List.set_cons_zero, List.set_cons_succ]
            refine wpSeqG_done ?_
            refine NoPanic.normal ?_
            go_wp2
            go_roundw
            case rel => exact ⟨i + 1, j + 1, pl ++ [(⟨an, ar, ac⟩, ⟨bn, br, bc⟩)], some ⟨g1, 0, none⟩, c1, by have := HX.out.1.1; omega, by have := HX.out.1.2.1; omega, by go_num, by rw [List.length_append, HX.out.1.2.2]; rfl, rfl, HN.out, by rw [flatPr_snoc]; exact hown4.out.1, hown4.out.2⟩
            case measure => have := HX.out.1.1; simp [intOf]; omega
          · have hlB : decide ((i : Int) < (n : Int)) = false := decide_eq_false (by omega)
            have hlN : decide (i < n) = false := decide_eq_false hl
            have HX := Lib.hid (And.intro (And.intro hPI (show j ≤ 95 by omega)) (And.intro hpl (And.intro hown q)))
            clear hl hi hij hPI hown q hpl
            go_wp2
            go_ret
            exact ⟨pl, lo, lc, by rw [HX.out.2.1]; rfl, by rw [HX.out.2.1]; exact own_low HX.out.2.2.1 HO.out.1.below.size, HX.out.1.1, by rw [HX.out.2.1]; exact HX.out.1.2, HO.out.1.trans HX.out.2.2.2⟩
      · have e6 : ((K : Int) == 6) = false := by simp [h6]
        clear h5 h4 h6
        go_enter Try.func24, Try.ntmps24
        go_wp2_with fail
        generalize w.alloc (.cells #[.int .i64 K, .string nm, .slice (some a) n cap, .int .i64 v, .int .i64 (M : Int)] 82) = w0 at *
        have HO : Hid (B w w0 ∧ True ∧ ∀ w', B w0 w' → w'.heap[S]? = some (.cells #[.int .i64 K, .string nm, .slice (some a) n cap, .int .i64 v, .int .i64 (M : Int)] 82 (0, 0))) := Lib.hid ⟨HW0.out.1, trivial, fun w' q => q.obj (by rw [← hSI.out]; exact HW0.out.2)⟩
        go_loopw [3, 7] (fun ov iv wr => ∃ (i j : Nat) (pl : List (Wp × Wp)) (lo : Option Addr) (lc : Nat), i ≤ n ∧ i = j + 1 ∧ iv = .int .i64 i ∧ pl.length = j ∧ ov = .slice lo j lc ∧ PrI pl ∧ wr.ownsRow w0.heap.size 86 6 (.slice lo j lc) j (flatPr pl) ∧ B w0 wr) (fun _ iv _ => n + 1 - (intOf iv).toNat)
        case atStart => exact ⟨1, 0, [], none, 0, by omega, rfl, rfl, rfl, rfl, fun x hx => (by cases hx), World.ownsRow_nil _ _ _ _, B.refl _⟩
        case round =>
          obtain ⟨i, j, pl, lo, lc, hi, hij, rfl, hpl, rfl, hPI, hown, q⟩ := hrel
          obtain ⟨wo, rfl⟩ : ∃ wo : World, wo = wr := ⟨_, rfl⟩
          have s0 := obj_cell (HO.out.2.2 wo q) 2
          have s9 := obj_cell (HO.out.2.2 wo q) 4
          by_cases hl : i < n
          · have hlB : decide ((i : Int) < (n : Int)) = true := decide_eq_true (by omega)
            have hlN : decide (i < n) = true := decide_eq_true hl
            have hlI : (i : Int) < (n : Int) := by omega
            have hi0' : (0 : Int) ≤ (i : Int) := by omega
            have wk1 : IntKind.i64.wrap ((i : Int) + 1) = (i : Int) + 1 := by rw [IntKind.wrap_i64]; omega
            have hj96 : j ≤ 95 := by omega
            obtain ⟨hA, iA⟩ := wells 0 (by omega) wo (HO.out.1.trans q)
            obtain ⟨hB, iB⟩ := wells i (by omega) wo (HO.out.1.trans q)
            obtain ⟨xa, hxa⟩ : ∃ x, L.getD 0 ⟨⟨#[]⟩, 0, 0⟩ = x := ⟨_, rfl⟩
            rw [hxa] at hA iA
            rw [ea] at hA
            obtain ⟨an, ar, ac⟩ := xa
            obtain ⟨s1, s2, s3⟩ := hA
            simp only at s1 s2 s3 iA
            obtain ⟨xb, hxb⟩ : ∃ x, L.getD i ⟨⟨#[]⟩, 0, 0⟩ = x := ⟨_, rfl⟩
            rw [hxb] at hB iB
            obtain ⟨bn, br, bc⟩ := xb
            obtain ⟨s4, s5, s6⟩ := hB
            simp only at s4 s5 s6 iB
            have HN := Lib.hid (show PrI (pl ++ [(⟨an, ar, ac⟩, ⟨bn, br, bc⟩)]) from fun x hx => by
              rcases List.mem_append.1 hx with hx | hx
              · exact hPI x hx
              · obtain rfl := List.mem_singleton.1 hx
                exact ⟨iA, iB⟩)
            have HX := Lib.hid (And.intro (And.intro hl (And.intro hij hpl)) (And.intro hown q))
            clear hl hi hij hpl hPI hown q
            go_wp2_with fail
            refine wp_region_noPanic ?_
            refine wp_region_gate (S := fun w' => w'.cell? ⟨S, 2, none⟩ = some (.slice (some a) n cap) ∧ w'.cell? a = some (.string an) ∧ w'.cell? ⟨a.block, a.off + 1, none⟩ = some (.int .i64 ar) ∧ w'.cell? ⟨a.block, a.off + 2, none⟩ = some (.int .i64 ac) ∧ w'.cell? (a.add (i * 3)) = some (.string bn) ∧ w'.cell? ⟨(a.add (i * 3)).block, (a.add (i * 3)).off + 1, none⟩ = some (.int .i64 br) ∧ w'.cell? ⟨(a.add (i * 3)).block, (a.add (i * 3)).off + 2, none⟩ = some (.int .i64 bc) ∧ B wo w') 12 [(0, 3), (1, 3), (2, 0), (3, 3), (4, 0), (5, 3), (6, 0), (7, 3), (8, 3), (9, 0), (10, 3), (11, 2), (12, 4), (13, 3)] [0, 0, 2, 4, 8, 0, 32, 0, 192, 256, 528, 1024, 2049, 8191] [0, 0, 2, 4, 8, 0, 32, 0, 192, 256, 528, 1024, 2049, 4097] [0, 0, 15388, 0, 15376, 0, 16192, 0, 0, 15872, 0, 0, 0, 0] (by kernel_rfl) (by kernel_rfl) (fun _ _ _ _ _ h => h) ?_ (fun hH => ?_)
            · exact ⟨(B.refl wo).drew.keep s0, (B.refl wo).drew.keep s1, (B.refl wo).drew.keep s2, (B.refl wo).drew.keep s3, (B.refl wo).drew.keep s4, (B.refl wo).drew.keep s5, (B.refl wo).drew.keep s6, (B.refl wo).drew⟩
            refine wpSeqG_free (d := 17) (v := ?_) rfl rfl (by kernel_rfl) (fun w => ?_) ?_
            rotate_left
            · go_simp <;> with_reducible rfl
            dsimp only [List.set_cons_zero, List.set_cons_succ]
            refine wpSeqG_free (d := 18) (v := ?_) rfl rfl (by kernel_rfl) (fun w => ?_) ?_
            rotate_left
            · go_simp <;> with_reducible rfl
            dsimp only [List.set_cons_zero, List.set_cons_succ]
            refine wpSeqG_take (d := 19) (v := ?_) rfl rfl (by kernel_rfl) (fun w hS => ?_) ?_
            rotate_left
            · go_simp <;> with_reducible rfl
            dsimp only [List.set_cons_zero, List.set_cons_succ]
            refine wpSeqG_free (d := 20) (v := ?_) rfl rfl (by kernel_rfl) (fun w => ?_) ?_
            rotate_left
            · go_simp <;> with_reducible rfl
            dsimp only [List.set_cons_zero, List.set_cons_succ]
            refine wpSeqG_take (d := 21) (v := ?_) rfl rfl (by kernel_rfl) (fun w hS => ?_) ?_
            rotate_left
            · go_simp <;> with_reducible rfl
            dsimp only [List.set_cons_zero, List.set_cons_succ]
            refine wpSeqG_free (d := 22) (v := ?_) rfl rfl (by kernel_rfl) (fun w => ?_) ?_
            rotate_left
            · go_simp <;> with_reducible rfl
            dsimp only [List.set_cons_zero, List.set_cons_succ]
            refine wpSeqG_take (d := 23) (v := ?_) rfl rfl (by kernel_rfl) (fun w hS => ?_) ?_
            rotate_left
            · go_simp <;> with_reducible rfl
            dsimp only [List.set_cons_zero, List.set_cons_succ]
            refine wpSeqG_free (d := 24) (v := ?_) rfl rfl (by kernel_rfl) (fun w => ?_) ?_
            rotate_left
            · go_simp <;> with_reducible rfl
            dsimp only [List.set_cons_zero, List.set_cons_succ]
            refine wpSeqG_free (d := 25) (v := ?_) rfl rfl (by kernel_rfl) (fun w => ?_) ?_
            rotate_left
            · go_simp <;> with_reducible rfl
            dsimp only [List.set_cons_zero, List.set_cons_succ]
            refine wpSeqG_take (d := 26) (v := ?_) rfl rfl (by kernel_rfl) (fun w hS => ?_) ?_
            rotate_left
            · go_simp <;> with_reducible rfl
            dsimp only [List.set_cons_zero, List.set_cons_succ]
            refine wpSeqG_free (d := 27) (v := ?_) rfl rfl (by kernel_rfl) (fun w => ?_) ?_
            rotate_left
            · go_simp <;> with_reducible rfl
            dsimp only [List.set_cons_zero, List.set_cons_succ]
            refine wpSeqG_call rfl (by kernel_rfl) (fun K hK => ?_)
            go_simp
            refine hK.out _ _ ?_ (fun hH => ?_)
            · exact ⟨((B.refl _).alloc _ _).keep hH.1, ((B.refl _).alloc _ _).keep hH.2.1, ((B.refl _).alloc _ _).keep hH.2.2.1, ((B.refl _).alloc _ _).keep hH.2.2.2.1, ((B.refl _).alloc _ _).keep hH.2.2.2.2.1, ((B.refl _).alloc _ _).keep hH.2.2.2.2.2.1, ((B.refl _).alloc _ _).keep hH.2.2.2.2.2.2.1, (hH.2.2.2.2.2.2.2).alloc _ _⟩
            clear hK
            refine wpSeqG_gate rfl (by kernel_rfl) (fun K hK => ?_)
            have qa9 : B wo (wo.alloc (.cells #[.string an, .int .i64 ar, .int .i64 ac, .string bn, .int .i64 br, .int .i64 bc] 86)).drew := ((B.refl wo).alloc _ _).drew
            have own9 := row_keep HX.out.2.1 qa9
            refine wp_append_lies _ _ _ 84 rfl w0.heap.size 86 i0 _ 6 64 Try.underlying84 hi0 hz0 hz1 hz2 rfl (by omega) (.slice lo j lc) j (flatPr pl) rfl own9 ⟨wo.heap.size, 0, none⟩ 1 1 [.string an, .int .i64 ar, .int .i64 ac, .string bn, .int .i64 br, .int .i64 bc] rfl rfl (fun j u hj => (B.refl _).drew.keep (newest rfl j u hj)) (fun u hu => by simp only [List.mem_cons, List.not_mem_nil, or_false] at hu; rcases hu with rfl | rfl | rfl | rfl | rfl | rfl <;> rfl) (by omega) (by unfold maxLen; omega) (by omega) ((HX.out.2.2.trans qa9).below.size) _ rfl ?_
            intro g1 c1 W4 hown4 hgrow4 hat4 hlt4
            have hB4 := (HX.out.2.2.trans qa9).grownBy hgrow4 (fun x hx => (own9.lt x hx).1)
            clear hgrow4 hat4 hlt4
            replace hown4 := Lib.hid (And.intro hown4 hB4)
            clear hB4 qa9 own9
            try simp only [Act.put, List.setIfInBounds_toArray, List.set_cons_zero, List.set_cons_succ]
            refine hK.out _ _ ?_
            clear hK
            refine wpSeqG_free (d := 3) (v := ?_) rfl rfl (by kernel_rfl) (fun w => ?_) ?_
            rotate_left
            · go_simp <;> with_reducible rfl
            dsimp only [List.set_cons_zero, List.set_cons_succ]
            refine wpSeqG_done ?_
            refine NoPanic.normal ?_
            go_wp2
            go_roundw
            case rel => exact ⟨i + 1, j + 1, pl ++ [(⟨an, ar, ac⟩, ⟨bn, br, bc⟩)], some ⟨g1, 0, none⟩, c1, by have := HX.out.1.1; omega, by have := HX.out.1.2.1; omega, by go_num, by rw [List.length_append, HX.out.1.2.2]; rfl, rfl, HN.out, by rw [flatPr_snoc]; exact hown4.out.1, hown4.out.2⟩
            case measure => have := HX.out.1.1; simp [intOf]; omega
          · have hlB : decide ((i : Int) < (n : Int)) = false := decide_eq_false (by omega)
            have hlN : decide (i < n) = false := decide_eq_false hl
            have HX := Lib.hid (And.intro (And.intro hPI (show j ≤ 95 by omega)) (And.intro hpl (And.intro hown q)))
            clear hl hi hij hPI hown q hpl
            go_wp2
            go_ret
            exact ⟨pl, lo, lc, by rw [HX.out.2.1]; rfl, by rw [HX.out.2.1]; exact own_low HX.out.2.2.1 HO.out.1.below.size, HX.out.1.1, by rw [HX.out.2.1]; exact HX.out.1.2, HO.out.1.trans HX.out.2.2.2⟩
end Go.Proofs.Ytnmcgleanpdlmaa
namespace Go.Proofs.Ytnmcgleanpdlmaa
open Go.RowKit
set_option linter.unusedVariables false

theorem wpSeqG_pass {P : Program} {ops : Array Oper} {Q : Exit → Act → World → Prop} {S : World → Prop} {l : List (Nat × Nat)} {t : List Value} {df : List _} {w : World} {i d : Nat} {o : Oper}
    (ho : ops.toList[i]? = some o) (hd : o.dst = some d) (hw : Region.wanted o (yielded ops t.toArray) = false)
    (h : wpSeqG P ops Q S l { tmps := (t.set d undef).toArray, defers := df } w) : wpSeqG P ops Q S ((i, 1) :: l) { tmps := t.toArray, defers := df } w := by
  refine ⟨o, by rw [← Array.getElem?_toList]; exact ho, ?_⟩
  rw [if_neg (by decide), if_pos rfl]
  refine ⟨hw, ?_⟩
  have e : Act.put { tmps := t.toArray, defers := df } o.dst undef = { tmps := (t.set d undef).toArray, defers := df } := by
    rw [hd]; simp [Act.put]
  rw [e]
  exact h
def kO : List (Option TypeId) := [some 52, some 3]
theorem flatOp_snoc (l : List Opx) (x : Opx) : flatOp (l ++ [x]) = flatOp l ++ x.cells := by unfold flatOp; rw [List.flatMap_append]; simp
/-- A row of another type stays where one grows. -/
theorem far_row {w w' : World} {b1 b2 e1 e2 s1 s2 n1 n2 : Nat} {v1 v2 : Value} {x1 x2 : List Value} (h1 : w.ownsRow b1 e1 s1 v1 n1 x1) (h2 : w.ownsRow b2 e2 s2 v2 n2 x2) (g : w.grownBy w' v2.ownBlock) (he : e1 ≠ e2) : w'.ownsRow b1 e1 s1 v1 n1 x1 :=
  own_tnU h1 ((Tn.refl [some e2] 0 w).appended h2 g (Nat.zero_le _) (by simp)) (by simpa using he)
theorem RBt.keepB {d : Dk} {b : Nat} {wv tv fv : Value} {w w' : World} (h : RBt d b wv tv fv w) (q : B w w') : RBt d b wv tv fv w' := by
  obtain ⟨gw, cw, gt, ct, ho, h1, h2⟩ := h
  refine ⟨gw, cw, gt, ct, q.obj ho, fun i r hr => ?_, fun i r hr => ?_⟩
  · obtain ⟨p, g, e, c, t⟩ := h1 i r hr
    exact ⟨p, g, e, q.keep c, t.keepB q⟩
  · obtain ⟨p, g, e, c, t⟩ := h2 i r hr
    exact ⟨p, g, e, q.keep c, t.keepB q⟩
/-- What is asked of a step's numbers. -/
theorem step_wells {s : Sp} (h : stepOk s = true) : ∀ p ∈ s.w, I64 p.r ∧ I64 p.c := fun p hp => by
  unfold stepOk wellsOk at h
  have h1 := List.all_eq_true.1 (Bool.and_eq_true_iff.1 h).1 p hp
  unfold Wp.t wellT at h1
  split at h1
  · rename_i hh
    unfold I64
    omega
  · simp at h1
theorem step_nums {s : Sp} (h : stepOk s = true) (h0 : s.k ≠ 0) (h1 : s.k ≠ 1) : (1 ≤ s.w.length ∧ s.w.length ≤ 96) ∧ (0 ≤ s.m ∧ s.m ≤ 20) ∧ I64 s.v := by
  unfold stepOk at h
  have h2 := (Bool.and_eq_true_iff.1 h).2
  unfold stepK at h2
  rw [if_neg h0, if_neg h1] at h2
  unfold I64
  split at h2
  · simp only [Bool.and_eq_true, decide_eq_true_eq, inB] at h2
    omega
  · split at h2
    · simp only [Bool.and_eq_true, decide_eq_true_eq, inB] at h2
      omega
    · cases h2
def R11Ops (w : World) (e : Ending) (w' : World) : Prop :=
  (∃ (i n : Nat), 1 ≤ n ∧ e = .returned (.tuple #[.slice none 0 0, .slice none 0 0, .int .i64 (i : Int), .int .i64 (n : Int)]) ∧ B w w') ∨
  (∃ ops lo lc s2, e = .returned (.tuple #[.slice lo ops.length lc, s2, .int .i64 0, .int .i64 0]) ∧ w'.ownsRow w.heap.size 52 9 (.slice lo ops.length lc) ops.length (flatOp ops) ∧ OpsI ops ∧ ops.length ≤ 1000 ∧ B w w')
theorem opI14 : (Try.prog.info? 52).map (fun i => (i.zero, i.size, i.bytes)) = some (some (.agg #[.string ⟨#[]⟩, .int .i64 0, .int .i64 0, .string ⟨#[]⟩, .int .i64 0, .int .i64 0, .int .i64 0, .string ⟨#[]⟩, .bool false]), 9, 96) := by kernel_rfl
theorem intI14 : (Try.prog.info? 3).map (fun i => (i.zero, i.size, i.bytes)) = some (some (.int .i64 0), 1, 8) := by kernel_rfl
set_option maxRecDepth 100000 in
set_option maxHeartbeats 8000000 in
theorem r11ops_any (d : Dk) (rb : Nat) (wv tv fv lv : Value) (L : List Sp) (hok : stepsOk L = true) (hwb : ∀ x ∈ d.ws, wareB x) (h100 : d.ws.length ≤ 100) (w : World) (hR : RBt d rb wv tv fv w) (hD : IsDk w wv tv fv d) (hL : IsSps w lv L) :
    Calls Try.prog 9 #[.pointer (some ⟨rb, 0, none⟩), lv] w (R11Ops w) := by
  have cR := r8stepsright_any lv L w hL
  rw [hok] at cR
  have hall : ∀ s ∈ L, stepOk s = true := by
    unfold stepsOk at hok
    exact List.all_eq_true.1 (Bool.and_eq_true_iff.1 hok).2
  have cT0 := fun w' (q : B w w') n => r11tip_any d rb wv tv fv w' (hR.keepB q) (hD.keepB q) n
  have cI0 := fun w' (q : B w w') n r c => r8index_any wv tv fv d n r c w' (hD.keepB q) hwb h100
  obtain ⟨i0, hi0, hz0, hz1, hz2⟩ := info_of opI14
  obtain ⟨j0, hj0, hy0, hy1, hy2⟩ := info_of intI14
  obtain ⟨gw, cw, gt, ct, oB, _⟩ := hR
  obtain ⟨ao, ac, bo, bc, co, cc, rfl, rfl, rfl⟩ := hD.forms
  obtain ⟨lo9, lc9, rfl⟩ := hL.form
  obtain ⟨ln, hln⟩ : ∃ ln, L.length = ln := ⟨_, rfl⟩
  rw [hln] at hL cR ⊢
  generalize d.ws.length = n1 at *
  generalize d.ts.length = n2 at *
  generalize d.fs.length = n3 at *
  have HH := Lib.hid (And.intro hL (And.intro hall (And.intro hln oB)))
  clear hL hall hln oB hD hwb h100 hok
  go_enter Try.func9, Try.ntmps9
  go_wp2_with fail
  refine cR.mono ?_
  rintro e w1 ⟨rfl, q1⟩
  have HQ1 := Lib.hid q1.b
  clear cR q1
  go_wp2_with fail
  go_loopw [8, 9, 10, 11, 12] (fun ov fv' tv' ev iv wr => ∃ (i A : Nat) (ops : List Opx) (lo : Option Addr) (lc : Nat) (fo : Option Addr) (fc : Nat) (fs : List Int) (tip : ByteArray) (each : Bool), i ≤ ln ∧ iv = .int .i64 i ∧ ops.length = A ∧ fs.length = A ∧ ov = .slice lo A lc ∧ fv' = .slice fo A fc ∧ tv' = .string tip ∧ ev = .bool each ∧ OpsI ops ∧ A ≤ 1000 ∧ wr.ownsRow w.heap.size 52 9 (.slice lo A lc) A (flatOp ops) ∧ wr.ownsRow w.heap.size 3 1 (.slice fo A fc) A (flatL fs) ∧ B w wr) (fun _ _ _ _ iv _ => ln + 1 - (intOf iv).toNat)
  case atStart => exact ⟨0, 0, [], none, 0, none, 0, [], _, _, Nat.zero_le _, rfl, rfl, rfl, rfl, rfl, rfl, rfl, fun x hx => (by cases hx), Nat.zero_le _, World.ownsRow_nil _ _ _ _, World.ownsRow_nil _ _ _ _, HQ1.out⟩
  case round =>
    obtain ⟨i, A, ops, lo, lc, fo, fc, fs, tip, each, hi, rfl, hA1, hA2, rfl, rfl, rfl, rfl, hOI, hA, hro, hrf, q⟩ := hrel
    obtain ⟨wl, rfl⟩ : ∃ wl : World, wl = wr := ⟨_, rfl⟩
    by_cases hl : i < ln
    · have hlB : decide ((i : Int) < (ln : Int)) = true := decide_eq_true (by omega)
      have hlN : decide (i < ln) = true := decide_eq_true hl
      have hlI : (i : Int) < (ln : Int) := by omega
      have hi0' : (0 : Int) ≤ (i : Int) := by omega
      have hl' : i < L.length := by rw [HH.out.2.2.1]; exact hl
      obtain ⟨a, cap, e1, e2, e3, hr⟩ := (HH.out.1.keepB q).at_ hl'
      rw [HH.out.2.2.1] at e1 e2
      have wk1 : IntKind.i64.wrap ((i : Int) + 1) = (i : Int) + 1 := by rw [IntKind.wrap_i64]; unfold maxLen at e3; omega
      obtain ⟨rfl, rfl⟩ : lo9 = some a ∧ lc9 = cap := by simpa using e1
      obtain ⟨s, hs⟩ : ∃ s, L[i] = s := ⟨_, rfl⟩
      rw [hs] at hr
      have hsok := HH.out.2.1 s (List.mem_of_getElem? (show L[i]? = some s by rw [List.getElem?_eq_getElem hl', hs]))
      have hsw := step_wells hsok
      have hsn := step_nums hsok
      obtain ⟨K, N, WS, V, M⟩ := s
      obtain ⟨g0, g1, ⟨sl, g2, g5⟩, g3, g4⟩ := hr
      simp only at g0 g1 g2 g3 g4 g5 hsw hsn
      obtain ⟨wo1, wc, rfl⟩ := g5.form
      obtain ⟨wn, hwn⟩ : ∃ wn, WS.length = wn := ⟨_, rfl⟩
      rw [hwn] at g2 g5 hsn
      have qb : B wl (wl.alloc (.cells #[.int .i64 K, .string N, .slice wo1 wn wc, .int .i64 V, .int .i64 M] 82)) := (B.refl _).alloc _ _
      have oX := obj_new wl (.cells #[.int .i64 K, .string N, .slice wo1 wn wc, .int .i64 V, .int .i64 M] 82)
      have HS := Lib.hid (And.intro hsw (And.intro hsn (And.intro (g5.keepB qb) hwn)))
      have HX := Lib.hid (And.intro (And.intro hl (And.intro hA (And.intro hA1 (And.intro hA2 hOI)))) (And.intro (own_keepBx hro qb) (And.intro (own_keepBx hrf qb) (q.trans qb))))
      clear hl hi hA hA1 hA2 hOI hro hrf q e1 e2 e3 hl' hs hsok hsw hsn g5 hwn
      go_upto_region 10 with fail
      have HL := Lib.hid qb
      clear g0 g1 g2 g3 g4 qb
      generalize wl.alloc (.cells #[.int .i64 K, .string N, .slice wo1 wn wc, .int .i64 V, .int .i64 M] 82) = w2 at *
      generalize wl.heap.size = X at *
      have x0 := obj_cell oX 0
      have x1 := obj_cell oX 1
      have x2 := obj_cell oX 2
      have x3 := obj_cell oX 3
      have x4 := obj_cell oX 4
      have HO := Lib.hid oX
      clear oX
      by_cases hK0 : K = 0
      · have eK : ((K : Int) == 0) = true := by simp [hK0]
        replace hK0 := Lib.hid hK0
        have cT := cT0 w2 HX.out.2.2.2 N
        clear cT0 cI0
        go_wp2_with fail
        refine cT.mono ?_
        rintro e w3 ⟨kt, rfl, hkt, q3⟩
        have HQ := Lib.hid (HX.out.2.2.2.trans q3)
        have x13 := q3.keep x1
        have HR3 := Lib.hid q3
        clear cT q3
        rcases hkt with ⟨_, rfl⟩ | ⟨it, rc, _, _, rfl⟩
        · have ek : decide ((-1 : Int) < 0) = true := rfl
          go_wp2
          try simp only [Exit.inBlock, Exit.then]
          refine bodyPost_ret (results_tmp4 rfl _ _ _) rfl ?_
          exact .inl ⟨i, 28, by omega, rfl, HQ.out⟩
        · have ek : decide ((it : Int) < 0) = false := decide_eq_false (by omega)
          go_wp2
          go_roundw
          case rel => exact ⟨i + 1, A, ops, lo, lc, fo, fc, fs, N, each, by have := HX.out.1.1; omega, by go_num, HX.out.1.2.2.1, HX.out.1.2.2.2.1, rfl, rfl, rfl, rfl, HX.out.1.2.2.2.2, HX.out.1.2.1, own_keepBx HX.out.2.1 HR3.out, own_keepBx HX.out.2.2.1 HR3.out, HQ.out⟩
          case measure => have := HX.out.1.1; simp [intOf]; omega
      · have eK : ((K : Int) == 0) = false := by simp [hK0]
        by_cases hK1 : K = 1
        · have eK1 : ((K : Int) == 1) = true := by simp [hK1]
          clear hK0
          replace hK1 := Lib.hid hK1
          obtain ⟨bM, hbM⟩ : ∃ b : Bool, ((M : Int) == 1) = b := ⟨_, rfl⟩
          clear cT0 cI0
          go_wp2
          go_roundw
          case rel => exact ⟨i + 1, A, ops, lo, lc, fo, fc, fs, tip, bM, by have := HX.out.1.1; omega, by go_num, HX.out.1.2.2.1, HX.out.1.2.2.2.1, rfl, rfl, rfl, by first | rfl | rw [hbM], HX.out.1.2.2.2.2, HX.out.1.2.1, HX.out.2.1, HX.out.2.2.1, HX.out.2.2.2⟩
          case measure => have := HX.out.1.1; simp [intOf]; omega
        · have eK1 : ((K : Int) == 1) = false := by simp [hK1]
          obtain ⟨⟨hw1, hw96⟩, ⟨hM0, hM20⟩, hVI⟩ := HS.out.2.1 hK0 hK1
          clear hK0 hK1 cT0
          cases htip : tip.toList.isEmpty with
          | true =>
            have HQ := Lib.hid HX.out.2.2.2
            go_wp2
            try simp only [Exit.inBlock, Exit.then]
            refine bodyPost_ret (results_tmp4 rfl _ _ _) rfl ?_
            exact .inl ⟨i, 28, by omega, rfl, HQ.out⟩
          | false =>
            obtain ⟨Mn, rfl⟩ : ∃ Mn : Nat, M = (Mn : Int) := ⟨M.toNat, by omega⟩
            obtain ⟨wa, rfl⟩ : ∃ wa, wo1 = some wa := by
              have h := HS.out.2.2.1
              rcases h with ⟨h, _⟩ | ⟨wa, _, h, _⟩
              · simp only [Value.slice.injEq] at h; omega
              · simp only [Value.slice.injEq] at h; exact ⟨wa, h.1⟩
            go_wp2_with fail
            go_loopw [14] (fun jv wr => ∃ j : Nat, j ≤ wn ∧ jv = .int .i64 j ∧ B w2 wr) (fun jv _ => wn + 1 - (intOf jv).toNat)
            case atStart => exact ⟨0, Nat.zero_le _, rfl, B.refl _⟩
            case round =>
              obtain ⟨j, hj, rfl, qj⟩ := hrel
              obtain ⟨wj, rfl⟩ : ∃ wj : World, wj = wr := ⟨_, rfl⟩
              have oXj := qj.obj HO.out
              replace x0 := obj_cell oXj 0
              replace x1 := obj_cell oXj 1
              replace x2 := obj_cell oXj 2
              replace x3 := obj_cell oXj 3
              replace x4 := obj_cell oXj 4
              have qwj := HX.out.2.2.2.trans qj
              by_cases hjl : j < wn
              · have hjB : decide ((j : Int) < (wn : Int)) = true := decide_eq_true (by omega)
                have hjN : decide (j < wn) = true := decide_eq_true hjl
                have hjI : (j : Int) < (wn : Int) := by omega
                have hj0 : (0 : Int) ≤ (j : Int) := by omega
                have wk2 : IntKind.i64.wrap ((j : Int) + 1) = (j : Int) + 1 := by rw [IntKind.wrap_i64]; omega
                have hj' : j < WS.length := by rw [HS.out.2.2.2]; exact hjl
                have hq : IsWps wj (.slice (some wa) WS.length wc) WS := by rw [HS.out.2.2.2]; exact HS.out.2.2.1.keepB qj
                obtain ⟨a2, cap2, ea2, _, _, hp⟩ := hq.at_ hj'
                simp only [Value.slice.injEq, Option.some.injEq] at ea2
                obtain ⟨rfl, -, -⟩ := ea2
                obtain ⟨pw, hpw⟩ : ∃ pw, WS[j] = pw := ⟨_, rfl⟩
                rw [hpw] at hp
                obtain ⟨PN, PR, PC⟩ := pw
                obtain ⟨s4, s5, s6⟩ := hp
                simp only at s4 s5 s6
                have oBj := qwj.obj HH.out.2.2.2
                have s0 := obj_cell oBj 0
                have s1 := obj_cell oBj 1
                have s2 := obj_cell oBj 2
                have s3 := x2
                have cI := fun w' (q : B wj w') => cI0 w' (qwj.trans q) PN PR PC
                obtain ⟨IX, hIX⟩ : ∃ IX, (indexW d.ws 0 PN PR PC).getD 0 = IX := ⟨_, rfl⟩
                obtain ⟨HB, hHB⟩ : ∃ HB, hasW d.ws PN PR PC = HB := ⟨_, rfl⟩
                rw [hIX, hHB] at cI
                have HJ := Lib.hid (And.intro (And.intro hjl qwj) qj)
                have cI' := fun w' (q : B wj w') => (cI w' q).mono (fun e w'' (h : e = .returned (.tuple #[.int .i64 IX, .bool HB]) ∧ Q w' w'') => And.intro h.1 h.2.b)
                clear hjl hj hq hj' hpw hIX hHB cI oBj oXj qwj qj
                go_wp2_with fail
                refine wp_region_noPanic ?_
                refine wp_region_seq (S := fun w' => w'.cell? ⟨rb, 0, none⟩ = some (.slice ao n1 ac) ∧ w'.cell? ⟨rb, 1, none⟩ = some (.slice bo n2 bc) ∧ w'.cell? ⟨rb, 2, none⟩ = some (.slice co n3 cc) ∧ w'.cell? ⟨X, 2, none⟩ = some (.slice (some wa) wn wc) ∧ w'.cell? (wa.add (j * 3)) = some (.string PN) ∧ w'.cell? ⟨(wa.add (j * 3)).block, (wa.add (j * 3)).off + 1, none⟩ = some (.int .i64 PR) ∧ w'.cell? ⟨(wa.add (j * 3)).block, (wa.add (j * 3)).off + 2, none⟩ = some (.int .i64 PC) ∧ B wj w') [(0, 0), (1, 0), (2, 0), (3, 0), (4, 0), (5, 0), (6, 0), (7, 0), (8, 0), (9, 2), (10, 0), (11, 0), (12, 0), (13, 0), (14, 0)] [0, 1, 2, 4, 0, 16, 0, 96, 128, 264, 512, 1024, 1024, 4095, 16383] [0, 1, 2, 4, 0, 16, 0, 96, 128, 264, 512, 1024, 1024, 2048, 4096] (by kernel_rfl) (by kernel_rfl) (fun _ _ _ _ _ h => h) ?_ (fun hH => ?_)
                · exact ⟨(B.refl wj).drew.keep s0, (B.refl wj).drew.keep s1, (B.refl wj).drew.keep s2, (B.refl wj).drew.keep s3, (B.refl wj).drew.keep s4, (B.refl wj).drew.keep s5, (B.refl wj).drew.keep s6, (B.refl wj).drew⟩
                refine wpSeq_take (d := 61) (v := ?_) rfl rfl (by kernel_rfl) (fun w hS => ?_) ?_
                rotate_left
                · go_simp <;> with_reducible rfl
                dsimp only [List.set_cons_zero, List.set_cons_succ]
                refine wpSeq_take (d := 62) (v := ?_) rfl rfl (by kernel_rfl) (fun w hS => ?_) ?_
                rotate_left
                · go_simp <;> with_reducible rfl
                dsimp only [List.set_cons_zero, List.set_cons_succ]
                refine wpSeq_take (d := 63) (v := ?_) rfl rfl (by kernel_rfl) (fun w hS => ?_) ?_
                rotate_left
                · go_simp <;> with_reducible rfl
                dsimp only [List.set_cons_zero, List.set_cons_succ]
                refine wpSeq_take (d := 64) (v := ?_) rfl rfl (by kernel_rfl) (fun w hS => ?_) ?_
                rotate_left
                · go_simp <;> with_reducible rfl
                dsimp only [List.set_cons_zero, List.set_cons_succ]
                refine wpSeq_take (d := 65) (v := ?_) rfl rfl (by kernel_rfl) (fun w hS => ?_) ?_
                rotate_left
                · go_simp <;> with_reducible rfl
                dsimp only [List.set_cons_zero, List.set_cons_succ]
                refine wpSeq_take (d := 66) (v := ?_) rfl rfl (by kernel_rfl) (fun w hS => ?_) ?_
                rotate_left
                · go_simp <;> with_reducible rfl
                dsimp only [List.set_cons_zero, List.set_cons_succ]
                refine wpSeq_take (d := 67) (v := ?_) rfl rfl (by kernel_rfl) (fun w hS => ?_) ?_
                rotate_left
                · go_simp <;> with_reducible rfl
                dsimp only [List.set_cons_zero, List.set_cons_succ]
                refine wpSeq_take (d := 68) (v := ?_) rfl rfl (by kernel_rfl) (fun w hS => ?_) ?_
                rotate_left
                · go_simp <;> with_reducible rfl
                dsimp only [List.set_cons_zero, List.set_cons_succ]
                refine wpSeq_take (d := 69) (v := ?_) rfl rfl (by kernel_rfl) (fun w hS => ?_) ?_
                rotate_left
                · go_simp <;> with_reducible rfl
                dsimp only [List.set_cons_zero, List.set_cons_succ]
                refine wpSeq_call rfl (by kernel_rfl) (fun K hK => ?_)
                go_simp
                (with_reducible refine (cI' _ (hH.2.2.2.2.2.2.2)).mono ?_)
                rintro e w' ⟨rfl, hq⟩
                refine hK.out _ _ ?_ (fun hH => ?_)
                · exact ⟨hq.keep (hH.1), hq.keep (hH.2.1), hq.keep (hH.2.2.1), hq.keep (hH.2.2.2.1), hq.keep (hH.2.2.2.2.1), hq.keep (hH.2.2.2.2.2.1), hq.keep (hH.2.2.2.2.2.2.1), (hH.2.2.2.2.2.2.2).trans hq⟩
                clear hK
                refine wpSeq_take (d := 60) (v := ?_) rfl rfl (by kernel_rfl) (fun w hS => ?_) ?_
                rotate_left
                · go_simp <;> with_reducible rfl
                dsimp only [List.set_cons_zero, List.set_cons_succ]
                refine wpSeq_take (d := 71) (v := ?_) rfl rfl (by kernel_rfl) (fun w hS => ?_) ?_
                rotate_left
                · go_simp <;> with_reducible rfl
                dsimp only [List.set_cons_zero, List.set_cons_succ]
                refine wpSeq_take (d := 72) (v := ?_) rfl rfl (by kernel_rfl) (fun w hS => ?_) ?_
                rotate_left
                · go_simp <;> with_reducible rfl
                dsimp only [List.set_cons_zero, List.set_cons_succ]
                refine wpSeq_take (d := 15) (v := ?_) rfl rfl (by kernel_rfl) (fun w hS => ?_) ?_
                rotate_left
                · go_simp <;> with_reducible rfl
                dsimp only [List.set_cons_zero, List.set_cons_succ]
                refine wpSeq_take (d := 16) (v := ?_) rfl rfl (by kernel_rfl) (fun w hS => ?_) ?_
                rotate_left
                · go_simp <;> with_reducible rfl
                dsimp only [List.set_cons_zero, List.set_cons_succ]
                refine wpSeq_done ?_
                refine NoPanic.normal ?_
                have HQ := Lib.hid (HJ.out.1.2.trans hH.2.2.2.2.2.2.2)
                have HQ2 := Lib.hid (HJ.out.2.trans hH.2.2.2.2.2.2.2)
                clear hH cI'
                cases HB with
                | false =>
                  go_wp2
                  try simp only [Exit.inBlock, Exit.then]
                  refine bodyPost_ret (results_tmp4 rfl _ _ _) rfl ?_
                  exact .inl ⟨i, 26, by omega, rfl, HQ.out⟩
                | true =>
                  go_wp2
                  go_roundw
                  case rel => exact ⟨j + 1, by have := HJ.out.1.1; omega, by go_num, HQ2.out⟩
                  case measure => have := HJ.out.1.1; simp [intOf]; omega
              · have hjB : decide ((j : Int) < (wn : Int)) = false := decide_eq_false (by omega)
                have hjN : decide (j < wn) = false := decide_eq_false hjl
                have hqW : IsWps wj (.slice (some wa) wn wc) WS := HS.out.2.2.1.keepB qj
                have cP := r11pairs_any K N (.slice (some wa) wn wc) WS V Mn (by omega) (by rw [HS.out.2.2.2]; omega) (by rw [HS.out.2.2.2]; omega) HS.out.1 wj hqW
                have HJ := Lib.hid (And.intro qwj (And.intro qj oXj))
                clear hjl hj hqW qwj qj oXj cI0
                go_wp2_with fail
                refine cP.mono ?_
                rintro e w5 ⟨pl, po, pc, rfl, hpr, hPI, hp95, q5⟩
                have qw5 := And.intro (HJ.out.2.1.trans q5) (And.intro (HJ.out.1.trans q5) hp95)
                have oX5 := q5.obj HJ.out.2.2
                obtain ⟨pn, hpn⟩ : ∃ pn, pl.length = pn := ⟨_, rfl⟩
                rw [hpn] at hpr qw5 ⊢
                obtain ⟨T, hT⟩ : ∃ T : Nat, A + pn = T := ⟨_, rfl⟩
                have wT : IntKind.i64.wrap ((A : Int) + (pn : Int)) = (T : Int) := by have := HX.out.1.2.1; rw [IntKind.wrap_i64]; omega
                clear cP hp95 q5
                by_cases hTl : T ≤ 1000
                · have tB : decide (1000 < (T : Int)) = false := decide_eq_false (by omega)
                  have tN : decide (1000 < T) = false := decide_eq_false (by omega)
                  have HXo := HX
                  have HT := Lib.hid (And.intro hT hTl)
                  have HP5 := Lib.hid (And.intro hpr (And.intro hPI (And.intro hpn (And.intro oX5 qw5))))
                  clear hpr hPI hpn oX5 qw5 hT hTl x0 x1 x2 x3 x4
                  go_wp2_with fail
                  go_loopw [8, 9, 18] (fun ov fv' kv wr => ∃ (k A' : Nat) (ops' : List Opx) (lo' : Option Addr) (lc' : Nat) (fo' : Option Addr) (fc' : Nat) (fs' : List Int), k ≤ pn ∧ kv = .int .i64 k ∧ ops'.length = A' ∧ fs'.length = A' ∧ ov = .slice lo' A' lc' ∧ fv' = .slice fo' A' fc' ∧ OpsI ops' ∧ A' = A + k ∧ wr.ownsRow w.heap.size 52 9 (.slice lo' A' lc') A' (flatOp ops') ∧ wr.ownsRow w.heap.size 3 1 (.slice fo' A' fc') A' (flatL fs') ∧ Tn kO w.heap.size w5 wr) (fun _ _ kv _ => pn + 1 - (intOf kv).toNat)
                  case atStart => exact ⟨0, A, ops, lo, lc, fo, fc, fs, Nat.zero_le _, rfl, HX.out.1.2.2.1, HX.out.1.2.2.2.1, rfl, rfl, HX.out.1.2.2.2.2, rfl, own_keepBx HX.out.2.1 HP5.out.2.2.2.2.1, own_keepBx HX.out.2.2.1 HP5.out.2.2.2.2.1, Tn.refl _ _ _⟩
                  case round =>
                    obtain ⟨k, A, ops, lo, lc, fo, fc, fs, hk, rfl, hA1, hA2, rfl, rfl, hOI, hAk, hro, hrf, tk⟩ := hrel
                    obtain ⟨wk, rfl⟩ : ∃ wk : World, wk = wr := ⟨_, rfl⟩
                    by_cases hkl : k < pn
                    · have hkB : decide ((k : Int) < (pn : Int)) = true := decide_eq_true (by omega)
                      have hkN : decide (k < pn) = true := decide_eq_true hkl
                      have hkI : (k : Int) < (pn : Int) := by omega
                      have hk0 : (0 : Int) ≤ (k : Int) := by omega
                      have wk2 : IntKind.i64.wrap ((k : Int) + 1) = (k : Int) + 1 := by have := HP5.out.2.2.2.2.2.2; rw [IntKind.wrap_i64]; omega
                      have hA999 : A ≤ 999 := by have := HT.out.2; have := HT.out.1; omega
                      have hrp := own_tnU HP5.out.1 tk (by decide)
                      obtain ⟨pg, hpg, _, _, _⟩ := own_full hrp (by omega)
                      subst hpg
                      have hgp : pl[k]? = some (pl.getD k (⟨⟨#[]⟩, 0, 0⟩, ⟨⟨#[]⟩, 0, 0⟩)) := by
                        have hlt : k < pl.length := by rw [HP5.out.2.2.1]; exact hkl
                        rw [List.getD_eq_getElem?_getD, List.getElem?_eq_getElem hlt]
                        rfl
                      obtain ⟨pp, hpp⟩ : ∃ pp, pl.getD k (⟨⟨#[]⟩, 0, 0⟩, ⟨⟨#[]⟩, 0, 0⟩) = pp := ⟨_, rfl⟩
                      rw [hpp] at hgp
                      have hpI := HP5.out.2.1 pp (List.mem_of_getElem? hgp)
                      have hpc : ∀ q, q < 6 → wk.cell? ⟨pg, k * 6 + q, none⟩ = ([.string pp.1.n, .int .i64 pp.1.r, .int .i64 pp.1.c, .string pp.2.n, .int .i64 pp.2.r, .int .i64 pp.2.c] : List Value)[q]? := fun q hq => by
                        rw [hrp.cellAt (k * 6 + q) (by omega)]
                        exact flatPr_get hgp q hq
                      have s0 := hpc 0 (by omega)
                      have s1 := hpc 1 (by omega)
                      have s2 := hpc 2 (by omega)
                      have s3 := hpc 3 (by omega)
                      have s4 := hpc 4 (by omega)
                      have s5 := hpc 5 (by omega)
                      obtain ⟨⟨an, ar, ac9⟩, ⟨bn9, br, bc9⟩⟩ := pp
                      simp only [List.getElem?_cons_zero, List.getElem?_cons_succ, Nat.add_zero] at s0 s1 s2 s3 s4 s5 hpI
                      have oXk := tk.objc HP5.out.2.2.2.1 (by decide)
                      have s6 := obj_cell oXk 3
                      have hwk := (tk.toB HP5.out.2.2.2.2.2.1 (Nat.le_refl _)).below.size
                      have HN := fun b => Lib.hid (show OpsI (ops ++ [⟨⟨an, ar, ac9⟩, ⟨bn9, br, bc9⟩, V, tip, b⟩]) from fun x hx => by
                        rcases List.mem_append.1 hx with hx | hx
                        · exact hOI x hx
                        · obtain rfl := List.mem_singleton.1 hx
                          exact ⟨hpI.1, hpI.2, hVI⟩)
                      have HX := Lib.hid (And.intro (And.intro hkl (And.intro hAk (And.intro hA1 hA2))) (And.intro hro (And.intro hrf (And.intro hwk tk))))
                      clear hrp hgp hpp hpI hpc oXk hwk hkl hk hOI hAk tk
                      cases heach : each with
                      | true =>
                        have HN := HN true
                        subst heach
                        clear hA1 hA2 hro hrf
                        go_wp2_with fail
                        refine wp_region_noPanic ?_
                        refine wp_region_gate (S := fun w' => w'.cell? ⟨pg, k * 6, none⟩ = some (.string an) ∧ w'.cell? ⟨pg, k * 6 + 1, none⟩ = some (.int .i64 ar) ∧ w'.cell? ⟨pg, k * 6 + 2, none⟩ = some (.int .i64 ac9) ∧ w'.cell? ⟨pg, k * 6 + 3, none⟩ = some (.string bn9) ∧ w'.cell? ⟨pg, k * 6 + 4, none⟩ = some (.int .i64 br) ∧ w'.cell? ⟨pg, k * 6 + 5, none⟩ = some (.int .i64 bc9) ∧ w'.cell? ⟨X, 3, none⟩ = some (.int .i64 V) ∧ B wk w') 31 [(0, 3), (1, 3), (2, 3), (3, 3), (4, 3), (5, 0), (6, 3), (7, 3), (8, 3), (9, 3), (10, 0), (11, 3), (12, 0), (13, 3), (14, 3), (15, 3), (16, 1), (17, 1), (18, 3), (19, 3), (20, 1), (21, 1), (22, 1), (23, 1), (24, 1), (25, 1), (26, 1), (27, 1), (28, 3), (29, 3), (30, 2), (31, 4), (32, 3)] [0, 0, 0, 6, 8, 16, 0, 0, 192, 256, 512, 0, 2048, 0, 0, 16384, 32768, 98304, 163840, 294912, 524288, 524288, 2621440, 5767168, 8912896, 17301504, 524288, 101187584, 134742016, 268448800, 536870912, 1074266113, 4294967295] [0, 0, 0, 6, 8, 16, 0, 0, 192, 256, 512, 0, 2048, 0, 0, 16384, 32768, 98304, 163840, 262144, 524288, 524288, 2621440, 5767168, 8912896, 17301504, 524288, 101187584, 134742016, 268448800, 536870912, 1073741825, 2148532225] [0, 0, 0, 0, 0, 8053063712, 0, 0, 0, 0, 8053064704, 0, 8053067776, 0, 0, 0, 0, 0, 0, 0, 0, 0, 0, 0, 0, 0, 0, 0, 0, 0, 0, 0, 0] (by kernel_rfl) (by kernel_rfl) (fun _ _ _ _ _ h => h) ?_ (fun hH => ?_)
                        · exact ⟨(B.refl wk).drew.keep s0, (B.refl wk).drew.keep s1, (B.refl wk).drew.keep s2, (B.refl wk).drew.keep s3, (B.refl wk).drew.keep s4, (B.refl wk).drew.keep s5, (B.refl wk).drew.keep s6, (B.refl wk).drew⟩
                        refine wpSeqG_free (d := 93) (v := ?_) rfl rfl (by kernel_rfl) (fun w => ?_) ?_
                        rotate_left
                        · go_simp <;> with_reducible rfl
                        dsimp only [List.set_cons_zero, List.set_cons_succ]
                        refine wpSeqG_free (d := 94) (v := ?_) rfl rfl (by kernel_rfl) (fun w => ?_) ?_
                        rotate_left
                        · go_simp <;> with_reducible rfl
                        dsimp only [List.set_cons_zero, List.set_cons_succ]
                        refine wpSeqG_free (d := 95) (v := ?_) rfl rfl (by kernel_rfl) (fun w => ?_) ?_
                        rotate_left
                        · go_simp <;> with_reducible rfl
                        dsimp only [List.set_cons_zero, List.set_cons_succ]
                        refine wpSeqG_free (d := 96) (v := ?_) rfl rfl (by kernel_rfl) (fun w => ?_) ?_
                        rotate_left
                        · go_simp <;> with_reducible rfl
                        dsimp only [List.set_cons_zero, List.set_cons_succ]
                        refine wpSeqG_free (d := 97) (v := ?_) rfl rfl (by kernel_rfl) (fun w => ?_) ?_
                        rotate_left
                        · go_simp <;> with_reducible rfl
                        dsimp only [List.set_cons_zero, List.set_cons_succ]
                        refine wpSeqG_take (d := 98) (v := ?_) rfl rfl (by kernel_rfl) (fun w hS => ?_) ?_
                        rotate_left
                        · go_simp <;> with_reducible rfl
                        dsimp only [List.set_cons_zero, List.set_cons_succ]
                        refine wpSeqG_free (d := 99) (v := ?_) rfl rfl (by kernel_rfl) (fun w => ?_) ?_
                        rotate_left
                        · go_simp <;> with_reducible rfl
                        dsimp only [List.set_cons_zero, List.set_cons_succ]
                        refine wpSeqG_free (d := 100) (v := ?_) rfl rfl (by kernel_rfl) (fun w => ?_) ?_
                        rotate_left
                        · go_simp <;> with_reducible rfl
                        dsimp only [List.set_cons_zero, List.set_cons_succ]
                        refine wpSeqG_free (d := 101) (v := ?_) rfl rfl (by kernel_rfl) (fun w => ?_) ?_
                        rotate_left
                        · go_simp <;> with_reducible rfl
                        dsimp only [List.set_cons_zero, List.set_cons_succ]
                        refine wpSeqG_free (d := 102) (v := ?_) rfl rfl (by kernel_rfl) (fun w => ?_) ?_
                        rotate_left
                        · go_simp <;> with_reducible rfl
                        dsimp only [List.set_cons_zero, List.set_cons_succ]
                        refine wpSeqG_take (d := 103) (v := ?_) rfl rfl (by kernel_rfl) (fun w hS => ?_) ?_
                        rotate_left
                        · go_simp <;> with_reducible rfl
                        dsimp only [List.set_cons_zero, List.set_cons_succ]
                        refine wpSeqG_free (d := 104) (v := ?_) rfl rfl (by kernel_rfl) (fun w => ?_) ?_
                        rotate_left
                        · go_simp <;> with_reducible rfl
                        dsimp only [List.set_cons_zero, List.set_cons_succ]
                        refine wpSeqG_take (d := 105) (v := ?_) rfl rfl (by kernel_rfl) (fun w hS => ?_) ?_
                        rotate_left
                        · go_simp <;> with_reducible rfl
                        dsimp only [List.set_cons_zero, List.set_cons_succ]
                        refine wpSeqG_free (d := 106) (v := ?_) rfl rfl (by kernel_rfl) (fun w => ?_) ?_
                        rotate_left
                        · go_simp <;> with_reducible rfl
                        dsimp only [List.set_cons_zero, List.set_cons_succ]
                        refine wpSeqG_free (d := 107) (v := ?_) rfl rfl (by kernel_rfl) (fun w => ?_) ?_
                        rotate_left
                        · go_simp <;> with_reducible rfl
                        dsimp only [List.set_cons_zero, List.set_cons_succ]
                        refine wpSeqG_free (d := 108) (v := ?_) rfl rfl (by kernel_rfl) (fun w => ?_) ?_
                        rotate_left
                        · go_simp <;> with_reducible rfl
                        dsimp only [List.set_cons_zero, List.set_cons_succ]
                        refine wpSeqG_pass (d := 109) rfl rfl (by kernel_rfl) ?_
                        dsimp only [List.set_cons_zero, List.set_cons_succ]
                        refine wpSeqG_pass (d := 110) rfl rfl (by kernel_rfl) ?_
                        dsimp only [List.set_cons_zero, List.set_cons_succ]
                        refine wpSeqG_free (d := 111) (v := ?_) rfl rfl (by kernel_rfl) (fun w => ?_) ?_
                        rotate_left
                        · go_simp <;> with_reducible rfl
                        dsimp only [List.set_cons_zero, List.set_cons_succ]
                        refine wpSeqG_free (d := 112) (v := ?_) rfl rfl (by kernel_rfl) (fun w => ?_) ?_
                        rotate_left
                        · go_simp <;> with_reducible rfl
                        dsimp only [List.set_cons_zero, List.set_cons_succ]
                        refine wpSeqG_pass (d := 113) rfl rfl (by kernel_rfl) ?_
                        dsimp only [List.set_cons_zero, List.set_cons_succ]
                        refine wpSeqG_pass (d := 114) rfl rfl (by kernel_rfl) ?_
                        dsimp only [List.set_cons_zero, List.set_cons_succ]
                        refine wpSeqG_pass (d := 115) rfl rfl (by kernel_rfl) ?_
                        dsimp only [List.set_cons_zero, List.set_cons_succ]
                        refine wpSeqG_pass (d := 116) rfl rfl (by kernel_rfl) ?_
                        dsimp only [List.set_cons_zero, List.set_cons_succ]
                        refine wpSeqG_pass (d := 117) rfl rfl (by kernel_rfl) ?_
                        dsimp only [List.set_cons_zero, List.set_cons_succ]
                        refine wpSeqG_pass (d := 118) rfl rfl (by kernel_rfl) ?_
                        dsimp only [List.set_cons_zero, List.set_cons_succ]
                        refine wpSeqG_pass (d := 119) rfl rfl (by kernel_rfl) ?_
                        dsimp only [List.set_cons_zero, List.set_cons_succ]
                        refine wpSeqG_pass (d := 120) rfl rfl (by kernel_rfl) ?_
                        dsimp only [List.set_cons_zero, List.set_cons_succ]
                        refine wpSeqG_free (d := 121) (v := ?_) rfl rfl (by kernel_rfl) (fun w => ?_) ?_
                        rotate_left
                        · go_simp <;> with_reducible rfl
                        dsimp only [List.set_cons_zero, List.set_cons_succ]
                        refine wpSeqG_free (d := 122) (v := ?_) rfl rfl (by kernel_rfl) (fun w => ?_) ?_
                        rotate_left
                        · go_simp <;> with_reducible rfl
                        dsimp only [List.set_cons_zero, List.set_cons_succ]
                        refine wpSeqG_call rfl (by kernel_rfl) (fun K hK => ?_)
                        go_simp
                        refine hK.out _ _ ?_ (fun hH => ?_)
                        · exact ⟨((B.refl _).alloc _ _).keep (hH.1), ((B.refl _).alloc _ _).keep (hH.2.1), ((B.refl _).alloc _ _).keep (hH.2.2.1), ((B.refl _).alloc _ _).keep (hH.2.2.2.1), ((B.refl _).alloc _ _).keep (hH.2.2.2.2.1), ((B.refl _).alloc _ _).keep (hH.2.2.2.2.2.1), ((B.refl _).alloc _ _).keep (hH.2.2.2.2.2.2.1), (hH.2.2.2.2.2.2.2).alloc _ _⟩
                        clear hK
                        refine wpSeqG_gate rfl (by kernel_rfl) (fun K hK => ?_)
                        have qa9 : B wk (wk.alloc (.cells #[.string an, .int .i64 ar, .int .i64 ac9, .string bn9, .int .i64 br, .int .i64 bc9, .int .i64 V, .string tip, .bool true] 52)).drew := ((B.refl wk).alloc _ _).drew
                        have own9 := own_keepBx HX.out.2.1 qa9
                        refine wp_append_lies _ _ _ 29 rfl w.heap.size 52 i0 _ 9 96 Try.underlying29 hi0 hz0 hz1 hz2 rfl (by omega) (.slice lo A lc) A (flatOp ops) rfl own9 ⟨wk.heap.size, 0, none⟩ 1 1 [.string an, .int .i64 ar, .int .i64 ac9, .string bn9, .int .i64 br, .int .i64 bc9, .int .i64 V, .string tip, .bool true] rfl rfl (fun j u hj => (B.refl _).drew.keep (newest rfl j u hj)) (fun u hu => by simp only [List.mem_cons, List.not_mem_nil, or_false] at hu; rcases hu with rfl | rfl | rfl | rfl | rfl | rfl | rfl | rfl | rfl <;> rfl) (by omega) (by unfold maxLen; omega) (by omega) (by have := HX.out.2.2.2.1; have := qa9.below.size; omega) _ rfl ?_
                        intro g1 c1 W4 hown4 hgrow4 hat4 hlt4
                        have hT4 := ((Tn.refl kO w.heap.size wk).trans (qa9.tn _ _)).appended own9 hgrow4 (Nat.le_refl _) (by simp [kO])
                        have hf4 := far_row (own_keepBx HX.out.2.2.1 qa9) own9 hgrow4 (by decide)
                        clear hgrow4 hat4 hlt4
                        have HW4 := Lib.hid (And.intro hown4 (And.intro hT4 hf4))
                        clear hown4 hT4 hf4 qa9 own9
                        try simp only [Act.put, List.setIfInBounds_toArray, List.set_cons_zero, List.set_cons_succ]
                        refine hK.out _ _ ?_
                        clear hK
                        refine wpSeqG_free (d := 8) (v := ?_) rfl rfl (by kernel_rfl) (fun w => ?_) ?_
                        rotate_left
                        · go_simp <;> with_reducible rfl
                        dsimp only [List.set_cons_zero, List.set_cons_succ]
                        refine wpSeqG_done ?_
                        refine NoPanic.normal ?_
                        have hrow4 : W4.ownsRow w.heap.size 52 9 (.slice (some ⟨g1, 0, none⟩) (A + 1) c1) (A + 1) (flatOp (ops ++ [⟨⟨an, ar, ac9⟩, ⟨bn9, br, bc9⟩, V, tip, true⟩])) := by rw [flatOp_snoc]; exact HW4.out.1
                        have HV4 := Lib.hid (And.intro hrow4 (And.intro HW4.out.2.2 HW4.out.2.1))
                        clear hrow4
                        obtain ⟨w44, rfl⟩ : ∃ w44 : World, w44 = W4 := ⟨_, rfl⟩
                        have hz4 := HV4.out.2.2.size
                        have hzk := HX.out.2.2.2.1
                        go_wp2_with (at_builtin; refine wpList_append_lies _ rfl _ _ 30 rfl w.heap.size 3 j0 _ 1 8 Try.underlying30 hj0 hy0 hy1 hy2 rfl (by omega) (.slice fo A fc) A (flatL fs) rfl (own_keepBx HV4.out.2.1 ((B.refl w44).alloc #[.int .i64 (i : Int)] 3)) ⟨_, 0, none⟩ 1 1 [.int .i64 (i : Int)] rfl rfl (newest (by simp)) (fun u hu => by simp only [List.mem_cons, List.not_mem_nil, or_false] at hu; subst hu; rfl) (by omega) (by unfold maxLen; omega) (by omega) (by have := ((B.refl w44).alloc #[.int .i64 (i : Int)] 3).below.size; omega) _ rfl ?_; intro g5 c5 W5 hown5 hgrow5 hat5 hlt5; have hT5 := (((B.refl w44).alloc #[.int .i64 (i : Int)] 3).tn kO w.heap.size).appended (own_keepBx HV4.out.2.1 ((B.refl w44).alloc #[.int .i64 (i : Int)] 3)) hgrow5 (Nat.le_refl _) (by simp [kO]); have hO5 := far_row (own_keepBx HV4.out.1 ((B.refl w44).alloc #[.int .i64 (i : Int)] 3)) (own_keepBx HV4.out.2.1 ((B.refl w44).alloc #[.int .i64 (i : Int)] 3)) hgrow5 (by decide); have HW5 := Lib.hid (And.intro hown5 (And.intro hO5 (HV4.out.2.2.trans hT5))); clear hown5 hgrow5 hat5 hlt5 hT5 hO5; go_wp2_with fail)
                        go_roundw
                        case rel => exact ⟨k + 1, A + 1, ops ++ [⟨⟨an, ar, ac9⟩, ⟨bn9, br, bc9⟩, V, tip, true⟩], some ⟨g1, 0, none⟩, c1, some ⟨g5, 0, none⟩, c5, fs ++ [(i : Int)], by have := HX.out.1.1; omega, by go_num, by rw [List.length_append, HX.out.1.2.2.1]; rfl, by rw [List.length_append, HX.out.1.2.2.2]; rfl, rfl, rfl, HN.out, by have := HX.out.1.1; have := HX.out.1.2.1; omega, HW5.out.2.1, by unfold flatL; rw [List.map_append]; exact HW5.out.1, HX.out.2.2.2.2.trans HW5.out.2.2⟩
                        case measure => have := HX.out.1.1; simp [intOf]; omega
                      | false =>
                        subst heach
                        by_cases hz : A = 0
                        · have HN := HN true
                          have eA : ((A : Int) == 0) = true := by simp [hz]
                          have eA' : (A == 0) = true := by simp [hz]
                          replace hz := Lib.hid hz
                          clear hA1 hA2 hro hrf
                          go_wp2_with fail
                          refine wp_region_noPanic ?_
                          refine wp_region_gate (S := fun w' => w'.cell? ⟨pg, k * 6, none⟩ = some (.string an) ∧ w'.cell? ⟨pg, k * 6 + 1, none⟩ = some (.int .i64 ar) ∧ w'.cell? ⟨pg, k * 6 + 2, none⟩ = some (.int .i64 ac9) ∧ w'.cell? ⟨pg, k * 6 + 3, none⟩ = some (.string bn9) ∧ w'.cell? ⟨pg, k * 6 + 4, none⟩ = some (.int .i64 br) ∧ w'.cell? ⟨pg, k * 6 + 5, none⟩ = some (.int .i64 bc9) ∧ w'.cell? ⟨X, 3, none⟩ = some (.int .i64 V) ∧ B wk w') 31 [(0, 3), (1, 3), (2, 3), (3, 3), (4, 3), (5, 0), (6, 3), (7, 3), (8, 3), (9, 3), (10, 0), (11, 3), (12, 0), (13, 3), (14, 3), (15, 3), (16, 3), (17, 3), (18, 3), (19, 3), (20, 1), (21, 1), (22, 1), (23, 1), (24, 1), (25, 1), (26, 1), (27, 1), (28, 3), (29, 3), (30, 2), (31, 4), (32, 3)] [0, 0, 0, 6, 8, 16, 0, 0, 192, 256, 512, 0, 2048, 0, 0, 16384, 32768, 98304, 163840, 294912, 524288, 524288, 2621440, 5767168, 8912896, 17301504, 524288, 101187584, 134742016, 268448800, 536870912, 1074266113, 4294967295] [0, 0, 0, 6, 8, 16, 0, 0, 192, 256, 512, 0, 2048, 0, 0, 16384, 32768, 98304, 163840, 262144, 524288, 524288, 2621440, 5767168, 8912896, 17301504, 524288, 101187584, 134742016, 268448800, 536870912, 1073741825, 2148532225] [0, 0, 0, 0, 0, 8053063712, 0, 0, 0, 0, 8053064704, 0, 8053067776, 0, 0, 0, 0, 0, 0, 0, 0, 0, 0, 0, 0, 0, 0, 0, 0, 0, 0, 0, 0] (by kernel_rfl) (by kernel_rfl) (fun _ _ _ _ _ h => h) ?_ (fun hH => ?_)
                          · exact ⟨(B.refl wk).drew.keep s0, (B.refl wk).drew.keep s1, (B.refl wk).drew.keep s2, (B.refl wk).drew.keep s3, (B.refl wk).drew.keep s4, (B.refl wk).drew.keep s5, (B.refl wk).drew.keep s6, (B.refl wk).drew⟩
                          refine wpSeqG_free (d := 93) (v := ?_) rfl rfl (by kernel_rfl) (fun w => ?_) ?_
                          rotate_left
                          · go_simp <;> with_reducible rfl
                          dsimp only [List.set_cons_zero, List.set_cons_succ]
                          refine wpSeqG_free (d := 94) (v := ?_) rfl rfl (by kernel_rfl) (fun w => ?_) ?_
                          rotate_left
                          · go_simp <;> with_reducible rfl
                          dsimp only [List.set_cons_zero, List.set_cons_succ]
                          refine wpSeqG_free (d := 95) (v := ?_) rfl rfl (by kernel_rfl) (fun w => ?_) ?_
                          rotate_left
                          · go_simp <;> with_reducible rfl
                          dsimp only [List.set_cons_zero, List.set_cons_succ]
                          refine wpSeqG_free (d := 96) (v := ?_) rfl rfl (by kernel_rfl) (fun w => ?_) ?_
                          rotate_left
                          · go_simp <;> with_reducible rfl
                          dsimp only [List.set_cons_zero, List.set_cons_succ]
                          refine wpSeqG_free (d := 97) (v := ?_) rfl rfl (by kernel_rfl) (fun w => ?_) ?_
                          rotate_left
                          · go_simp <;> with_reducible rfl
                          dsimp only [List.set_cons_zero, List.set_cons_succ]
                          refine wpSeqG_take (d := 98) (v := ?_) rfl rfl (by kernel_rfl) (fun w hS => ?_) ?_
                          rotate_left
                          · go_simp <;> with_reducible rfl
                          dsimp only [List.set_cons_zero, List.set_cons_succ]
                          refine wpSeqG_free (d := 99) (v := ?_) rfl rfl (by kernel_rfl) (fun w => ?_) ?_
                          rotate_left
                          · go_simp <;> with_reducible rfl
                          dsimp only [List.set_cons_zero, List.set_cons_succ]
                          refine wpSeqG_free (d := 100) (v := ?_) rfl rfl (by kernel_rfl) (fun w => ?_) ?_
                          rotate_left
                          · go_simp <;> with_reducible rfl
                          dsimp only [List.set_cons_zero, List.set_cons_succ]
                          refine wpSeqG_free (d := 101) (v := ?_) rfl rfl (by kernel_rfl) (fun w => ?_) ?_
                          rotate_left
                          · go_simp <;> with_reducible rfl
                          dsimp only [List.set_cons_zero, List.set_cons_succ]
                          refine wpSeqG_free (d := 102) (v := ?_) rfl rfl (by kernel_rfl) (fun w => ?_) ?_
                          rotate_left
                          · go_simp <;> with_reducible rfl
                          dsimp only [List.set_cons_zero, List.set_cons_succ]
                          refine wpSeqG_take (d := 103) (v := ?_) rfl rfl (by kernel_rfl) (fun w hS => ?_) ?_
                          rotate_left
                          · go_simp <;> with_reducible rfl
                          dsimp only [List.set_cons_zero, List.set_cons_succ]
                          refine wpSeqG_free (d := 104) (v := ?_) rfl rfl (by kernel_rfl) (fun w => ?_) ?_
                          rotate_left
                          · go_simp <;> with_reducible rfl
                          dsimp only [List.set_cons_zero, List.set_cons_succ]
                          refine wpSeqG_take (d := 105) (v := ?_) rfl rfl (by kernel_rfl) (fun w hS => ?_) ?_
                          rotate_left
                          · go_simp <;> with_reducible rfl
                          dsimp only [List.set_cons_zero, List.set_cons_succ]
                          refine wpSeqG_free (d := 106) (v := ?_) rfl rfl (by kernel_rfl) (fun w => ?_) ?_
                          rotate_left
                          · go_simp <;> with_reducible rfl
                          dsimp only [List.set_cons_zero, List.set_cons_succ]
                          refine wpSeqG_free (d := 107) (v := ?_) rfl rfl (by kernel_rfl) (fun w => ?_) ?_
                          rotate_left
                          · go_simp <;> with_reducible rfl
                          dsimp only [List.set_cons_zero, List.set_cons_succ]
                          refine wpSeqG_free (d := 108) (v := ?_) rfl rfl (by kernel_rfl) (fun w => ?_) ?_
                          rotate_left
                          · go_simp <;> with_reducible rfl
                          dsimp only [List.set_cons_zero, List.set_cons_succ]
                          refine wpSeqG_free (d := 109) (v := ?_) rfl rfl (by kernel_rfl) (fun w => ?_) ?_
                          rotate_left
                          · go_simp <;> with_reducible rfl
                          dsimp only [List.set_cons_zero, List.set_cons_succ]
                          refine wpSeqG_free (d := 110) (v := ?_) rfl rfl (by kernel_rfl) (fun w => ?_) ?_
                          rotate_left
                          · go_simp <;> with_reducible rfl
                          dsimp only [List.set_cons_zero, List.set_cons_succ]
                          refine wpSeqG_free (d := 111) (v := ?_) rfl rfl (by kernel_rfl) (fun w => ?_) ?_
                          rotate_left
                          · go_simp <;> with_reducible rfl
                          dsimp only [List.set_cons_zero, List.set_cons_succ]
                          refine wpSeqG_free (d := 112) (v := ?_) rfl rfl (by kernel_rfl) (fun w => ?_) ?_
                          rotate_left
                          · go_simp <;> with_reducible rfl
                          dsimp only [List.set_cons_zero, List.set_cons_succ]
                          refine wpSeqG_pass (d := 113) rfl rfl (by kernel_rfl) ?_
                          dsimp only [List.set_cons_zero, List.set_cons_succ]
                          refine wpSeqG_pass (d := 114) rfl rfl (by kernel_rfl) ?_
                          dsimp only [List.set_cons_zero, List.set_cons_succ]
                          refine wpSeqG_pass (d := 115) rfl rfl (by kernel_rfl) ?_
                          dsimp only [List.set_cons_zero, List.set_cons_succ]
                          refine wpSeqG_pass (d := 116) rfl rfl (by kernel_rfl) ?_
                          dsimp only [List.set_cons_zero, List.set_cons_succ]
                          refine wpSeqG_pass (d := 117) rfl rfl (by kernel_rfl) ?_
                          dsimp only [List.set_cons_zero, List.set_cons_succ]
                          refine wpSeqG_pass (d := 118) rfl rfl (by kernel_rfl) ?_
                          dsimp only [List.set_cons_zero, List.set_cons_succ]
                          refine wpSeqG_pass (d := 119) rfl rfl (by kernel_rfl) ?_
                          dsimp only [List.set_cons_zero, List.set_cons_succ]
                          refine wpSeqG_pass (d := 120) rfl rfl (by kernel_rfl) ?_
                          dsimp only [List.set_cons_zero, List.set_cons_succ]
                          refine wpSeqG_free (d := 121) (v := ?_) rfl rfl (by kernel_rfl) (fun w => ?_) ?_
                          rotate_left
                          · go_simp <;> with_reducible rfl
                          dsimp only [List.set_cons_zero, List.set_cons_succ]
                          refine wpSeqG_free (d := 122) (v := ?_) rfl rfl (by kernel_rfl) (fun w => ?_) ?_
                          rotate_left
                          · go_simp <;> with_reducible rfl
                          dsimp only [List.set_cons_zero, List.set_cons_succ]
                          refine wpSeqG_call rfl (by kernel_rfl) (fun K hK => ?_)
                          go_simp
                          refine hK.out _ _ ?_ (fun hH => ?_)
                          · exact ⟨((B.refl _).alloc _ _).keep (hH.1), ((B.refl _).alloc _ _).keep (hH.2.1), ((B.refl _).alloc _ _).keep (hH.2.2.1), ((B.refl _).alloc _ _).keep (hH.2.2.2.1), ((B.refl _).alloc _ _).keep (hH.2.2.2.2.1), ((B.refl _).alloc _ _).keep (hH.2.2.2.2.2.1), ((B.refl _).alloc _ _).keep (hH.2.2.2.2.2.2.1), (hH.2.2.2.2.2.2.2).alloc _ _⟩
                          clear hK
                          refine wpSeqG_gate rfl (by kernel_rfl) (fun K hK => ?_)
                          have qa9 : B wk (wk.alloc (.cells #[.string an, .int .i64 ar, .int .i64 ac9, .string bn9, .int .i64 br, .int .i64 bc9, .int .i64 V, .string tip, .bool true] 52)).drew := ((B.refl wk).alloc _ _).drew
                          have own9 := own_keepBx HX.out.2.1 qa9
                          refine wp_append_lies _ _ _ 29 rfl w.heap.size 52 i0 _ 9 96 Try.underlying29 hi0 hz0 hz1 hz2 rfl (by omega) (.slice lo A lc) A (flatOp ops) rfl own9 ⟨wk.heap.size, 0, none⟩ 1 1 [.string an, .int .i64 ar, .int .i64 ac9, .string bn9, .int .i64 br, .int .i64 bc9, .int .i64 V, .string tip, .bool true] rfl rfl (fun j u hj => (B.refl _).drew.keep (newest rfl j u hj)) (fun u hu => by simp only [List.mem_cons, List.not_mem_nil, or_false] at hu; rcases hu with rfl | rfl | rfl | rfl | rfl | rfl | rfl | rfl | rfl <;> rfl) (by omega) (by unfold maxLen; omega) (by omega) (by have := HX.out.2.2.2.1; have := qa9.below.size; omega) _ rfl ?_
                          intro g1 c1 W4 hown4 hgrow4 hat4 hlt4
                          have hT4 := ((Tn.refl kO w.heap.size wk).trans (qa9.tn _ _)).appended own9 hgrow4 (Nat.le_refl _) (by simp [kO])
                          have hf4 := far_row (own_keepBx HX.out.2.2.1 qa9) own9 hgrow4 (by decide)
                          clear hgrow4 hat4 hlt4
                          have HW4 := Lib.hid (And.intro hown4 (And.intro hT4 hf4))
                          clear hown4 hT4 hf4 qa9 own9
                          try simp only [Act.put, List.setIfInBounds_toArray, List.set_cons_zero, List.set_cons_succ]
                          refine hK.out _ _ ?_
                          clear hK
                          refine wpSeqG_free (d := 8) (v := ?_) rfl rfl (by kernel_rfl) (fun w => ?_) ?_
                          rotate_left
                          · go_simp <;> with_reducible rfl
                          dsimp only [List.set_cons_zero, List.set_cons_succ]
                          refine wpSeqG_done ?_
                          refine NoPanic.normal ?_
                          have hrow4 : W4.ownsRow w.heap.size 52 9 (.slice (some ⟨g1, 0, none⟩) (A + 1) c1) (A + 1) (flatOp (ops ++ [⟨⟨an, ar, ac9⟩, ⟨bn9, br, bc9⟩, V, tip, true⟩])) := by rw [flatOp_snoc]; exact HW4.out.1
                          have HV4 := Lib.hid (And.intro hrow4 (And.intro HW4.out.2.2 HW4.out.2.1))
                          clear hrow4
                          obtain ⟨w44, rfl⟩ : ∃ w44 : World, w44 = W4 := ⟨_, rfl⟩
                          have hz4 := HV4.out.2.2.size
                          have hzk := HX.out.2.2.2.1
                          go_wp2_with (at_builtin; refine wpList_append_lies _ rfl _ _ 30 rfl w.heap.size 3 j0 _ 1 8 Try.underlying30 hj0 hy0 hy1 hy2 rfl (by omega) (.slice fo A fc) A (flatL fs) rfl (own_keepBx HV4.out.2.1 ((B.refl w44).alloc #[.int .i64 (i : Int)] 3)) ⟨_, 0, none⟩ 1 1 [.int .i64 (i : Int)] rfl rfl (newest (by simp)) (fun u hu => by simp only [List.mem_cons, List.not_mem_nil, or_false] at hu; subst hu; rfl) (by omega) (by unfold maxLen; omega) (by omega) (by have := ((B.refl w44).alloc #[.int .i64 (i : Int)] 3).below.size; omega) _ rfl ?_; intro g5 c5 W5 hown5 hgrow5 hat5 hlt5; have hT5 := (((B.refl w44).alloc #[.int .i64 (i : Int)] 3).tn kO w.heap.size).appended (own_keepBx HV4.out.2.1 ((B.refl w44).alloc #[.int .i64 (i : Int)] 3)) hgrow5 (Nat.le_refl _) (by simp [kO]); have hO5 := far_row (own_keepBx HV4.out.1 ((B.refl w44).alloc #[.int .i64 (i : Int)] 3)) (own_keepBx HV4.out.2.1 ((B.refl w44).alloc #[.int .i64 (i : Int)] 3)) hgrow5 (by decide); have HW5 := Lib.hid (And.intro hown5 (And.intro hO5 (HV4.out.2.2.trans hT5))); clear hown5 hgrow5 hat5 hlt5 hT5 hO5; go_wp2_with fail)
                          go_roundw
                          case rel => exact ⟨k + 1, A + 1, ops ++ [⟨⟨an, ar, ac9⟩, ⟨bn9, br, bc9⟩, V, tip, true⟩], some ⟨g1, 0, none⟩, c1, some ⟨g5, 0, none⟩, c5, fs ++ [(i : Int)], by have := HX.out.1.1; omega, by go_num, by rw [List.length_append, HX.out.1.2.2.1]; rfl, by rw [List.length_append, HX.out.1.2.2.2]; rfl, rfl, rfl, HN.out, by have := HX.out.1.1; have := HX.out.1.2.1; omega, HW5.out.2.1, by unfold flatL; rw [List.map_append]; exact HW5.out.1, HX.out.2.2.2.2.trans HW5.out.2.2⟩
                          case measure => have := HX.out.1.1; simp [intOf]; omega
                        · have eA : ((A : Int) == 0) = false := by simp; omega
                          have eA' : (A == 0) = false := by simp [hz]
                          obtain ⟨a1, ha1⟩ : ∃ a1 : Nat, A = a1 + 1 := ⟨A - 1, by omega⟩
                          have wA : IntKind.i64.wrap ((A : Int) - 1) = (a1 : Int) := by rw [IntKind.wrap_i64]; omega
                          have wA1 : IntKind.i64.wrap (a1 : Int) = (a1 : Int) := by rw [IntKind.wrap_i64]; omega
                          have ha2 : (a1 : Int) < (A : Int) := by omega
                          have ha3 : (0 : Int) ≤ (a1 : Int) := by omega
                          obtain ⟨og, hog, _, _, _⟩ := own_full hro (by omega)
                          subst hog
                          have hgo : ops[a1]? = some (ops.getD a1 ⟨⟨⟨#[]⟩, 0, 0⟩, ⟨⟨#[]⟩, 0, 0⟩, 0, ⟨#[]⟩, false⟩) := by
                            have hlt : a1 < ops.length := by omega
                            rw [List.getD_eq_getElem?_getD, List.getElem?_eq_getElem hlt]
                            rfl
                          obtain ⟨oo, hoo⟩ : ∃ oo, ops.getD a1 ⟨⟨⟨#[]⟩, 0, 0⟩, ⟨⟨#[]⟩, 0, 0⟩, 0, ⟨#[]⟩, false⟩ = oo := ⟨_, rfl⟩
                          rw [hoo] at hgo
                          obtain ⟨ltip, hlt⟩ : ∃ ltip, oo.t = ltip := ⟨_, rfl⟩
                          have s7 : wk.cell? ⟨og, a1 * 9 + 7, none⟩ = some (.string ltip) := by
                            rw [hro.cellAt (a1 * 9 + 7) (by omega), ← hlt]
                            exact flatOp_get hgo 7 (by omega)
                          replace ha1 := Lib.hid ha1
                          clear hz hgo hoo hlt hA1 hA2 hro hrf
                          cases hcmp : (ltip.toList == tip.toList)
                          · have HN := HN true
                            go_wp2_with fail
                            refine wp_region_noPanic ?_
                            refine wp_region_gate (S := fun w' => w'.cell? ⟨pg, k * 6, none⟩ = some (.string an) ∧ w'.cell? ⟨pg, k * 6 + 1, none⟩ = some (.int .i64 ar) ∧ w'.cell? ⟨pg, k * 6 + 2, none⟩ = some (.int .i64 ac9) ∧ w'.cell? ⟨pg, k * 6 + 3, none⟩ = some (.string bn9) ∧ w'.cell? ⟨pg, k * 6 + 4, none⟩ = some (.int .i64 br) ∧ w'.cell? ⟨pg, k * 6 + 5, none⟩ = some (.int .i64 bc9) ∧ w'.cell? ⟨X, 3, none⟩ = some (.int .i64 V) ∧ w'.cell? ⟨og, a1 * 9 + 7, none⟩ = some (.string ltip) ∧ B wk w') 31 [(0, 3), (1, 3), (2, 3), (3, 3), (4, 3), (5, 0), (6, 3), (7, 3), (8, 3), (9, 3), (10, 0), (11, 3), (12, 0), (13, 3), (14, 3), (15, 3), (16, 3), (17, 3), (18, 3), (19, 3), (20, 3), (21, 3), (22, 3), (23, 3), (24, 3), (25, 0), (26, 3), (27, 3), (28, 3), (29, 3), (30, 2), (31, 4), (32, 3)] [0, 0, 0, 6, 8, 16, 0, 0, 192, 256, 512, 0, 2048, 0, 0, 16384, 32768, 98304, 163840, 294912, 524288, 524288, 2621440, 5767168, 8912896, 17301504, 524288, 101187584, 134742016, 268448800, 536870912, 1074266113, 4294967295] [0, 0, 0, 6, 8, 16, 0, 0, 192, 256, 512, 0, 2048, 0, 0, 16384, 32768, 98304, 163840, 262144, 524288, 524288, 2621440, 5767168, 8912896, 17301504, 524288, 101187584, 134742016, 268448800, 536870912, 1073741825, 2148532225] [0, 0, 0, 0, 0, 8053063712, 0, 0, 0, 0, 8053064704, 0, 8053067776, 0, 0, 0, 0, 0, 0, 0, 0, 0, 0, 0, 0, 8489271296, 0, 0, 0, 0, 0, 0, 0] (by kernel_rfl) (by kernel_rfl) (fun _ _ _ _ _ h => h) ?_ (fun hH => ?_)
                            · exact ⟨(B.refl wk).drew.keep s0, (B.refl wk).drew.keep s1, (B.refl wk).drew.keep s2, (B.refl wk).drew.keep s3, (B.refl wk).drew.keep s4, (B.refl wk).drew.keep s5, (B.refl wk).drew.keep s6, (B.refl wk).drew.keep s7, (B.refl wk).drew⟩
                            refine wpSeqG_free (d := 93) (v := ?_) rfl rfl (by kernel_rfl) (fun w => ?_) ?_
                            rotate_left
                            · go_simp <;> with_reducible rfl
                            dsimp only [List.set_cons_zero, List.set_cons_succ]
                            refine wpSeqG_free (d := 94) (v := ?_) rfl rfl (by kernel_rfl) (fun w => ?_) ?_
                            rotate_left
                            · go_simp <;> with_reducible rfl
                            dsimp only [List.set_cons_zero, List.set_cons_succ]
                            refine wpSeqG_free (d := 95) (v := ?_) rfl rfl (by kernel_rfl) (fun w => ?_) ?_
                            rotate_left
                            · go_simp <;> with_reducible rfl
                            dsimp only [List.set_cons_zero, List.set_cons_succ]
                            refine wpSeqG_free (d := 96) (v := ?_) rfl rfl (by kernel_rfl) (fun w => ?_) ?_
                            rotate_left
                            · go_simp <;> with_reducible rfl
                            dsimp only [List.set_cons_zero, List.set_cons_succ]
                            refine wpSeqG_free (d := 97) (v := ?_) rfl rfl (by kernel_rfl) (fun w => ?_) ?_
                            rotate_left
                            · go_simp <;> with_reducible rfl
                            dsimp only [List.set_cons_zero, List.set_cons_succ]
                            refine wpSeqG_take (d := 98) (v := ?_) rfl rfl (by kernel_rfl) (fun w hS => ?_) ?_
                            rotate_left
                            · go_simp <;> with_reducible rfl
                            dsimp only [List.set_cons_zero, List.set_cons_succ]
                            refine wpSeqG_free (d := 99) (v := ?_) rfl rfl (by kernel_rfl) (fun w => ?_) ?_
                            rotate_left
                            · go_simp <;> with_reducible rfl
                            dsimp only [List.set_cons_zero, List.set_cons_succ]
                            refine wpSeqG_free (d := 100) (v := ?_) rfl rfl (by kernel_rfl) (fun w => ?_) ?_
                            rotate_left
                            · go_simp <;> with_reducible rfl
                            dsimp only [List.set_cons_zero, List.set_cons_succ]
                            refine wpSeqG_free (d := 101) (v := ?_) rfl rfl (by kernel_rfl) (fun w => ?_) ?_
                            rotate_left
                            · go_simp <;> with_reducible rfl
                            dsimp only [List.set_cons_zero, List.set_cons_succ]
                            refine wpSeqG_free (d := 102) (v := ?_) rfl rfl (by kernel_rfl) (fun w => ?_) ?_
                            rotate_left
                            · go_simp <;> with_reducible rfl
                            dsimp only [List.set_cons_zero, List.set_cons_succ]
                            refine wpSeqG_take (d := 103) (v := ?_) rfl rfl (by kernel_rfl) (fun w hS => ?_) ?_
                            rotate_left
                            · go_simp <;> with_reducible rfl
                            dsimp only [List.set_cons_zero, List.set_cons_succ]
                            refine wpSeqG_free (d := 104) (v := ?_) rfl rfl (by kernel_rfl) (fun w => ?_) ?_
                            rotate_left
                            · go_simp <;> with_reducible rfl
                            dsimp only [List.set_cons_zero, List.set_cons_succ]
                            refine wpSeqG_take (d := 105) (v := ?_) rfl rfl (by kernel_rfl) (fun w hS => ?_) ?_
                            rotate_left
                            · go_simp <;> with_reducible rfl
                            dsimp only [List.set_cons_zero, List.set_cons_succ]
                            refine wpSeqG_free (d := 106) (v := ?_) rfl rfl (by kernel_rfl) (fun w => ?_) ?_
                            rotate_left
                            · go_simp <;> with_reducible rfl
                            dsimp only [List.set_cons_zero, List.set_cons_succ]
                            refine wpSeqG_free (d := 107) (v := ?_) rfl rfl (by kernel_rfl) (fun w => ?_) ?_
                            rotate_left
                            · go_simp <;> with_reducible rfl
                            dsimp only [List.set_cons_zero, List.set_cons_succ]
                            refine wpSeqG_free (d := 108) (v := ?_) rfl rfl (by kernel_rfl) (fun w => ?_) ?_
                            rotate_left
                            · go_simp <;> with_reducible rfl
                            dsimp only [List.set_cons_zero, List.set_cons_succ]
                            refine wpSeqG_free (d := 109) (v := ?_) rfl rfl (by kernel_rfl) (fun w => ?_) ?_
                            rotate_left
                            · go_simp <;> with_reducible rfl
                            dsimp only [List.set_cons_zero, List.set_cons_succ]
                            refine wpSeqG_free (d := 110) (v := ?_) rfl rfl (by kernel_rfl) (fun w => ?_) ?_
                            rotate_left
                            · go_simp <;> with_reducible rfl
                            dsimp only [List.set_cons_zero, List.set_cons_succ]
                            refine wpSeqG_free (d := 111) (v := ?_) rfl rfl (by kernel_rfl) (fun w => ?_) ?_
                            rotate_left
                            · go_simp <;> with_reducible rfl
                            dsimp only [List.set_cons_zero, List.set_cons_succ]
                            refine wpSeqG_free (d := 112) (v := ?_) rfl rfl (by kernel_rfl) (fun w => ?_) ?_
                            rotate_left
                            · go_simp <;> with_reducible rfl
                            dsimp only [List.set_cons_zero, List.set_cons_succ]
                            refine wpSeqG_free (d := 113) (v := ?_) rfl rfl (by kernel_rfl) (fun w => ?_) ?_
                            rotate_left
                            · go_simp <;> with_reducible rfl
                            dsimp only [List.set_cons_zero, List.set_cons_succ]
                            refine wpSeqG_free (d := 114) (v := ?_) rfl rfl (by kernel_rfl) (fun w => ?_) ?_
                            rotate_left
                            · go_simp <;> with_reducible rfl
                            dsimp only [List.set_cons_zero, List.set_cons_succ]
                            refine wpSeqG_free (d := 115) (v := ?_) rfl rfl (by kernel_rfl) (fun w => ?_) ?_
                            rotate_left
                            · go_simp <;> with_reducible rfl
                            dsimp only [List.set_cons_zero, List.set_cons_succ]
                            refine wpSeqG_free (d := 116) (v := ?_) rfl rfl (by kernel_rfl) (fun w => ?_) ?_
                            rotate_left
                            · go_simp <;> with_reducible rfl
                            dsimp only [List.set_cons_zero, List.set_cons_succ]
                            refine wpSeqG_free (d := 117) (v := ?_) rfl rfl (by kernel_rfl) (fun w => ?_) ?_
                            rotate_left
                            · go_simp <;> with_reducible rfl
                            dsimp only [List.set_cons_zero, List.set_cons_succ]
                            refine wpSeqG_take (d := 118) (v := ?_) rfl rfl (by kernel_rfl) (fun w hS => ?_) ?_
                            rotate_left
                            · go_simp <;> with_reducible rfl
                            dsimp only [List.set_cons_zero, List.set_cons_succ]
                            refine wpSeqG_free (d := 119) (v := ?_) rfl rfl (by kernel_rfl) (fun w => ?_) ?_
                            rotate_left
                            · go_simp <;> with_reducible rfl
                            dsimp only [List.set_cons_zero, List.set_cons_succ]
                            refine wpSeqG_free (d := 120) (v := ?_) rfl rfl (by kernel_rfl) (fun w => ?_) ?_
                            rotate_left
                            · go_simp <;> with_reducible rfl
                            dsimp only [List.set_cons_zero, List.set_cons_succ]
                            refine wpSeqG_free (d := 121) (v := ?_) rfl rfl (by kernel_rfl) (fun w => ?_) ?_
                            rotate_left
                            · go_simp <;> with_reducible rfl
                            dsimp only [List.set_cons_zero, List.set_cons_succ]
                            refine wpSeqG_free (d := 122) (v := ?_) rfl rfl (by kernel_rfl) (fun w => ?_) ?_
                            rotate_left
                            · go_simp <;> with_reducible rfl
                            dsimp only [List.set_cons_zero, List.set_cons_succ]
                            refine wpSeqG_call rfl (by kernel_rfl) (fun K hK => ?_)
                            go_simp
                            refine hK.out _ _ ?_ (fun hH => ?_)
                            · exact ⟨((B.refl _).alloc _ _).keep (hH.1), ((B.refl _).alloc _ _).keep (hH.2.1), ((B.refl _).alloc _ _).keep (hH.2.2.1), ((B.refl _).alloc _ _).keep (hH.2.2.2.1), ((B.refl _).alloc _ _).keep (hH.2.2.2.2.1), ((B.refl _).alloc _ _).keep (hH.2.2.2.2.2.1), ((B.refl _).alloc _ _).keep (hH.2.2.2.2.2.2.1), ((B.refl _).alloc _ _).keep (hH.2.2.2.2.2.2.2.1), (hH.2.2.2.2.2.2.2.2).alloc _ _⟩
                            clear hK
                            refine wpSeqG_gate rfl (by kernel_rfl) (fun K hK => ?_)
                            have qa9 : B wk (wk.alloc (.cells #[.string an, .int .i64 ar, .int .i64 ac9, .string bn9, .int .i64 br, .int .i64 bc9, .int .i64 V, .string tip, .bool true] 52)).drew := ((B.refl wk).alloc _ _).drew
                            have own9 := own_keepBx HX.out.2.1 qa9
                            refine wp_append_lies _ _ _ 29 rfl w.heap.size 52 i0 _ 9 96 Try.underlying29 hi0 hz0 hz1 hz2 rfl (by omega) (.slice (some ⟨og, 0, none⟩) A lc) A (flatOp ops) rfl own9 ⟨wk.heap.size, 0, none⟩ 1 1 [.string an, .int .i64 ar, .int .i64 ac9, .string bn9, .int .i64 br, .int .i64 bc9, .int .i64 V, .string tip, .bool true] rfl rfl (fun j u hj => (B.refl _).drew.keep (newest rfl j u hj)) (fun u hu => by simp only [List.mem_cons, List.not_mem_nil, or_false] at hu; rcases hu with rfl | rfl | rfl | rfl | rfl | rfl | rfl | rfl | rfl <;> rfl) (by omega) (by unfold maxLen; omega) (by omega) (by have := HX.out.2.2.2.1; have := qa9.below.size; omega) _ rfl ?_
                            intro g1 c1 W4 hown4 hgrow4 hat4 hlt4
                            have hT4 := ((Tn.refl kO w.heap.size wk).trans (qa9.tn _ _)).appended own9 hgrow4 (Nat.le_refl _) (by simp [kO])
                            have hf4 := far_row (own_keepBx HX.out.2.2.1 qa9) own9 hgrow4 (by decide)
                            clear hgrow4 hat4 hlt4
                            have HW4 := Lib.hid (And.intro hown4 (And.intro hT4 hf4))
                            clear hown4 hT4 hf4 qa9 own9
                            try simp only [Act.put, List.setIfInBounds_toArray, List.set_cons_zero, List.set_cons_succ]
                            refine hK.out _ _ ?_
                            clear hK
                            refine wpSeqG_free (d := 8) (v := ?_) rfl rfl (by kernel_rfl) (fun w => ?_) ?_
                            rotate_left
                            · go_simp <;> with_reducible rfl
                            dsimp only [List.set_cons_zero, List.set_cons_succ]
                            refine wpSeqG_done ?_
                            refine NoPanic.normal ?_
                            have hrow4 : W4.ownsRow w.heap.size 52 9 (.slice (some ⟨g1, 0, none⟩) (A + 1) c1) (A + 1) (flatOp (ops ++ [⟨⟨an, ar, ac9⟩, ⟨bn9, br, bc9⟩, V, tip, true⟩])) := by rw [flatOp_snoc]; exact HW4.out.1
                            have HV4 := Lib.hid (And.intro hrow4 (And.intro HW4.out.2.2 HW4.out.2.1))
                            clear hrow4
                            obtain ⟨w44, rfl⟩ : ∃ w44 : World, w44 = W4 := ⟨_, rfl⟩
                            have hz4 := HV4.out.2.2.size
                            have hzk := HX.out.2.2.2.1
                            go_wp2_with (at_builtin; refine wpList_append_lies _ rfl _ _ 30 rfl w.heap.size 3 j0 _ 1 8 Try.underlying30 hj0 hy0 hy1 hy2 rfl (by omega) (.slice fo A fc) A (flatL fs) rfl (own_keepBx HV4.out.2.1 ((B.refl w44).alloc #[.int .i64 (i : Int)] 3)) ⟨_, 0, none⟩ 1 1 [.int .i64 (i : Int)] rfl rfl (newest (by simp)) (fun u hu => by simp only [List.mem_cons, List.not_mem_nil, or_false] at hu; subst hu; rfl) (by omega) (by unfold maxLen; omega) (by omega) (by have := ((B.refl w44).alloc #[.int .i64 (i : Int)] 3).below.size; omega) _ rfl ?_; intro g5 c5 W5 hown5 hgrow5 hat5 hlt5; have hT5 := (((B.refl w44).alloc #[.int .i64 (i : Int)] 3).tn kO w.heap.size).appended (own_keepBx HV4.out.2.1 ((B.refl w44).alloc #[.int .i64 (i : Int)] 3)) hgrow5 (Nat.le_refl _) (by simp [kO]); have hO5 := far_row (own_keepBx HV4.out.1 ((B.refl w44).alloc #[.int .i64 (i : Int)] 3)) (own_keepBx HV4.out.2.1 ((B.refl w44).alloc #[.int .i64 (i : Int)] 3)) hgrow5 (by decide); have HW5 := Lib.hid (And.intro hown5 (And.intro hO5 (HV4.out.2.2.trans hT5))); clear hown5 hgrow5 hat5 hlt5 hT5 hO5; go_wp2_with fail)
                            go_roundw
                            case rel => exact ⟨k + 1, A + 1, ops ++ [⟨⟨an, ar, ac9⟩, ⟨bn9, br, bc9⟩, V, tip, true⟩], some ⟨g1, 0, none⟩, c1, some ⟨g5, 0, none⟩, c5, fs ++ [(i : Int)], by have := HX.out.1.1; omega, by go_num, by rw [List.length_append, HX.out.1.2.2.1]; rfl, by rw [List.length_append, HX.out.1.2.2.2]; rfl, rfl, rfl, HN.out, by have := HX.out.1.1; have := HX.out.1.2.1; omega, HW5.out.2.1, by unfold flatL; rw [List.map_append]; exact HW5.out.1, HX.out.2.2.2.2.trans HW5.out.2.2⟩
                            case measure => have := HX.out.1.1; simp [intOf]; omega
                          · have HN := HN false
                            go_wp2_with fail
                            refine wp_region_noPanic ?_
                            refine wp_region_gate (S := fun w' => w'.cell? ⟨pg, k * 6, none⟩ = some (.string an) ∧ w'.cell? ⟨pg, k * 6 + 1, none⟩ = some (.int .i64 ar) ∧ w'.cell? ⟨pg, k * 6 + 2, none⟩ = some (.int .i64 ac9) ∧ w'.cell? ⟨pg, k * 6 + 3, none⟩ = some (.string bn9) ∧ w'.cell? ⟨pg, k * 6 + 4, none⟩ = some (.int .i64 br) ∧ w'.cell? ⟨pg, k * 6 + 5, none⟩ = some (.int .i64 bc9) ∧ w'.cell? ⟨X, 3, none⟩ = some (.int .i64 V) ∧ w'.cell? ⟨og, a1 * 9 + 7, none⟩ = some (.string ltip) ∧ B wk w') 31 [(0, 3), (1, 3), (2, 3), (3, 3), (4, 3), (5, 0), (6, 3), (7, 3), (8, 3), (9, 3), (10, 0), (11, 3), (12, 0), (13, 3), (14, 3), (15, 3), (16, 3), (17, 3), (18, 3), (19, 3), (20, 3), (21, 3), (22, 3), (23, 3), (24, 3), (25, 0), (26, 3), (27, 3), (28, 3), (29, 3), (30, 2), (31, 4), (32, 3)] [0, 0, 0, 6, 8, 16, 0, 0, 192, 256, 512, 0, 2048, 0, 0, 16384, 32768, 98304, 163840, 294912, 524288, 524288, 2621440, 5767168, 8912896, 17301504, 524288, 101187584, 134742016, 268448800, 536870912, 1074266113, 4294967295] [0, 0, 0, 6, 8, 16, 0, 0, 192, 256, 512, 0, 2048, 0, 0, 16384, 32768, 98304, 163840, 262144, 524288, 524288, 2621440, 5767168, 8912896, 17301504, 524288, 101187584, 134742016, 268448800, 536870912, 1073741825, 2148532225] [0, 0, 0, 0, 0, 8053063712, 0, 0, 0, 0, 8053064704, 0, 8053067776, 0, 0, 0, 0, 0, 0, 0, 0, 0, 0, 0, 0, 8489271296, 0, 0, 0, 0, 0, 0, 0] (by kernel_rfl) (by kernel_rfl) (fun _ _ _ _ _ h => h) ?_ (fun hH => ?_)
                            · exact ⟨(B.refl wk).drew.keep s0, (B.refl wk).drew.keep s1, (B.refl wk).drew.keep s2, (B.refl wk).drew.keep s3, (B.refl wk).drew.keep s4, (B.refl wk).drew.keep s5, (B.refl wk).drew.keep s6, (B.refl wk).drew.keep s7, (B.refl wk).drew⟩
                            refine wpSeqG_free (d := 93) (v := ?_) rfl rfl (by kernel_rfl) (fun w => ?_) ?_
                            rotate_left
                            · go_simp <;> with_reducible rfl
                            dsimp only [List.set_cons_zero, List.set_cons_succ]
                            refine wpSeqG_free (d := 94) (v := ?_) rfl rfl (by kernel_rfl) (fun w => ?_) ?_
                            rotate_left
                            · go_simp <;> with_reducible rfl
                            dsimp only [List.set_cons_zero, List.set_cons_succ]
                            refine wpSeqG_free (d := 95) (v := ?_) rfl rfl (by kernel_rfl) (fun w => ?_) ?_
                            rotate_left
                            · go_simp <;> with_reducible rfl
                            dsimp only [List.set_cons_zero, List.set_cons_succ]
                            refine wpSeqG_free (d := 96) (v := ?_) rfl rfl (by kernel_rfl) (fun w => ?_) ?_
                            rotate_left
                            · go_simp <;> with_reducible rfl
                            dsimp only [List.set_cons_zero, List.set_cons_succ]
                            refine wpSeqG_free (d := 97) (v := ?_) rfl rfl (by kernel_rfl) (fun w => ?_) ?_
                            rotate_left
                            · go_simp <;> with_reducible rfl
                            dsimp only [List.set_cons_zero, List.set_cons_succ]
                            refine wpSeqG_take (d := 98) (v := ?_) rfl rfl (by kernel_rfl) (fun w hS => ?_) ?_
                            rotate_left
                            · go_simp <;> with_reducible rfl
                            dsimp only [List.set_cons_zero, List.set_cons_succ]
                            refine wpSeqG_free (d := 99) (v := ?_) rfl rfl (by kernel_rfl) (fun w => ?_) ?_
                            rotate_left
                            · go_simp <;> with_reducible rfl
                            dsimp only [List.set_cons_zero, List.set_cons_succ]
                            refine wpSeqG_free (d := 100) (v := ?_) rfl rfl (by kernel_rfl) (fun w => ?_) ?_
                            rotate_left
                            · go_simp <;> with_reducible rfl
                            dsimp only [List.set_cons_zero, List.set_cons_succ]
                            refine wpSeqG_free (d := 101) (v := ?_) rfl rfl (by kernel_rfl) (fun w => ?_) ?_
                            rotate_left
                            · go_simp <;> with_reducible rfl
                            dsimp only [List.set_cons_zero, List.set_cons_succ]
                            refine wpSeqG_free (d := 102) (v := ?_) rfl rfl (by kernel_rfl) (fun w => ?_) ?_
                            rotate_left
                            · go_simp <;> with_reducible rfl
                            dsimp only [List.set_cons_zero, List.set_cons_succ]
                            refine wpSeqG_take (d := 103) (v := ?_) rfl rfl (by kernel_rfl) (fun w hS => ?_) ?_
                            rotate_left
                            · go_simp <;> with_reducible rfl
                            dsimp only [List.set_cons_zero, List.set_cons_succ]
                            refine wpSeqG_free (d := 104) (v := ?_) rfl rfl (by kernel_rfl) (fun w => ?_) ?_
                            rotate_left
                            · go_simp <;> with_reducible rfl
                            dsimp only [List.set_cons_zero, List.set_cons_succ]
                            refine wpSeqG_take (d := 105) (v := ?_) rfl rfl (by kernel_rfl) (fun w hS => ?_) ?_
                            rotate_left
                            · go_simp <;> with_reducible rfl
                            dsimp only [List.set_cons_zero, List.set_cons_succ]
                            refine wpSeqG_free (d := 106) (v := ?_) rfl rfl (by kernel_rfl) (fun w => ?_) ?_
                            rotate_left
                            · go_simp <;> with_reducible rfl
                            dsimp only [List.set_cons_zero, List.set_cons_succ]
                            refine wpSeqG_free (d := 107) (v := ?_) rfl rfl (by kernel_rfl) (fun w => ?_) ?_
                            rotate_left
                            · go_simp <;> with_reducible rfl
                            dsimp only [List.set_cons_zero, List.set_cons_succ]
                            refine wpSeqG_free (d := 108) (v := ?_) rfl rfl (by kernel_rfl) (fun w => ?_) ?_
                            rotate_left
                            · go_simp <;> with_reducible rfl
                            dsimp only [List.set_cons_zero, List.set_cons_succ]
                            refine wpSeqG_free (d := 109) (v := ?_) rfl rfl (by kernel_rfl) (fun w => ?_) ?_
                            rotate_left
                            · go_simp <;> with_reducible rfl
                            dsimp only [List.set_cons_zero, List.set_cons_succ]
                            refine wpSeqG_free (d := 110) (v := ?_) rfl rfl (by kernel_rfl) (fun w => ?_) ?_
                            rotate_left
                            · go_simp <;> with_reducible rfl
                            dsimp only [List.set_cons_zero, List.set_cons_succ]
                            refine wpSeqG_free (d := 111) (v := ?_) rfl rfl (by kernel_rfl) (fun w => ?_) ?_
                            rotate_left
                            · go_simp <;> with_reducible rfl
                            dsimp only [List.set_cons_zero, List.set_cons_succ]
                            refine wpSeqG_free (d := 112) (v := ?_) rfl rfl (by kernel_rfl) (fun w => ?_) ?_
                            rotate_left
                            · go_simp <;> with_reducible rfl
                            dsimp only [List.set_cons_zero, List.set_cons_succ]
                            refine wpSeqG_free (d := 113) (v := ?_) rfl rfl (by kernel_rfl) (fun w => ?_) ?_
                            rotate_left
                            · go_simp <;> with_reducible rfl
                            dsimp only [List.set_cons_zero, List.set_cons_succ]
                            refine wpSeqG_free (d := 114) (v := ?_) rfl rfl (by kernel_rfl) (fun w => ?_) ?_
                            rotate_left
                            · go_simp <;> with_reducible rfl
                            dsimp only [List.set_cons_zero, List.set_cons_succ]
                            refine wpSeqG_free (d := 115) (v := ?_) rfl rfl (by kernel_rfl) (fun w => ?_) ?_
                            rotate_left
                            · go_simp <;> with_reducible rfl
                            dsimp only [List.set_cons_zero, List.set_cons_succ]
                            refine wpSeqG_free (d := 116) (v := ?_) rfl rfl (by kernel_rfl) (fun w => ?_) ?_
                            rotate_left
                            · go_simp <;> with_reducible rfl
                            dsimp only [List.set_cons_zero, List.set_cons_succ]
                            refine wpSeqG_free (d := 117) (v := ?_) rfl rfl (by kernel_rfl) (fun w => ?_) ?_
                            rotate_left
                            · go_simp <;> with_reducible rfl
                            dsimp only [List.set_cons_zero, List.set_cons_succ]
                            refine wpSeqG_take (d := 118) (v := ?_) rfl rfl (by kernel_rfl) (fun w hS => ?_) ?_
                            rotate_left
                            · go_simp <;> with_reducible rfl
                            dsimp only [List.set_cons_zero, List.set_cons_succ]
                            refine wpSeqG_free (d := 119) (v := ?_) rfl rfl (by kernel_rfl) (fun w => ?_) ?_
                            rotate_left
                            · go_simp <;> with_reducible rfl
                            dsimp only [List.set_cons_zero, List.set_cons_succ]
                            refine wpSeqG_free (d := 120) (v := ?_) rfl rfl (by kernel_rfl) (fun w => ?_) ?_
                            rotate_left
                            · go_simp <;> with_reducible rfl
                            dsimp only [List.set_cons_zero, List.set_cons_succ]
                            refine wpSeqG_free (d := 121) (v := ?_) rfl rfl (by kernel_rfl) (fun w => ?_) ?_
                            rotate_left
                            · go_simp <;> with_reducible rfl
                            dsimp only [List.set_cons_zero, List.set_cons_succ]
                            refine wpSeqG_free (d := 122) (v := ?_) rfl rfl (by kernel_rfl) (fun w => ?_) ?_
                            rotate_left
                            · go_simp <;> with_reducible rfl
                            dsimp only [List.set_cons_zero, List.set_cons_succ]
                            refine wpSeqG_call rfl (by kernel_rfl) (fun K hK => ?_)
                            go_simp
                            refine hK.out _ _ ?_ (fun hH => ?_)
                            · exact ⟨((B.refl _).alloc _ _).keep (hH.1), ((B.refl _).alloc _ _).keep (hH.2.1), ((B.refl _).alloc _ _).keep (hH.2.2.1), ((B.refl _).alloc _ _).keep (hH.2.2.2.1), ((B.refl _).alloc _ _).keep (hH.2.2.2.2.1), ((B.refl _).alloc _ _).keep (hH.2.2.2.2.2.1), ((B.refl _).alloc _ _).keep (hH.2.2.2.2.2.2.1), ((B.refl _).alloc _ _).keep (hH.2.2.2.2.2.2.2.1), (hH.2.2.2.2.2.2.2.2).alloc _ _⟩
                            clear hK
                            refine wpSeqG_gate rfl (by kernel_rfl) (fun K hK => ?_)
                            have qa9 : B wk (wk.alloc (.cells #[.string an, .int .i64 ar, .int .i64 ac9, .string bn9, .int .i64 br, .int .i64 bc9, .int .i64 V, .string tip, .bool false] 52)).drew := ((B.refl wk).alloc _ _).drew
                            have own9 := own_keepBx HX.out.2.1 qa9
                            refine wp_append_lies _ _ _ 29 rfl w.heap.size 52 i0 _ 9 96 Try.underlying29 hi0 hz0 hz1 hz2 rfl (by omega) (.slice (some ⟨og, 0, none⟩) A lc) A (flatOp ops) rfl own9 ⟨wk.heap.size, 0, none⟩ 1 1 [.string an, .int .i64 ar, .int .i64 ac9, .string bn9, .int .i64 br, .int .i64 bc9, .int .i64 V, .string tip, .bool false] rfl rfl (fun j u hj => (B.refl _).drew.keep (newest rfl j u hj)) (fun u hu => by simp only [List.mem_cons, List.not_mem_nil, or_false] at hu; rcases hu with rfl | rfl | rfl | rfl | rfl | rfl | rfl | rfl | rfl <;> rfl) (by omega) (by unfold maxLen; omega) (by omega) (by have := HX.out.2.2.2.1; have := qa9.below.size; omega) _ rfl ?_
                            intro g1 c1 W4 hown4 hgrow4 hat4 hlt4
                            have hT4 := ((Tn.refl kO w.heap.size wk).trans (qa9.tn _ _)).appended own9 hgrow4 (Nat.le_refl _) (by simp [kO])
                            have hf4 := far_row (own_keepBx HX.out.2.2.1 qa9) own9 hgrow4 (by decide)
                            clear hgrow4 hat4 hlt4
                            have HW4 := Lib.hid (And.intro hown4 (And.intro hT4 hf4))
                            clear hown4 hT4 hf4 qa9 own9
                            try simp only [Act.put, List.setIfInBounds_toArray, List.set_cons_zero, List.set_cons_succ]
                            refine hK.out _ _ ?_
                            clear hK
                            refine wpSeqG_free (d := 8) (v := ?_) rfl rfl (by kernel_rfl) (fun w => ?_) ?_
                            rotate_left
                            · go_simp <;> with_reducible rfl
                            dsimp only [List.set_cons_zero, List.set_cons_succ]
                            refine wpSeqG_done ?_
                            refine NoPanic.normal ?_
                            have hrow4 : W4.ownsRow w.heap.size 52 9 (.slice (some ⟨g1, 0, none⟩) (A + 1) c1) (A + 1) (flatOp (ops ++ [⟨⟨an, ar, ac9⟩, ⟨bn9, br, bc9⟩, V, tip, false⟩])) := by rw [flatOp_snoc]; exact HW4.out.1
                            have HV4 := Lib.hid (And.intro hrow4 (And.intro HW4.out.2.2 HW4.out.2.1))
                            clear hrow4
                            obtain ⟨w44, rfl⟩ : ∃ w44 : World, w44 = W4 := ⟨_, rfl⟩
                            have hz4 := HV4.out.2.2.size
                            have hzk := HX.out.2.2.2.1
                            go_wp2_with (at_builtin; refine wpList_append_lies _ rfl _ _ 30 rfl w.heap.size 3 j0 _ 1 8 Try.underlying30 hj0 hy0 hy1 hy2 rfl (by omega) (.slice fo A fc) A (flatL fs) rfl (own_keepBx HV4.out.2.1 ((B.refl w44).alloc #[.int .i64 (i : Int)] 3)) ⟨_, 0, none⟩ 1 1 [.int .i64 (i : Int)] rfl rfl (newest (by simp)) (fun u hu => by simp only [List.mem_cons, List.not_mem_nil, or_false] at hu; subst hu; rfl) (by omega) (by unfold maxLen; omega) (by omega) (by have := ((B.refl w44).alloc #[.int .i64 (i : Int)] 3).below.size; omega) _ rfl ?_; intro g5 c5 W5 hown5 hgrow5 hat5 hlt5; have hT5 := (((B.refl w44).alloc #[.int .i64 (i : Int)] 3).tn kO w.heap.size).appended (own_keepBx HV4.out.2.1 ((B.refl w44).alloc #[.int .i64 (i : Int)] 3)) hgrow5 (Nat.le_refl _) (by simp [kO]); have hO5 := far_row (own_keepBx HV4.out.1 ((B.refl w44).alloc #[.int .i64 (i : Int)] 3)) (own_keepBx HV4.out.2.1 ((B.refl w44).alloc #[.int .i64 (i : Int)] 3)) hgrow5 (by decide); have HW5 := Lib.hid (And.intro hown5 (And.intro hO5 (HV4.out.2.2.trans hT5))); clear hown5 hgrow5 hat5 hlt5 hT5 hO5; go_wp2_with fail)
                            go_roundw
                            case rel => exact ⟨k + 1, A + 1, ops ++ [⟨⟨an, ar, ac9⟩, ⟨bn9, br, bc9⟩, V, tip, false⟩], some ⟨g1, 0, none⟩, c1, some ⟨g5, 0, none⟩, c5, fs ++ [(i : Int)], by have := HX.out.1.1; omega, by go_num, by rw [List.length_append, HX.out.1.2.2.1]; rfl, by rw [List.length_append, HX.out.1.2.2.2]; rfl, rfl, rfl, HN.out, by have := HX.out.1.1; have := HX.out.1.2.1; omega, HW5.out.2.1, by unfold flatL; rw [List.map_append]; exact HW5.out.1, HX.out.2.2.2.2.trans HW5.out.2.2⟩
                            case measure => have := HX.out.1.1; simp [intOf]; omega
                    · have hkB : decide ((k : Int) < (pn : Int)) = false := decide_eq_false (by omega)
                      have hkN : decide (k < pn) = false := decide_eq_false hkl
                      have HZ := Lib.hid (And.intro hA1 (And.intro hA2 (And.intro hOI (And.intro (show A ≤ 1000 by have := HT.out.1; have := HT.out.2; omega) (And.intro hro (And.intro hrf (tk.toB HP5.out.2.2.2.2.2.1 (Nat.le_refl _))))))))
                      clear hkl hk hA1 hA2 hOI hAk hro hrf tk
                      go_wp2
                      go_roundw
                      case rel => exact ⟨i + 1, A, ops, lo, lc, fo, fc, fs, tip, each, by have := HXo.out.1.1; omega, by go_num, HZ.out.1, HZ.out.2.1, rfl, rfl, rfl, rfl, HZ.out.2.2.1, HZ.out.2.2.2.1, HZ.out.2.2.2.2.1, HZ.out.2.2.2.2.2.1, HZ.out.2.2.2.2.2.2⟩
                      case measure => have := HXo.out.1.1; simp [intOf]; omega
                · have tB : decide (1000 < (T : Int)) = true := decide_eq_true (by omega)
                  have tN : decide (1000 < T) = true := decide_eq_true (by omega)
                  have HQ := Lib.hid qw5.2.1
                  clear hpr hPI hpn oX5 qw5 hT hTl x0 x1 x2 x3 x4
                  go_wp2
                  try simp only [Exit.inBlock, Exit.then]
                  refine bodyPost_ret (results_tmp4 rfl _ _ _) rfl ?_
                  exact .inl ⟨i, 27, by omega, rfl, HQ.out⟩
    · have hlB : decide ((i : Int) < (ln : Int)) = false := decide_eq_false (by omega)
      have hlN : decide (i < ln) = false := decide_eq_false hl
      have HZ := Lib.hid (And.intro hA1 (And.intro hro (And.intro hOI (And.intro hA q))))
      clear hl hi hA hA1 hA2 hOI hro hrf q
      go_wp2
      try simp only [Exit.inBlock, Exit.then]
      refine bodyPost_ret (results_tmp4 rfl _ _ _) rfl ?_
      exact .inr ⟨ops, lo, lc, _, by rw [HZ.out.1]; rfl, by rw [HZ.out.1]; exact HZ.out.2.1, HZ.out.2.2.1, by rw [HZ.out.1]; exact HZ.out.2.2.2.1, HZ.out.2.2.2.2⟩
end Go.Proofs.Ytnmcgleanpdlmaa
namespace Go.Proofs.Ytnmcgleanpdlmaa
open Go.RowKit
set_option linter.unusedVariables false

theorem VOk.moves {d : Dk} (hb : ∀ x ∈ d.ws, wareB x) : ∀ (l : List Opx) {v v' : List Int}, VOk (cntD d) v → movesX d l v = .ok v' → VOk (cntD d) v' ∧ v'.sum = v.sum
  | [], v, v', h, hs => by cases hs; exact ⟨h, rfl⟩
  | o :: l, v, v', h, hs => by
    rw [movesX] at hs
    cases hf : moveX d v o with
    | error n => rw [hf] at hs; cases hs
    | ok v1 =>
      rw [hf] at hs
      obtain ⟨h1, e1⟩ := h.move hb hf
      obtain ⟨h2, e2⟩ := VOk.moves hb l h1 hs
      exact ⟨h2, by rw [e2, e1]⟩
theorem take_sum {v : List Int} {i : Nat} {x : Int} (h : v[i]? = some x) : (v.take (i + 1)).sum = (v.take i).sum + x := by
  rw [List.take_add_one, h]
  simp
theorem take_bounds {v : List Int} (hp : ∀ x ∈ v, 0 ≤ x) (i : Nat) : 0 ≤ (v.take i).sum ∧ (v.take i).sum ≤ v.sum := by
  have h1 := sum_pos (v.take i) (fun x hx => hp x (List.mem_of_mem_take hx))
  have h2 := sum_pos (v.drop i) (fun x hx => hp x (List.mem_of_mem_drop hx))
  have h3 : v.sum = (v.take i).sum + (v.drop i).sum := by rw [← List.sum_append, List.take_append_drop]
  omega
set_option maxRecDepth 100000 in
set_option maxHeartbeats 8000000 in
theorem sums14_any (a b c d : Int) (lv : Value) (ll : List Nat) (pv : Value) (ps : List Pz) (ha : 0 ≤ a ∧ a ≤ 255) (hb : 0 ≤ b ∧ b ≤ 255) (hc : 0 ≤ c ∧ c ≤ 255) (hd : 0 ≤ d ∧ d ≤ 255) (w : World) (hU : IsU32s w lv ll) (hP : IsPzs w pv ps) :
    Calls Try.prog 3 #[.int .u8 a, .int .u8 b, .int .u8 c, .int .u8 d, lv, pv] w fun e w' => e = .returned (.bool true) ∧ B w w' := by
  have ck := known14_any w
  have cB := fun h20 w' (q : B w w') => boards14_any a b c d lv ll h20 ha hb hc hd w' (hU.keep q)
  have hPk := fun w' (q : B w w') => hP.keepB q
  obtain ⟨lo, lc, rfl⟩ := hU.form
  obtain ⟨po, pc, rfl⟩ := hP.form
  obtain ⟨ln, hln⟩ : ∃ ln, ll.length = ln := ⟨_, rfl⟩
  obtain ⟨pn, hpn⟩ : ∃ pn, ps.length = pn := ⟨_, rfl⟩
  rw [hln] at cB ⊢
  rw [hpn] at hPk ⊢
  by_cases h20 : ln ≤ 20
  · have hlB : decide (20 < (ln : Int)) = false := decide_eq_false (by omega)
    have hlN : decide (20 < ln) = false := decide_eq_false (by omega)
    by_cases h15 : pn ≤ 15
    · have hpB : decide (15 < (pn : Int)) = false := decide_eq_false (by omega)
      have hpN : decide (15 < pn) = false := decide_eq_false (by omega)
      have hR := seat_right ha hb hc hd ll
      have hl20 : ll.length ≤ 20 := by omega
      obtain ⟨hc2, hc192, hcI⟩ := seat_cnt (a := a) (b := b) (c := c) (d := d) ll ha hb hc hd
      have hwb := seat_wares ha hb hc hd
      have hnm : ∀ x ∈ wares7 a b c d, nameS x.n = true := fun x hx => by
        unfold wares7 at hx
        simp only [List.mem_cons, List.not_mem_nil, or_false] at hx
        rcases hx with rfl | rfl
        · exact nameS_plate
        · exact nameS_tube
      have hst := seat_steps_ok (d := seatD a b c d ll) hwb hnm (show 0 < countW (wares7 a b c d) by omega) (ps := ps) (by omega)
      obtain ⟨nn, hnn⟩ : ∃ nn, cntD (seatD a b c d ll) = nn := ⟨_, rfl⟩
      obtain ⟨v0, hv0, hF0⟩ := first_fills hR
      have one := none_run hv0
      have hfst := fun L => srun_first hv0 [] L
      have hsm := cnt_small (d := seatD a b c d ll) hwb (by show 2 ≤ 100; omega)
      have hmv := fun L v' h => VOk.moves (d := seatD a b c d ll) hwb L hF0.v (v' := v') h
      have hV0 := hF0.v
      rw [hnn] at hc2 hc192 hcI hsm hV0 hmv
      have hc0 : 0 < countW (wares7 a b c d) := by omega
      have hc1 : countW (wares7 a b c d) ≤ 9600 := by omega
      have cB1 := cB (by omega)
      have HN := Lib.hid (And.intro hnn (And.intro hc2 (And.intro hc192 hsm)))
      have HV := Lib.hid (And.intro one (And.intro hfst (And.intro hmv hV0)))
      have HS := Lib.hid hst.1
      have hp16 : ps.length ≤ 1000 := by omega
      clear cB hU hP hln hpn hF0 hv0 one hfst hmv hV0 hst hcI hnm hR hnn hc2 hc192 hsm
      go_enter Try.func3, Try.ntmps3
      go_wp2_with fail
      refine ck.mono ?_
      rintro e w0 ⟨rfl, q0⟩
      go_wp2_with fail
      refine (cB1 _ q0).mono ?_
      rintro e w1 ⟨P, X, rb, wv, tv, fv, rfl, hPd, hM, hDk, hRb, q1⟩
      have q01 := q0.trans q1
      have cS := steps_any wv tv fv _ (seatD a b c d ll) ps w1 hDk (hPk w1 q01) hwb (by show 2 ≤ 100; omega) hc0 hc1 hp16
      have cO := fun w' (q : B w1 w') sv hS => r11ops_any (seatD a b c d ll) rb wv tv fv sv (seatSteps (seatD a b c d ll) ps) HS.out hwb (by show 2 ≤ 100; omega) w' (hRb.keepB q) (hDk.keepB q) hS
      have c1 := fun w' (q : B w1 w') => srun_any _ hPd w' (hM.keepB q) (seat_fs hl20) (.slice none 0 0) [] (isFls_nil _) flsI_nil (by simp) (.slice none 0 0) [] (isOps_nil _) opsI_nil
      have c2 := fun w' (q : B w1 w') lv L hL hI => srun_any _ hPd w' (hM.keepB q) (seat_fs hl20) (.slice none 0 0) [] (isFls_nil _) flsI_nil (by simp) lv L hL hI
      have oB : ∃ gw cw gt ct, w1.heap[rb]? = some (.cells #[wv, tv, fv, .slice gw (seatD a b c d ll).ws.length cw, .slice gt (seatD a b c d ll).ts.length ct] 42 (0, 0)) := by
        obtain ⟨gw, cw, gt, ct, h, _⟩ := hRb
        exact ⟨gw, cw, gt, ct, h⟩
      obtain ⟨gw, cw, gt, ct, oB⟩ := oB
      have HV2 := HV
      obtain ⟨ao, ac, bo, bc, co, cc, rfl, rfl, rfl⟩ := hDk.forms
      generalize seatSteps (seatD a b c d ll) ps = SS at *
      generalize seatD a b c d ll = D9 at *
      generalize D9.ws.length = n1 at *
      generalize D9.ts.length = n2 at *
      generalize D9.fs.length = n3 at *
      have k0 := obj_cell oB 0
      have k1 := obj_cell oB 1
      have k2 := obj_cell oB 2
      have HP := Lib.hid q01
      generalize P.b = pb at *
      clear hM cB1 q0 q1 q01 hDk hPd oB hRb hwb hc0 hc1 hPk
      go_wp2_with fail
      refine cS.mono ?_
      rintro e w2 ⟨sv, rfl, hS, q2⟩
      have cO2 := cO w2 q2 sv hS
      have HQ2 := Lib.hid q2
      clear cS cO hS q2 k0 k1 k2
      go_wp2_with fail
      refine cO2.mono ?_
      rintro e w3 (⟨i, n, hn1, rfl, q3⟩ | ⟨ops, oo, oc, s2, rfl, hrow, hOI, hol, q3⟩)
      · have en : ((n : Int) != 0) = true := by simp; omega
        have HZ := Lib.hid (HP.out.trans (HQ2.out.trans q3))
        clear cO2 q3 hn1 c1 c2
        go_wp2
        try simp only [Exit.inBlock, Exit.then]
        go_ret
        exact ⟨rfl, HZ.out⟩
      · have q13 := HQ2.out.trans q3
        have hIs := isOps_own hrow rfl
        obtain ⟨on, hon⟩ : ∃ on, ops.length = on := ⟨_, rfl⟩
        rw [hon] at hIs ⊢
        have HO := Lib.hid (And.intro hIs hOI)
        clear cO2 q3 hrow hOI hol hon hIs
        go_wp2_with fail
        refine Calls.mono (c1 _ q13) ?_
        rintro e w4 hR
        obtain ⟨g1, rfl, r1, q4⟩ := hR.okd HV.out.1
        rw [HN.out.1] at r1 ⊢
        have q14 := q13.trans q4
        have cc := c2 _ q14 _ _ (HO.out.1.keepB q4) HO.out.2
        clear hR c1 q13 q4 c2
        go_wp2_with fail
        refine Calls.mono cc ?_
        rintro e w5 hR
        have hs := HV.out.2.1 ops
        rw [fillsX] at hs
        simp only at hs
        cases hx : movesX D9 ops v0 with
        | error n =>
          rw [hx] at hs
          have hn1 : 1 ≤ n := by
            rcases hR with ⟨n', h1, h2, _⟩ | ⟨v', g, h1, _⟩
            · rw [hs] at h1; cases h1; exact h2
            · rw [hs] at h1; cases h1
          obtain ⟨rfl, q5⟩ := hR.erd hs
          have en : ((n : Int) != 0) = true := by simp; omega
          have HZ := Lib.hid (HP.out.trans (q14.trans q5))
          clear hs hx hn1 cc q5 q14 r1
          go_wp2
          try simp only [Exit.inBlock, Exit.then]
          go_ret
          exact ⟨rfl, HZ.out⟩
        | ok v =>
          rw [hx] at hs
          obtain ⟨hVO, hsum⟩ := HV.out.2.2.1 ops v hx
          obtain ⟨g2, rfl, r2, q5⟩ := hR.okd hs
          rw [HN.out.1] at r2 ⊢
          have r15 := r1.keep q5
          have HW := Lib.hid (And.intro (q14.trans q5) (And.intro r15 (And.intro r2 (And.intro hVO hsum))))
          clear hs hx hR cc q5 q14 r1 r2 r15 hVO hsum
          go_wp2_with fail
          go_loopw [24, 26] (fun nv iv wr => ∃ i : Nat, i ≤ nn ∧ nv = .int .i64 (v0.take i).sum ∧ iv = .int .i64 i ∧ B w5 wr) (fun _ iv _ => nn + 1 - (intOf iv).toNat)
          case atStart => exact ⟨0, Nat.zero_le _, rfl, rfl, B.refl _⟩
          case round =>
            obtain ⟨i, hi, rfl, rfl, qr⟩ := hrel
            obtain ⟨wl, rfl⟩ : ∃ wl : World, wl = wr := ⟨_, rfl⟩
            by_cases hl : i < nn
            · have hiB : decide ((i : Int) < (nn : Int)) = true := decide_eq_true (by omega)
              have hiN : decide (i < nn) = true := decide_eq_true hl
              have hiI : (i : Int) < (nn : Int) := by omega
              have hi0 : (0 : Int) ≤ (i : Int) := by omega
              have wk1 : IntKind.i64.wrap ((i : Int) + 1) = (i : Int) + 1 := by have := HN.out.2.2.1; rw [IntKind.wrap_i64]; omega
              obtain ⟨_, u1, y0, _⟩ := (HW.out.2.1.keep qr).at_ hl
              have tk := take_sum u1
              have b0 := take_bounds HV.out.2.2.2.pos i
              have b1 := take_bounds HV.out.2.2.2.pos (i + 1)
              have b2 := HV.out.2.2.2.sum
              have b3 := HN.out.2.2.2
              generalize v0.getD i 0 = z at *
              obtain ⟨S0, hS0⟩ : ∃ S0, (v0.take i).sum = S0 := ⟨_, rfl⟩
              rw [hS0] at tk b0 ⊢
              obtain ⟨S1, hS1⟩ : ∃ S1, S0 + z = S1 := ⟨_, rfl⟩
              have wk2 : IntKind.i64.wrap (S0 + z) = S1 := by rw [IntKind.wrap_i64]; omega
              rw [hS1] at tk
              have HX := Lib.hid (And.intro tk (And.intro hl qr))
              clear tk b0 b1 b2 b3 hS0 hS1 u1 hl hi qr
              go_wp2
              go_roundw
              case rel => exact ⟨i + 1, by have := HX.out.2.1; omega, by rw [HX.out.1], by go_num, HX.out.2.2⟩
              case measure => have := HX.out.2.1; simp [intOf]; omega
            · have hiB : decide ((i : Int) < (nn : Int)) = false := decide_eq_false (by omega)
              have hiN : decide (i < nn) = false := decide_eq_false hl
              obtain rfl : i = nn := by omega
              rw [List.take_of_length_le (by rw [HV.out.2.2.2.len]; exact Nat.le_refl _)]
              obtain ⟨SX, hSX⟩ : ∃ SX, v0.sum = SX := ⟨_, rfl⟩
              rw [hSX]
              have HSX := Lib.hid hSX
              have HQ := Lib.hid qr
              clear hl hi qr hSX
              go_wp2_with fail
              go_loopw [25, 27] (fun nv iv wr => ∃ j : Nat, j ≤ i ∧ nv = .int .i64 (v.take j).sum ∧ iv = .int .i64 j ∧ B w5 wr) (fun _ iv _ => i + 1 - (intOf iv).toNat)
              case atStart => exact ⟨0, Nat.zero_le _, rfl, rfl, HQ.out⟩
              case round =>
                obtain ⟨j, hj, rfl, rfl, qr⟩ := hrel
                obtain ⟨wl2, rfl⟩ : ∃ wl2 : World, wl2 = wr := ⟨_, rfl⟩
                by_cases hl : j < i
                · have hiB : decide ((j : Int) < (i : Int)) = true := decide_eq_true (by omega)
                  have hiN : decide (j < i) = true := decide_eq_true hl
                  have hiI : (j : Int) < (i : Int) := by omega
                  have hi0 : (0 : Int) ≤ (j : Int) := by omega
                  have wk1 : IntKind.i64.wrap ((j : Int) + 1) = (j : Int) + 1 := by have := HN.out.2.2.1; rw [IntKind.wrap_i64]; omega
                  obtain ⟨_, u1, y0, _⟩ := (HW.out.2.2.1.keep qr).at_ hl
                  have tk := take_sum u1
                  have b0 := take_bounds HW.out.2.2.2.1.pos j
                  have b1 := take_bounds HW.out.2.2.2.1.pos (j + 1)
                  have b2 := HW.out.2.2.2.1.sum
                  have b3 := HN.out.2.2.2
                  have b4 := HW.out.2.2.2.1.pos _ (List.mem_of_getElem? u1)
                  generalize v.getD j 0 = z at *
                  have hz : decide (z < 0) = false := decide_eq_false (by omega)
                  obtain ⟨S0, hS0⟩ : ∃ S0, (v.take j).sum = S0 := ⟨_, rfl⟩
                  rw [hS0] at tk b0 ⊢
                  obtain ⟨S1, hS1⟩ : ∃ S1, S0 + z = S1 := ⟨_, rfl⟩
                  have wk2 : IntKind.i64.wrap (S0 + z) = S1 := by rw [IntKind.wrap_i64]; omega
                  rw [hS1] at tk
                  have HX := Lib.hid (And.intro tk (And.intro hl qr))
                  clear tk b0 b1 b2 b3 b4 hS0 hS1 u1 hl hj qr
                  go_wp2
                  go_roundw
                  case rel => exact ⟨j + 1, by have := HX.out.2.1; omega, by rw [HX.out.1], by go_num, HX.out.2.2⟩
                  case measure => have := HX.out.2.1; simp [intOf]; omega
                · have hiB : decide ((j : Int) < (i : Int)) = false := decide_eq_false (by omega)
                  have hiN : decide (j < i) = false := decide_eq_false hl
                  obtain rfl : j = i := by omega
                  rw [List.take_of_length_le (by rw [HW.out.2.2.2.1.len]; exact Nat.le_refl _)]
                  rw [HW.out.2.2.2.2, HSX.out]
                  have HZ := Lib.hid (HP.out.trans (HW.out.1.trans qr))
                  have e9 : (SX == SX) = true := by simp
                  clear hl hj qr
                  go_wp2
                  try simp only [Exit.inBlock, Exit.then]
                  go_ret
                  exact ⟨by first | rfl | simp, HZ.out⟩
    · have hpB : decide (15 < (pn : Int)) = true := decide_eq_true (by omega)
      have hpN : decide (15 < pn) = true := decide_eq_true (by omega)
      clear cB hU hP hPk hln hpn
      go_enter Try.func3, Try.ntmps3
      go_wp2_with fail
      refine ck.mono ?_
      rintro e w0 ⟨rfl, q0⟩
      have HQ := Lib.hid q0
      clear ck q0
      go_wp2
      go_ret
      exact ⟨rfl, HQ.out⟩
  · have hlB : decide (20 < (ln : Int)) = true := decide_eq_true (by omega)
    have hlN : decide (20 < ln) = true := decide_eq_true (by omega)
    clear cB hU hP hPk hln hpn
    go_enter Try.func3, Try.ntmps3
    go_wp2_with fail
    refine ck.mono ?_
    rintro e w0 ⟨rfl, q0⟩
    have HQ := Lib.hid q0
    clear ck q0
    go_wp2
    go_ret
    exact ⟨rfl, HQ.out⟩
theorem sums14_ok (a b c d : Int) (lv : Value) (ll : List Nat) (pv : Value) (ps : List Pz) (h1 : (Lit.int .u8 a).wf = true) (h2 : (Lit.int .u8 b).wf = true) (h3 : (Lit.int .u8 c).wf = true) (h4 : (Lit.int .u8 d).wf = true) (w : World) (hU : IsU32s w lv ll) (hP : IsPzs w pv ps) :
    Calls Try.prog 3 #[.int .u8 a, .int .u8 b, .int .u8 c, .int .u8 d, lv, pv] w fun e w' => e = .returned (.bool true) ∧ B w w' :=
  sums14_any a b c d lv ll pv ps (u8_wf h1) (u8_wf h2) (u8_wf h3) (u8_wf h4) w hU hP
end Go.Proofs.Ytnmcgleanpdlmaa
