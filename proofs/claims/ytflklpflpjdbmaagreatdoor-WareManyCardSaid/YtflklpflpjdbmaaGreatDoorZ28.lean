/-
  Contract of the document's DeckParse.
-/
import Derived.Test.YtflklpflpjdbmaaGreatDoorChecked
import Derived.Test.YtflklpflpjdbmaaGreatDoorZ1
import Derived.Test.YtflklpflpjdbmaaGreatDoorZ2
import Derived.Test.YtflklpflpjdbmaaGreatDoorZ3
import Derived.Test.YtflklpflpjdbmaaGreatDoorZ4
import Derived.Test.YtflklpflpjdbmaaGreatDoorZ5
import Derived.Test.YtflklpflpjdbmaaGreatDoorZ7
import Derived.Test.YtflklpflpjdbmaaGreatDoorZ13
import Derived.Test.YtflklpflpjdbmaaGreatDoorZ17
import Derived.Test.YtflklpflpjdbmaaGreatDoorZ18
import Derived.Test.YtflklpflpjdbmaaGreatDoorZ19
import Derived.Test.YtflklpflpjdbmaaGreatDoorZ24
import Derived.Test.YtflklpflpjdbmaaGreatDoorZ25
import Derived.Test.YtflklpflpjdbmaaGreatDoorZ26
import Derived.Test.YtflklpflpjdbmaaGreatDoorZ27
namespace Go.Proofs.YtflklpflpjdbmaaGreatDoor
open Go.RowKit
set_option linter.unusedVariables false
set_option maxRecDepth 100000 in
set_option maxHeartbeats 8000000 in
theorem r8parse_any (v : Value) (L : List (List Wd)) (w : World) (h : IsLnO w v L) (hL : L.length ≤ 65536) (hws : ∀ ws ∈ L, ws.length ≤ 65536) (hlong : ∀ ws ∈ L, ∀ x ∈ ws, x.2.length ≤ 65536) :
    Calls Tryz.prog 18 #[v] w (DpRes L w) := by
  obtain ⟨PP, hPP⟩ : ∃ PP, parseD L dk0 0 0 = PP := ⟨_, rfl⟩
  unfold DpRes
  rw [hPP]
  obtain ⟨ao, cap, rfl⟩ := h.form
  obtain ⟨W1, hW1⟩ : ∃ W1, (w.alloc (.cells #[.slice none 0 0, .slice none 0 0, .slice none 0 0] 26)).alloc (.cells #[.slice none 0 0, .slice none 0 0, .slice none 0 0] 26) = W1 := ⟨_, rfl⟩
  have b1 : B w (w.alloc (.cells #[.slice none 0 0, .slice none 0 0, .slice none 0 0] 26)) := (B.refl w).alloc _ _
  have oR := obj_new w (.cells #[.slice none 0 0, .slice none 0 0, .slice none 0 0] 26)
  have oR1 := ((B.refl _).alloc #[.slice none 0 0, .slice none 0 0, .slice none 0 0] 26).obj oR
  have oD1 := obj_new (w.alloc (.cells #[.slice none 0 0, .slice none 0 0, .slice none 0 0] 26)) (.cells #[.slice none 0 0, .slice none 0 0, .slice none 0 0] 26)
  have b2 : B w W1 := by rw [← hW1]; exact b1.alloc _ _
  have e1 : (w.alloc (.cells #[.slice none 0 0, .slice none 0 0, .slice none 0 0] 26)).heap.size = w.heap.size + 1 := by simp
  rw [hW1, e1] at oD1
  rw [hW1] at oR1
  have hS0 : DpSt w W1 w.heap.size (w.heap.size + 1) dk0 (.slice none 0 0) (.slice none 0 0) (.slice none 0 0) [] [] := ⟨Rows.start _ _, oD1, oR1, b2⟩
  have hPP0 : parseD (L.drop 0) dk0 0 0 = PP := hPP
  have hRge : w.heap.size ≤ w.heap.size := Nat.le_refl _
  have hDge : w.heap.size ≤ w.heap.size + 1 := by omega
  have hRD : w.heap.size ≠ w.heap.size + 1 := by omega
  clear b1 b2 oR oR1 oD1 hPP
  go_enter Tryz.func18, Tryz.ntmps18
  go_wp2_with fail
  try rw [hW1]
  clear hW1 e1
  obtain ⟨R, hR⟩ : ∃ R, w.heap.size = R := ⟨_, rfl⟩
  obtain ⟨D, hD⟩ : ∃ D, w.heap.size + 1 = D := ⟨_, rfl⟩
  rw [hD] at hS0 hDge hRD ⊢
  rw [hR] at hS0 hRD ⊢
  replace hRge : w.heap.size ≤ R := by omega
  replace hDge : w.heap.size ≤ D := by omega
  clear hR hD
  go_loopw [7, 8, 9] (fun ov fv iv wr => ∃ (i : Nat) (d : Dk) (o f : Nat) (wv tv fv' : Value) (ss tt : List Value), i ≤ L.length ∧ ov = .int .i64 o ∧ fv = .int .i64 f ∧ iv = .int .i64 i ∧ DpSt w wr R D d wv tv fv' ss tt ∧ DpN d o i ∧ parseD (L.drop i) d o f = PP) (fun _ _ iv _ => L.length + 1 - (intOf iv).toNat)
  case atStart => exact ⟨0, dk0, 0, 0, _, _, _, _, _, Nat.zero_le _, rfl, rfl, rfl, hS0, DpN.start, hPP0⟩
  case round =>
    obtain ⟨i, d, o, f, wv, tv, fv, ss, tt, hi, rfl, rfl, rfl, hS, hN, hP⟩ := hrel
    clear hS0 hPP0
    have hDk := hS.rows.dk
    have oDr := hS.od
    have y0 : wr.cell? ⟨D, 0, none⟩ = some wv := obj_cell oDr 0
    have y1 : wr.cell? ⟨D, 1, none⟩ = some tv := obj_cell oDr 1
    have y2 : wr.cell? ⟨D, 2, none⟩ = some fv := obj_cell oDr 2
    by_cases hl : i < L.length
    · have hlB : decide ((i : Int) < (L.length : Int)) = true := decide_eq_true (by omega)
      have hlI : (i : Int) < (L.length : Int) := by omega
      have hi0 : (0 : Int) ≤ (i : Int) := by omega
      have wk1 : IntKind.i64.wrap ((i : Int) + 1) = (i : Int) + 1 := by rw [IntKind.wrap_i64]; omega
      obtain ⟨lg, lo, cap', u, hce, hcu, hWu⟩ := h.at_ hl
      simp only [Value.slice.injEq] at hce
      obtain ⟨rfl, _, rfl⟩ := hce
      have hcr := hS.b.keep hcu
      have hmem := List.getElem_mem hl
      obtain ⟨X, hX⟩ : ∃ X, L[i] = X := ⟨_, rfl⟩
      rw [hX] at hWu hmem
      have hdrop : L.drop i = X :: L.drop (i + 1) := by rw [List.drop_eq_getElem_cons hl, hX]
      rw [hdrop] at hP
      replace hdrop := Lib.hid hdrop
      clear hX
      obtain ⟨ua, uc, rfl⟩ := hWu.form
      have hle : X.length ≤ 65536 := hws _ hmem
      have hWr := hWu.keep hS.b
      cases X with
      | nil =>
        rw [parseD] at hP
        have HZ := Lib.hid (And.intro hS (And.intro hN.up (And.intro hP hl)))
        clear hS hN hP hDk oDr hWr hWu hcu
        go_wp2
        go_roundw
        case rel =>
          obtain ⟨h1, h2, h3, h4⟩ := HZ.out
          exact ⟨i + 1, d, o, f, _, _, _, _, _, by omega, rfl, rfl, by go_num, h1, h2, h3⟩
        case measure => have := HZ.out; simp [intOf]; omega
      | cons k l =>
        obtain ⟨ug, ucap, hue, hu1, hu2, hult, huc⟩ := hWr.full (by simp)
        simp only [Value.slice.injEq] at hue
        obtain ⟨rfl, _, rfl⟩ := hue
        obtain ⟨x0, x1⟩ := huc 0 k rfl
        rw [Nat.zero_mul] at x0 x1
        have hklen : (l.length : Int) + 1 ≠ 0 := by omega
        obtain ⟨KS, hKS⟩ : ∃ KS, strB k.2 = KS := ⟨_, rfl⟩
        have hKt : KS.toList = k.2 := by rw [← hKS, toList_data]; simp [strB]
        rw [hKS] at x1
        by_cases hnr : k.2 = kRound ∨ k.2 = kBox
        · rcases hnr with hk | hk
          · have tr : (KS.toList == [114, 111, 117, 110, 100]) = true := by rw [hKt, hk]; rfl
            replace hKt := Lib.hid hKt
            clear hKS
            rcases hN.op with rfl | ⟨rfl, hne⟩ | ⟨rfl, hne⟩
            · have hugR : ug < w.heap.size := by
                obtain ⟨g', c', e', _, _, h5, _⟩ := hWu.full (by simp)
                simp only [Value.slice.injEq, Option.some.injEq, Addr.mk.injEq] at e'
                obtain ⟨⟨rfl, _⟩, _⟩ := e'
                exact h5
              have hR1 : ¬ ug = R := by omega
              have hR2 : ¬ R = ug := by omega
              have x0' : wr.drew.cell? ⟨ug, 0, none⟩ = some _ := x0
              have hE : (dk0, [], k.1, 24) = PP := by
                rw [← hP, parseD]
                simp [hk, kRound, kBox]
              replace hE := Lib.hid hE
              clear hP hk
              have oRx : wr.heap[R]? = some (.cells #[.slice none 0 0, .slice none 0 0, .slice none 0 0] 26 (0, 0)) := hS.oR
              have r0 : wr.cell? ⟨R, 0, none⟩ = some (.slice none 0 0) := obj_cell oRx 0
              have r1 : wr.cell? ⟨R, 1, none⟩ = some (.slice none 0 0) := obj_cell oRx 1
              have r2 : wr.cell? ⟨R, 2, none⟩ = some (.slice none 0 0) := obj_cell oRx 2
              have e0 := obj_free oRx 0
              have e1 := obj_free oRx 1
              have e2 := obj_free oRx 2
              have r0' : wr.drew.cell? ⟨R, 0, none⟩ = some (.slice none 0 0) := r0
              have r1' : wr.drew.cell? ⟨R, 1, none⟩ = some (.slice none 0 0) := r1
              have r2' : wr.drew.cell? ⟨R, 2, none⟩ = some (.slice none 0 0) := r2
              have e0' : wr.drew.frozen? ⟨R, 0, none⟩ = false := e0
              have e1' : wr.drew.frozen? ⟨R, 1, none⟩ = false := e1
              have e2' : wr.drew.frozen? ⟨R, 2, none⟩ = false := e2
              have hqF := b_three hS.b hRge (.slice none 0 0) (.slice none 0 0) (.slice none 0 0)
              have oE := obj_three oRx (.slice none 0 0) (.slice none 0 0) (.slice none 0 0)
              clear hS hN hDk oDr hWr hWu hcu huc y0 y1 y2 h oRx
              go_wp2_with fail
              go_region
              all_goals
                go_wp2
                have z0 := obj_cell oE 0
                have z1 := obj_cell oE 1
                have z2 := obj_cell oE 2
                exact bodyPost_ret (v := .tuple #[.agg #[.slice none 0 0, .slice none 0 0, .slice none 0 0], .slice none 0 0, .int .i64 ((k.1 : Nat) : Int), .int .i64 ((24 : Nat) : Int)]) (by simp [results, Tryz.results18, go_sem, z0, z1, z2]) rfl
                  ⟨_, _, _, _, by rw [← hE.out], by rw [← hE.out]; exact ⟨.inl ⟨rfl, rfl⟩, .inl ⟨rfl, rfl⟩, .inl ⟨rfl, rfl⟩⟩, by rw [← hE.out]; exact .inl ⟨rfl, rfl⟩, hqF.drew⟩
            · have hP2 : (match secW (k :: l) with | .error e => (dk0, [], e.1, e.2) | .ok s => parseD (L.drop (i + 1)) (d.add 1 s) 1 f) = PP := by
                rw [← hP, parseD]
                simp [hk, kRound, kBox]
                try rfl
              replace hP2 := Lib.hid hP2
              clear hP hk
              obtain ⟨i0, hi0, hz0, hz1, hz2⟩ := info_of dSecI
              obtain ⟨dws, dts, dfs⟩ := d
              obtain ⟨ws0, r, hd⟩ := last_split hne
              simp only at hd
              subst hd
              obtain ⟨ss0, v, hs⟩ := last_splitV (L := ss) (n := ws0.length) (by rw [hS.rows.sl]; simp)
              subst hs
              have hrow := hS.rows.ws
              simp only [List.length_append, List.length_cons, List.length_nil, Nat.zero_add] at hrow
              obtain ⟨gW, cW, hwv⟩ := own_form hrow
              subst hwv
              obtain ⟨a1, c1', e1'⟩ := hS.rows.dk.ts.form
              obtain ⟨a2, c2', e2'⟩ := hS.rows.dk.fs.form
              subst e1' e2'
              obtain ⟨m, hm⟩ : ∃ m, ws0.length = m := ⟨_, rfl⟩
              have hm9 : m ≤ 100000 := by have := hN.w8; simp at this; omega
              have hrl : r.l.length ≤ 100000 := by have := hN.wn r (by simp); omega
              have hsl : ss0.length = ws0.length := by have := hS.rows.sl; simpa using this
              have k1 : IntKind.i64.wrap ((m : Int) + 1 - 1) = (m : Int) := by rw [IntKind.wrap_i64]; omega
              have k2 : (m : Int) < (m : Int) + 1 := by omega
              have k3 : (0 : Int) ≤ (m : Int) := by omega
              have cS := r8section_any _ k l wr hWr (by simp at hle; omega)
              clear hDk hrow
              rw [hm] at y0
              go_wp2_with fail
              refine cS.mono ?_
              intro e3 W3 hR3
              obtain ⟨s, p, n, rfl, q3, hz⟩ := sec_uni hR3
              clear cS hR3
              obtain ⟨sr, sh, sa0, sb0, sa1, sb1⟩ := s
              unfold Sec.agg
              have hS4 := hS.keep (q3.trans ((B.refl W3).alloc #[.bool sr, .int .i64 sh, .int .i64 sa0, .int .i64 sb0, .int .i64 sa1, .int .i64 sb1] 37))
              have oL := obj_new W3 (.cells #[.bool sr, .int .i64 sh, .int .i64 sa0, .int .i64 sb0, .int .i64 sa1, .int .i64 sb1] 37)
              have y0 := q3.keep y0
              have y1 := q3.keep y1
              have hDlt : D < W3.heap.size := obj_lt (q3.obj hS.od)
              rcases hz with ⟨rfl, hz, hsI⟩ | ⟨hn, hz⟩
              · have hE := hP2.out
                rw [hz] at hE
                have rL : v.ownBlock ≠ some W3.heap.size := fun e => by
                  have h1 := ((hS.rows.sh ws0.length r v (by simp) (by rw [← hsl]; simp)).lt _ e).2
                  have h2 := q3.below.size
                  omega
                have HX := Lib.hid (And.intro hE (And.intro hS4 (And.intro oL (And.intro hsI (And.intro hz rL)))))
                clear hE hS4 oL hsI hz rL q3 hS oDr hWr hWu hcu huc hcr x0 x1
                go_wp2_with fail
                obtain ⟨hE, hS4, oL, hsI, hz, rL⟩ := HX.out
                clear HX y0 y1 y2
                generalize W3.alloc (.cells #[.bool sr, .int .i64 sh, .int .i64 sa0, .int .i64 sb0, .int .i64 sa1, .int .i64 sb1] 37) = w4 at *
                generalize W3.heap.size = Lb at *
                have qA : B w4 (w4.drew.alloc (.cells #[.bool sr, .int .i64 sh, .int .i64 sa0, .int .i64 sb0, .int .i64 sa1, .int .i64 sb1] 37)) := (B.refl w4).drew.alloc _ _
                have hS7 := hS4.keep qA
                have hown := hS7.rows.sh ws0.length r v (by simp) (by rw [← hsl]; simp)
                have hbase : w.heap.size ≤ (w4.drew.alloc (.cells #[.bool sr, .int .i64 sh, .int .i64 sa0, .int .i64 sb0, .int .i64 sa1, .int .i64 sb1] 37)).heap.size := hS7.b.below.size
                obtain ⟨_, curG, oG⟩ := ownsRow_obj hS4.rows.ws (i := gW) rfl
                have hGc : curG[m * 5 + 4]? = some v := by
                  have h1 := hS4.rows.ws.cells (g := gW) rfl (m * 5 + 4) v (by rw [← hm, flatR_get _ _ ws0.length 4 r v (by simp) (by rw [← hsl]; simp) (by omega)]; rfl)
                  rw [add0, obj_cell oG] at h1
                  exact h1
                have sD : w4.drew.cell? ⟨D, 0, none⟩ = some (.slice (some ⟨gW, 0, none⟩) (m + 1) cW) := by rw [← hm]; exact obj_cell (w := w4.drew) hS4.od 0
                have sv : w4.drew.cell? ⟨gW, m * 5 + 4, none⟩ = some v := (obj_cell (w := w4.drew) oG _).trans hGc
                have l0 : w4.drew.cell? ⟨Lb, 0, none⟩ = some (.bool sr) := obj_cell (w := w4.drew) oL 0
                have l1 : w4.drew.cell? ⟨Lb, 1, none⟩ = some (.int .i64 sh) := obj_cell (w := w4.drew) oL 1
                have l2 : w4.drew.cell? ⟨Lb, 2, none⟩ = some (.int .i64 sa0) := obj_cell (w := w4.drew) oL 2
                have l3 : w4.drew.cell? ⟨Lb, 3, none⟩ = some (.int .i64 sb0) := obj_cell (w := w4.drew) oL 3
                have l4 : w4.drew.cell? ⟨Lb, 4, none⟩ = some (.int .i64 sa1) := obj_cell (w := w4.drew) oL 4
                have l5 : w4.drew.cell? ⟨Lb, 5, none⟩ = some (.int .i64 sb1) := obj_cell (w := w4.drew) oL 5
                have oDd := hS4.od
                have hfact : ∀ wz : World, wz.heap[D]? = w4.heap[D]? → wz.cell? ⟨gW, m * 5 + 4, none⟩ = some v → wz.heap[Lb]? = w4.heap[Lb]? → wz.cell? ⟨D, 0, none⟩ = some (.slice (some ⟨gW, 0, none⟩) (m + 1) cW) ∧ wz.cell? ⟨gW, m * 5 + 4, none⟩ = some v ∧ wz.cell? ⟨Lb, 0, none⟩ = some (.bool sr) ∧ wz.cell? ⟨Lb, 1, none⟩ = some (.int .i64 sh) ∧ wz.cell? ⟨Lb, 2, none⟩ = some (.int .i64 sa0) ∧ wz.cell? ⟨Lb, 3, none⟩ = some (.int .i64 sb0) ∧ wz.cell? ⟨Lb, 4, none⟩ = some (.int .i64 sa1) ∧ wz.cell? ⟨Lb, 5, none⟩ = some (.int .i64 sb1) :=
                  fun wz h1 h2 h3 => ⟨(obj_cell (h1.trans oDd) 0).trans (by rw [← hm]; rfl), h2, obj_cell (h3.trans oL) 0, obj_cell (h3.trans oL) 1, obj_cell (h3.trans oL) 2, obj_cell (h3.trans oL) 3, obj_cell (h3.trans oL) 4, obj_cell (h3.trans oL) 5⟩
                have HX := Lib.hid (And.intro hE hS4)
                clear hE hS4
                refine wp_region_noPanic ?_
                refine wp_region_gate (S := fun w' => w'.cell? ⟨D, 0, none⟩ = some (.slice (some ⟨gW, 0, none⟩) (m + 1) cW) ∧ w'.cell? ⟨gW, m * 5 + 4, none⟩ = some v ∧ w'.cell? ⟨Lb, 0, none⟩ = some (.bool sr) ∧ w'.cell? ⟨Lb, 1, none⟩ = some (.int .i64 sh) ∧ w'.cell? ⟨Lb, 2, none⟩ = some (.int .i64 sa0) ∧ w'.cell? ⟨Lb, 3, none⟩ = some (.int .i64 sb0) ∧ w'.cell? ⟨Lb, 4, none⟩ = some (.int .i64 sa1) ∧ w'.cell? ⟨Lb, 5, none⟩ = some (.int .i64 sb1)) 14 [(0, 3), (1, 0), (2, 3), (3, 3), (4, 0), (5, 3), (6, 3), (7, 3), (8, 0), (9, 0), (10, 2), (11, 2), (12, 3), (13, 3), (14, 4)] [0, 1, 0, 0, 8, 0, 48, 64, 128, 0, 512, 1280, 4095, 8191, 12287] [0, 1, 0, 0, 8, 0, 48, 64, 128, 0, 512, 1280, 6, 4096, 10240] [0, 28674, 0, 0, 31184, 0, 0, 0, 30976, 32256, 0, 0, 0, 0, 0] (by kernel_rfl) (by kernel_rfl) (fun _ _ _ _ _ h => h) ?_ (fun hH => ?_)
                · exact ⟨sD, sv, l0, l1, l2, l3, l4, l5⟩
                refine wpSeqG_free (d := 69) (v := ?_) rfl rfl (by kernel_rfl) (fun w => ?_) ?_
                rotate_left
                · go_simp <;> with_reducible rfl
                dsimp only [List.set_cons_zero, List.set_cons_succ]
                refine wpSeqG_take (d := 70) (v := ?_) rfl rfl (by kernel_rfl) (fun w hS => ?_) ?_
                rotate_left
                · go_simp <;> with_reducible rfl
                dsimp only [List.set_cons_zero, List.set_cons_succ]
                refine wpSeqG_free (d := 71) (v := ?_) rfl rfl (by kernel_rfl) (fun w => ?_) ?_
                rotate_left
                · go_simp <;> with_reducible rfl
                dsimp only [List.set_cons_zero, List.set_cons_succ]
                refine wpSeqG_free (d := 72) (v := ?_) rfl rfl (by kernel_rfl) (fun w => ?_) ?_
                rotate_left
                · go_simp <;> with_reducible rfl
                dsimp only [List.set_cons_zero, List.set_cons_succ]
                refine wpSeqG_take (d := 73) (v := ?_) rfl rfl (by kernel_rfl) (fun w hS => ?_) ?_
                rotate_left
                · go_simp <;> with_reducible rfl
                dsimp only [List.set_cons_zero, List.set_cons_succ]
                refine wpSeqG_free (d := 74) (v := ?_) rfl rfl (by kernel_rfl) (fun w => ?_) ?_
                rotate_left
                · go_simp <;> with_reducible rfl
                dsimp only [List.set_cons_zero, List.set_cons_succ]
                refine wpSeqG_free (d := 75) (v := ?_) rfl rfl (by kernel_rfl) (fun w => ?_) ?_
                rotate_left
                · go_simp <;> with_reducible rfl
                dsimp only [List.set_cons_zero, List.set_cons_succ]
                refine wpSeqG_free (d := 76) (v := ?_) rfl rfl (by kernel_rfl) (fun w => ?_) ?_
                rotate_left
                · go_simp <;> with_reducible rfl
                dsimp only [List.set_cons_zero, List.set_cons_succ]
                refine wpSeqG_take (d := 77) (v := ?_) rfl rfl (by kernel_rfl) (fun w hS => ?_) ?_
                rotate_left
                · go_simp <;> with_reducible rfl
                dsimp only [List.set_cons_zero, List.set_cons_succ]
                refine wpSeqG_take (d := 78) (v := ?_) rfl rfl (by kernel_rfl) (fun w hS => ?_) ?_
                rotate_left
                · go_simp <;> with_reducible rfl
                dsimp only [List.set_cons_zero, List.set_cons_succ]
                refine wpSeqG_call rfl (by kernel_rfl) (fun K hK => ?_)
                go_simp
                refine hK.out _ _ ?_ (fun hH => ?_)
                · first | exact ⟨((B.refl _).alloc _ _).keep hH.1, ((B.refl _).alloc _ _).keep hH.2.1, ((B.refl _).alloc _ _).keep hH.2.2.1, ((B.refl _).alloc _ _).keep hH.2.2.2.1, ((B.refl _).alloc _ _).keep hH.2.2.2.2.1, ((B.refl _).alloc _ _).keep hH.2.2.2.2.2.1, ((B.refl _).alloc _ _).keep hH.2.2.2.2.2.2.1, ((B.refl _).alloc _ _).keep hH.2.2.2.2.2.2.2⟩ | exact hS9
                clear hK
                refine wpSeqG_call rfl (by kernel_rfl) (fun K hK => ?_)
                refine wp_append_lies _ _ _ 31 rfl w.heap.size 37 i0 (.agg #[.bool false, .int .i64 0, .int .i64 0, .int .i64 0, .int .i64 0, .int .i64 0]) 6 48 (by kernel_rfl) hi0 hz0 hz1 hz2 rfl (by omega) _ _ _ rfl hown ⟨w4.heap.size, 0, none⟩ 1 1 [.bool sr, .int .i64 sh, .int .i64 sa0, .int .i64 sb0, .int .i64 sa1, .int .i64 sb1] rfl rfl (news_plain rfl) (by intro u hu; simp only [List.mem_cons, List.not_mem_nil, or_false] at hu; rcases hu with rfl | rfl | rfl | rfl | rfl | rfl <;> rfl) (by omega) (by unfold maxLen; omega) (by omega) hbase _ rfl ?_
                intro gN cN wz hownN hgrowN hatN hltN
                have oG9 := obj_grown hgrowN (qA.obj oG) (farD (qA.obj oG) hown (by decide))
                have y0 : wz.cell? ⟨gW, m * 5 + 4, none⟩ = some v := (obj_cell oG9 _).trans hGc
                have y1 := obj_free oG9 (m * 5 + 4)
                have oL9 := obj_grown hgrowN (qA.obj oL) rL
                have oD9 := obj_grown hgrowN (qA.obj oDd) (farD (qA.obj oDd) hown (by decide))
                have hS9 := hfact wz (oD9.trans oDd.symm) y0 (oL9.trans oL.symm)
                clear hfact
                try simp only [Act.put, List.setIfInBounds_toArray, List.set_cons_zero, List.set_cons_succ]
                refine hK.out _ _ ?_ (fun hH => ?_)
                · first | exact ⟨((B.refl _).alloc _ _).keep hH.1, ((B.refl _).alloc _ _).keep hH.2.1, ((B.refl _).alloc _ _).keep hH.2.2.1, ((B.refl _).alloc _ _).keep hH.2.2.2.1, ((B.refl _).alloc _ _).keep hH.2.2.2.2.1, ((B.refl _).alloc _ _).keep hH.2.2.2.2.2.1, ((B.refl _).alloc _ _).keep hH.2.2.2.2.2.2.1, ((B.refl _).alloc _ _).keep hH.2.2.2.2.2.2.2⟩ | exact hS9
                clear hK
                refine wpSeqG_free (d := 81) (v := ?_) rfl rfl (by kernel_rfl) (fun w => ?_) ?_
                rotate_left
                · go_simp <;> with_reducible rfl
                dsimp only [List.set_cons_zero, List.set_cons_succ]
                refine wpSeqG_free (d := 82) (v := ?_) rfl rfl (by kernel_rfl) (fun w => ?_) ?_
                rotate_left
                · go_simp <;> with_reducible rfl
                dsimp only [List.set_cons_zero, List.set_cons_succ]
                refine wpSeqG_gate rfl (by kernel_rfl) (fun K hK => ?_)
                go_simp
                refine hK.out _ _ ?_
                clear hK
                refine wpSeqG_done ?_
                refine NoPanic.normal ?_
                all_goals
                  obtain ⟨hE, hS4⟩ := HX.out
                  have hS9' := hS9
                  clear hS9
                  have hS9 := hS7.addSW hsI hgrowN hownN rfl hatN
                  rw [hm] at hS9
                  clear hH sD sv l0 l1 l2 l3 l4 l5 oG9 y0 y1 oG hGc qA hown hownN hgrowN hatN hltN hbase hS7 hS4 HX oL9 oD9 oDd rL hS9'
                  generalize wz.setCell ⟨gW, m * 5 + 4, none⟩ (.slice (some ⟨gN, 0, none⟩) (r.l.length + 1) cN) = w9 at *
                  have hadd : Dk.add ⟨ws0 ++ [r], dts, dfs⟩ 1 ⟨sr, sh, sa0, sb0, sa1, sb1⟩ = ⟨ws0 ++ [moreR r ⟨sr, sh, sa0, sb0, sa1, sb1⟩], dts, dfs⟩ := by unfold Dk.add; simp [moreW_snoc]
                  have hN2 := hN.sec ⟨sr, sh, sa0, sb0, sa1, sb1⟩
                  rw [hadd] at hE hN2
                  have y1 : w9.cell? ⟨D, 1, none⟩ = some _ := obj_cell hS9.od 1
                  have HX := Lib.hid (And.intro hE (And.intro hS9 (And.intro hN2 hl)))
                  clear hE hS9 hN2 hN hadd hsI hz oL hsl hmem hle
                  go_wp2
                  go_roundw
                  case rel =>
                    obtain ⟨hE, hS9, hN2, hl⟩ := HX.out
                    exact ⟨i + 1, ⟨ws0 ++ [moreR r ⟨sr, sh, sa0, sb0, sa1, sb1⟩], dts, dfs⟩, 1, f, _, _, _, _, _, by omega, rfl, rfl, by go_num, hS9, hN2, hE⟩
                  case measure => have := HX.out; simp [intOf]; omega
              · have hE := hP2.out
                rw [hz] at hE
                replace hE := Lib.hid hE
                have hnB : ((n : Int) != 0) = true := by simpa using hn
                have oR3 := q3.obj hS.oR
                have r0 : W3.cell? ⟨R, 0, none⟩ = some (.slice none 0 0) := obj_cell oR3 0
                have r1 : W3.cell? ⟨R, 1, none⟩ = some (.slice none 0 0) := obj_cell oR3 1
                have r2 : W3.cell? ⟨R, 2, none⟩ = some (.slice none 0 0) := obj_cell oR3 2
                have e0 := obj_free oR3 0
                have e1 := obj_free oR3 1
                have e2 := obj_free oR3 2
                have hRlt := obj_lt oR3
                have oE := ((B.refl _).alloc #[.bool sr, .int .i64 sh, .int .i64 sa0, .int .i64 sb0, .int .i64 sa1, .int .i64 sb1] 37).obj (obj_three oR3 (.slice none 0 0) (.slice none 0 0) (.slice none 0 0))
                have hqF := (b_three (hS.b.trans q3) hRge (.slice none 0 0) (.slice none 0 0) (.slice none 0 0)).alloc #[.bool sr, .int .i64 sh, .int .i64 sa0, .int .i64 sb0, .int .i64 sa1, .int .i64 sb1] 37
                have HX := Lib.hid (And.intro oE hqF)
                clear oE hqF oR3 hS4 hz hn q3 hS oDr hWr hWu hcu huc hcr x0 x1 oL
                go_wp2
                obtain ⟨oE, hqF⟩ := HX.out
                have z0 := obj_cell oE 0
                have z1 := obj_cell oE 1
                have z2 := obj_cell oE 2
                exact bodyPost_ret (v := .tuple #[.agg #[.slice none 0 0, .slice none 0 0, .slice none 0 0], .slice none 0 0, .int .i64 ((p : Nat) : Int), .int .i64 ((n : Nat) : Int)]) (by simp [results, Tryz.results18, go_sem, z0, z1, z2]) rfl
                  ⟨_, _, _, _, by rw [← hE.out], by rw [← hE.out]; exact ⟨.inl ⟨rfl, rfl⟩, .inl ⟨rfl, rfl⟩, .inl ⟨rfl, rfl⟩⟩, by rw [← hE.out]; exact .inl ⟨rfl, rfl⟩, hqF⟩
            · have hP2 : (match secW (k :: l) with | .error e => (dk0, [], e.1, e.2) | .ok s => parseD (L.drop (i + 1)) (d.add 2 s) 2 f) = PP := by
                rw [← hP, parseD]
                simp [hk, kRound, kBox]
                try rfl
              replace hP2 := Lib.hid hP2
              clear hP hk
              obtain ⟨i0, hi0, hz0, hz1, hz2⟩ := info_of dSecI
              obtain ⟨dws, dts, dfs⟩ := d
              obtain ⟨ws0, r, hd⟩ := last_split hne
              simp only at hd
              subst hd
              obtain ⟨ss0, v, hs⟩ := last_splitV (L := tt) (n := ws0.length) (by rw [hS.rows.tl]; simp)
              subst hs
              have hrow := hS.rows.ts
              simp only [List.length_append, List.length_cons, List.length_nil, Nat.zero_add] at hrow
              obtain ⟨gW, cW, hwv⟩ := own_form hrow
              subst hwv
              obtain ⟨a1, c1', e1'⟩ := hS.rows.dk.ws.form
              obtain ⟨a2, c2', e2'⟩ := hS.rows.dk.fs.form
              subst e1' e2'
              obtain ⟨m, hm⟩ : ∃ m, ws0.length = m := ⟨_, rfl⟩
              have hm9 : m ≤ 100000 := by have := hN.t4; simp at this; omega
              have hrl : r.l.length ≤ 100000 := by have := hN.tn r (by simp); omega
              have hsl : ss0.length = ws0.length := by have := hS.rows.tl; simpa using this
              have k1 : IntKind.i64.wrap ((m : Int) + 1 - 1) = (m : Int) := by rw [IntKind.wrap_i64]; omega
              have k2 : (m : Int) < (m : Int) + 1 := by omega
              have k3 : (0 : Int) ≤ (m : Int) := by omega
              have cS := r8section_any _ k l wr hWr (by simp at hle; omega)
              clear hDk hrow
              rw [hm] at y1
              go_wp2_with fail
              refine cS.mono ?_
              intro e3 W3 hR3
              obtain ⟨s, p, n, rfl, q3, hz⟩ := sec_uni hR3
              clear cS hR3
              obtain ⟨sr, sh, sa0, sb0, sa1, sb1⟩ := s
              unfold Sec.agg
              have hS4 := hS.keep (q3.trans ((B.refl W3).alloc #[.bool sr, .int .i64 sh, .int .i64 sa0, .int .i64 sb0, .int .i64 sa1, .int .i64 sb1] 37))
              have oL := obj_new W3 (.cells #[.bool sr, .int .i64 sh, .int .i64 sa0, .int .i64 sb0, .int .i64 sa1, .int .i64 sb1] 37)
              have y0 := q3.keep y0
              have y1 := q3.keep y1
              have hDlt : D < W3.heap.size := obj_lt (q3.obj hS.od)
              rcases hz with ⟨rfl, hz, hsI⟩ | ⟨hn, hz⟩
              · have hE := hP2.out
                rw [hz] at hE
                have rL : v.ownBlock ≠ some W3.heap.size := fun e => by
                  have h1 := ((hS.rows.th ws0.length r v (by simp) (by rw [← hsl]; simp)).lt _ e).2
                  have h2 := q3.below.size
                  omega
                have HX := Lib.hid (And.intro hE (And.intro hS4 (And.intro oL (And.intro hsI (And.intro hz rL)))))
                clear hE hS4 oL hsI hz rL q3 hS oDr hWr hWu hcu huc hcr x0 x1
                go_wp2_with fail
                obtain ⟨hE, hS4, oL, hsI, hz, rL⟩ := HX.out
                clear HX y0 y1 y2
                generalize W3.alloc (.cells #[.bool sr, .int .i64 sh, .int .i64 sa0, .int .i64 sb0, .int .i64 sa1, .int .i64 sb1] 37) = w4 at *
                generalize W3.heap.size = Lb at *
                have qA : B w4 (w4.drew.alloc (.cells #[.bool sr, .int .i64 sh, .int .i64 sa0, .int .i64 sb0, .int .i64 sa1, .int .i64 sb1] 37)) := (B.refl w4).drew.alloc _ _
                have hS7 := hS4.keep qA
                have hown := hS7.rows.th ws0.length r v (by simp) (by rw [← hsl]; simp)
                have hbase : w.heap.size ≤ (w4.drew.alloc (.cells #[.bool sr, .int .i64 sh, .int .i64 sa0, .int .i64 sb0, .int .i64 sa1, .int .i64 sb1] 37)).heap.size := hS7.b.below.size
                obtain ⟨_, curG, oG⟩ := ownsRow_obj hS4.rows.ts (i := gW) rfl
                have hGc : curG[m * 5 + 4]? = some v := by
                  have h1 := hS4.rows.ts.cells (g := gW) rfl (m * 5 + 4) v (by rw [← hm, flatR_get _ _ ws0.length 4 r v (by simp) (by rw [← hsl]; simp) (by omega)]; rfl)
                  rw [add0, obj_cell oG] at h1
                  exact h1
                have sD : w4.drew.cell? ⟨D, 1, none⟩ = some (.slice (some ⟨gW, 0, none⟩) (m + 1) cW) := by rw [← hm]; exact obj_cell (w := w4.drew) hS4.od 1
                have sv : w4.drew.cell? ⟨gW, m * 5 + 4, none⟩ = some v := (obj_cell (w := w4.drew) oG _).trans hGc
                have l0 : w4.drew.cell? ⟨Lb, 0, none⟩ = some (.bool sr) := obj_cell (w := w4.drew) oL 0
                have l1 : w4.drew.cell? ⟨Lb, 1, none⟩ = some (.int .i64 sh) := obj_cell (w := w4.drew) oL 1
                have l2 : w4.drew.cell? ⟨Lb, 2, none⟩ = some (.int .i64 sa0) := obj_cell (w := w4.drew) oL 2
                have l3 : w4.drew.cell? ⟨Lb, 3, none⟩ = some (.int .i64 sb0) := obj_cell (w := w4.drew) oL 3
                have l4 : w4.drew.cell? ⟨Lb, 4, none⟩ = some (.int .i64 sa1) := obj_cell (w := w4.drew) oL 4
                have l5 : w4.drew.cell? ⟨Lb, 5, none⟩ = some (.int .i64 sb1) := obj_cell (w := w4.drew) oL 5
                have oDd := hS4.od
                have hfact : ∀ wz : World, wz.heap[D]? = w4.heap[D]? → wz.cell? ⟨gW, m * 5 + 4, none⟩ = some v → wz.heap[Lb]? = w4.heap[Lb]? → wz.cell? ⟨D, 1, none⟩ = some (.slice (some ⟨gW, 0, none⟩) (m + 1) cW) ∧ wz.cell? ⟨gW, m * 5 + 4, none⟩ = some v ∧ wz.cell? ⟨Lb, 0, none⟩ = some (.bool sr) ∧ wz.cell? ⟨Lb, 1, none⟩ = some (.int .i64 sh) ∧ wz.cell? ⟨Lb, 2, none⟩ = some (.int .i64 sa0) ∧ wz.cell? ⟨Lb, 3, none⟩ = some (.int .i64 sb0) ∧ wz.cell? ⟨Lb, 4, none⟩ = some (.int .i64 sa1) ∧ wz.cell? ⟨Lb, 5, none⟩ = some (.int .i64 sb1) :=
                  fun wz h1 h2 h3 => ⟨(obj_cell (h1.trans oDd) 1).trans (by rw [← hm]; rfl), h2, obj_cell (h3.trans oL) 0, obj_cell (h3.trans oL) 1, obj_cell (h3.trans oL) 2, obj_cell (h3.trans oL) 3, obj_cell (h3.trans oL) 4, obj_cell (h3.trans oL) 5⟩
                have HX := Lib.hid (And.intro hE hS4)
                clear hE hS4
                refine wp_region_noPanic ?_
                refine wp_region_gate (S := fun w' => w'.cell? ⟨D, 1, none⟩ = some (.slice (some ⟨gW, 0, none⟩) (m + 1) cW) ∧ w'.cell? ⟨gW, m * 5 + 4, none⟩ = some v ∧ w'.cell? ⟨Lb, 0, none⟩ = some (.bool sr) ∧ w'.cell? ⟨Lb, 1, none⟩ = some (.int .i64 sh) ∧ w'.cell? ⟨Lb, 2, none⟩ = some (.int .i64 sa0) ∧ w'.cell? ⟨Lb, 3, none⟩ = some (.int .i64 sb0) ∧ w'.cell? ⟨Lb, 4, none⟩ = some (.int .i64 sa1) ∧ w'.cell? ⟨Lb, 5, none⟩ = some (.int .i64 sb1)) 14 [(0, 3), (1, 0), (2, 3), (3, 3), (4, 0), (5, 3), (6, 3), (7, 3), (8, 0), (9, 0), (10, 2), (11, 2), (12, 3), (13, 3), (14, 4)] [0, 1, 0, 0, 8, 0, 48, 64, 128, 0, 512, 1280, 4095, 8191, 12287] [0, 1, 0, 0, 8, 0, 48, 64, 128, 0, 512, 1280, 6, 4096, 10240] [0, 28674, 0, 0, 31184, 0, 0, 0, 30976, 32256, 0, 0, 0, 0, 0] (by kernel_rfl) (by kernel_rfl) (fun _ _ _ _ _ h => h) ?_ (fun hH => ?_)
                · exact ⟨sD, sv, l0, l1, l2, l3, l4, l5⟩
                refine wpSeqG_free (d := 89) (v := ?_) rfl rfl (by kernel_rfl) (fun w => ?_) ?_
                rotate_left
                · go_simp <;> with_reducible rfl
                dsimp only [List.set_cons_zero, List.set_cons_succ]
                refine wpSeqG_take (d := 90) (v := ?_) rfl rfl (by kernel_rfl) (fun w hS => ?_) ?_
                rotate_left
                · go_simp <;> with_reducible rfl
                dsimp only [List.set_cons_zero, List.set_cons_succ]
                refine wpSeqG_free (d := 91) (v := ?_) rfl rfl (by kernel_rfl) (fun w => ?_) ?_
                rotate_left
                · go_simp <;> with_reducible rfl
                dsimp only [List.set_cons_zero, List.set_cons_succ]
                refine wpSeqG_free (d := 92) (v := ?_) rfl rfl (by kernel_rfl) (fun w => ?_) ?_
                rotate_left
                · go_simp <;> with_reducible rfl
                dsimp only [List.set_cons_zero, List.set_cons_succ]
                refine wpSeqG_take (d := 93) (v := ?_) rfl rfl (by kernel_rfl) (fun w hS => ?_) ?_
                rotate_left
                · go_simp <;> with_reducible rfl
                dsimp only [List.set_cons_zero, List.set_cons_succ]
                refine wpSeqG_free (d := 94) (v := ?_) rfl rfl (by kernel_rfl) (fun w => ?_) ?_
                rotate_left
                · go_simp <;> with_reducible rfl
                dsimp only [List.set_cons_zero, List.set_cons_succ]
                refine wpSeqG_free (d := 95) (v := ?_) rfl rfl (by kernel_rfl) (fun w => ?_) ?_
                rotate_left
                · go_simp <;> with_reducible rfl
                dsimp only [List.set_cons_zero, List.set_cons_succ]
                refine wpSeqG_free (d := 96) (v := ?_) rfl rfl (by kernel_rfl) (fun w => ?_) ?_
                rotate_left
                · go_simp <;> with_reducible rfl
                dsimp only [List.set_cons_zero, List.set_cons_succ]
                refine wpSeqG_take (d := 97) (v := ?_) rfl rfl (by kernel_rfl) (fun w hS => ?_) ?_
                rotate_left
                · go_simp <;> with_reducible rfl
                dsimp only [List.set_cons_zero, List.set_cons_succ]
                refine wpSeqG_take (d := 98) (v := ?_) rfl rfl (by kernel_rfl) (fun w hS => ?_) ?_
                rotate_left
                · go_simp <;> with_reducible rfl
                dsimp only [List.set_cons_zero, List.set_cons_succ]
                refine wpSeqG_call rfl (by kernel_rfl) (fun K hK => ?_)
                go_simp
                refine hK.out _ _ ?_ (fun hH => ?_)
                · first | exact ⟨((B.refl _).alloc _ _).keep hH.1, ((B.refl _).alloc _ _).keep hH.2.1, ((B.refl _).alloc _ _).keep hH.2.2.1, ((B.refl _).alloc _ _).keep hH.2.2.2.1, ((B.refl _).alloc _ _).keep hH.2.2.2.2.1, ((B.refl _).alloc _ _).keep hH.2.2.2.2.2.1, ((B.refl _).alloc _ _).keep hH.2.2.2.2.2.2.1, ((B.refl _).alloc _ _).keep hH.2.2.2.2.2.2.2⟩ | exact hS9
                clear hK
                refine wpSeqG_call rfl (by kernel_rfl) (fun K hK => ?_)
                refine wp_append_lies _ _ _ 31 rfl w.heap.size 37 i0 (.agg #[.bool false, .int .i64 0, .int .i64 0, .int .i64 0, .int .i64 0, .int .i64 0]) 6 48 (by kernel_rfl) hi0 hz0 hz1 hz2 rfl (by omega) _ _ _ rfl hown ⟨w4.heap.size, 0, none⟩ 1 1 [.bool sr, .int .i64 sh, .int .i64 sa0, .int .i64 sb0, .int .i64 sa1, .int .i64 sb1] rfl rfl (news_plain rfl) (by intro u hu; simp only [List.mem_cons, List.not_mem_nil, or_false] at hu; rcases hu with rfl | rfl | rfl | rfl | rfl | rfl <;> rfl) (by omega) (by unfold maxLen; omega) (by omega) hbase _ rfl ?_
                intro gN cN wz hownN hgrowN hatN hltN
                have oG9 := obj_grown hgrowN (qA.obj oG) (farD (qA.obj oG) hown (by decide))
                have y0 : wz.cell? ⟨gW, m * 5 + 4, none⟩ = some v := (obj_cell oG9 _).trans hGc
                have y1 := obj_free oG9 (m * 5 + 4)
                have oL9 := obj_grown hgrowN (qA.obj oL) rL
                have oD9 := obj_grown hgrowN (qA.obj oDd) (farD (qA.obj oDd) hown (by decide))
                have hS9 := hfact wz (oD9.trans oDd.symm) y0 (oL9.trans oL.symm)
                clear hfact
                try simp only [Act.put, List.setIfInBounds_toArray, List.set_cons_zero, List.set_cons_succ]
                refine hK.out _ _ ?_ (fun hH => ?_)
                · first | exact ⟨((B.refl _).alloc _ _).keep hH.1, ((B.refl _).alloc _ _).keep hH.2.1, ((B.refl _).alloc _ _).keep hH.2.2.1, ((B.refl _).alloc _ _).keep hH.2.2.2.1, ((B.refl _).alloc _ _).keep hH.2.2.2.2.1, ((B.refl _).alloc _ _).keep hH.2.2.2.2.2.1, ((B.refl _).alloc _ _).keep hH.2.2.2.2.2.2.1, ((B.refl _).alloc _ _).keep hH.2.2.2.2.2.2.2⟩ | exact hS9
                clear hK
                refine wpSeqG_free (d := 101) (v := ?_) rfl rfl (by kernel_rfl) (fun w => ?_) ?_
                rotate_left
                · go_simp <;> with_reducible rfl
                dsimp only [List.set_cons_zero, List.set_cons_succ]
                refine wpSeqG_free (d := 102) (v := ?_) rfl rfl (by kernel_rfl) (fun w => ?_) ?_
                rotate_left
                · go_simp <;> with_reducible rfl
                dsimp only [List.set_cons_zero, List.set_cons_succ]
                refine wpSeqG_gate rfl (by kernel_rfl) (fun K hK => ?_)
                go_simp
                refine hK.out _ _ ?_
                clear hK
                refine wpSeqG_done ?_
                refine NoPanic.normal ?_
                all_goals
                  obtain ⟨hE, hS4⟩ := HX.out
                  have hS9' := hS9
                  clear hS9
                  have hS9 := hS7.addST hsI hgrowN hownN rfl hatN
                  rw [hm] at hS9
                  clear hH sD sv l0 l1 l2 l3 l4 l5 oG9 y0 y1 oG hGc qA hown hownN hgrowN hatN hltN hbase hS7 hS4 HX oL9 oD9 oDd rL hS9'
                  generalize wz.setCell ⟨gW, m * 5 + 4, none⟩ (.slice (some ⟨gN, 0, none⟩) (r.l.length + 1) cN) = w9 at *
                  have hadd : Dk.add ⟨dws, ws0 ++ [r], dfs⟩ 2 ⟨sr, sh, sa0, sb0, sa1, sb1⟩ = ⟨dws, ws0 ++ [moreR r ⟨sr, sh, sa0, sb0, sa1, sb1⟩], dfs⟩ := by unfold Dk.add; simp [moreW_snoc]
                  have hN2 := hN.sec ⟨sr, sh, sa0, sb0, sa1, sb1⟩
                  rw [hadd] at hE hN2
                  have y1 : w9.cell? ⟨D, 1, none⟩ = some _ := obj_cell hS9.od 1
                  have HX := Lib.hid (And.intro hE (And.intro hS9 (And.intro hN2 hl)))
                  clear hE hS9 hN2 hN hadd hsI hz oL hsl hmem hle
                  go_wp2
                  go_roundw
                  case rel =>
                    obtain ⟨hE, hS9, hN2, hl⟩ := HX.out
                    exact ⟨i + 1, ⟨dws, ws0 ++ [moreR r ⟨sr, sh, sa0, sb0, sa1, sb1⟩], dfs⟩, 2, f, _, _, _, _, _, by omega, rfl, rfl, by go_num, hS9, hN2, hE⟩
                  case measure => have := HX.out; simp [intOf]; omega
              · have hE := hP2.out
                rw [hz] at hE
                replace hE := Lib.hid hE
                have hnB : ((n : Int) != 0) = true := by simpa using hn
                have oR3 := q3.obj hS.oR
                have r0 : W3.cell? ⟨R, 0, none⟩ = some (.slice none 0 0) := obj_cell oR3 0
                have r1 : W3.cell? ⟨R, 1, none⟩ = some (.slice none 0 0) := obj_cell oR3 1
                have r2 : W3.cell? ⟨R, 2, none⟩ = some (.slice none 0 0) := obj_cell oR3 2
                have e0 := obj_free oR3 0
                have e1 := obj_free oR3 1
                have e2 := obj_free oR3 2
                have hRlt := obj_lt oR3
                have oE := ((B.refl _).alloc #[.bool sr, .int .i64 sh, .int .i64 sa0, .int .i64 sb0, .int .i64 sa1, .int .i64 sb1] 37).obj (obj_three oR3 (.slice none 0 0) (.slice none 0 0) (.slice none 0 0))
                have hqF := (b_three (hS.b.trans q3) hRge (.slice none 0 0) (.slice none 0 0) (.slice none 0 0)).alloc #[.bool sr, .int .i64 sh, .int .i64 sa0, .int .i64 sb0, .int .i64 sa1, .int .i64 sb1] 37
                have HX := Lib.hid (And.intro oE hqF)
                clear oE hqF oR3 hS4 hz hn q3 hS oDr hWr hWu hcu huc hcr x0 x1 oL
                go_wp2
                obtain ⟨oE, hqF⟩ := HX.out
                have z0 := obj_cell oE 0
                have z1 := obj_cell oE 1
                have z2 := obj_cell oE 2
                exact bodyPost_ret (v := .tuple #[.agg #[.slice none 0 0, .slice none 0 0, .slice none 0 0], .slice none 0 0, .int .i64 ((p : Nat) : Int), .int .i64 ((n : Nat) : Int)]) (by simp [results, Tryz.results18, go_sem, z0, z1, z2]) rfl
                  ⟨_, _, _, _, by rw [← hE.out], by rw [← hE.out]; exact ⟨.inl ⟨rfl, rfl⟩, .inl ⟨rfl, rfl⟩, .inl ⟨rfl, rfl⟩⟩, by rw [← hE.out]; exact .inl ⟨rfl, rfl⟩, hqF⟩
          · have tr : (KS.toList == [114, 111, 117, 110, 100]) = false := by rw [hKt, hk]; rfl
            have tb : (KS.toList == [98, 111, 120]) = true := by rw [hKt, hk]; rfl
            replace hKt := Lib.hid hKt
            clear hKS
            rcases hN.op with rfl | ⟨rfl, hne⟩ | ⟨rfl, hne⟩
            · have hugR : ug < w.heap.size := by
                obtain ⟨g', c', e', _, _, h5, _⟩ := hWu.full (by simp)
                simp only [Value.slice.injEq, Option.some.injEq, Addr.mk.injEq] at e'
                obtain ⟨⟨rfl, _⟩, _⟩ := e'
                exact h5
              have hR1 : ¬ ug = R := by omega
              have hR2 : ¬ R = ug := by omega
              have x0' : wr.drew.cell? ⟨ug, 0, none⟩ = some _ := x0
              have hE : (dk0, [], k.1, 24) = PP := by
                rw [← hP, parseD]
                simp [hk, kRound, kBox]
              replace hE := Lib.hid hE
              clear hP hk
              have oRx : wr.heap[R]? = some (.cells #[.slice none 0 0, .slice none 0 0, .slice none 0 0] 26 (0, 0)) := hS.oR
              have r0 : wr.cell? ⟨R, 0, none⟩ = some (.slice none 0 0) := obj_cell oRx 0
              have r1 : wr.cell? ⟨R, 1, none⟩ = some (.slice none 0 0) := obj_cell oRx 1
              have r2 : wr.cell? ⟨R, 2, none⟩ = some (.slice none 0 0) := obj_cell oRx 2
              have e0 := obj_free oRx 0
              have e1 := obj_free oRx 1
              have e2 := obj_free oRx 2
              have r0' : wr.drew.cell? ⟨R, 0, none⟩ = some (.slice none 0 0) := r0
              have r1' : wr.drew.cell? ⟨R, 1, none⟩ = some (.slice none 0 0) := r1
              have r2' : wr.drew.cell? ⟨R, 2, none⟩ = some (.slice none 0 0) := r2
              have e0' : wr.drew.frozen? ⟨R, 0, none⟩ = false := e0
              have e1' : wr.drew.frozen? ⟨R, 1, none⟩ = false := e1
              have e2' : wr.drew.frozen? ⟨R, 2, none⟩ = false := e2
              have hqF := b_three hS.b hRge (.slice none 0 0) (.slice none 0 0) (.slice none 0 0)
              have oE := obj_three oRx (.slice none 0 0) (.slice none 0 0) (.slice none 0 0)
              clear hS hN hDk oDr hWr hWu hcu huc y0 y1 y2 h oRx
              go_wp2_with fail
              go_region
              all_goals
                go_wp2
                have z0 := obj_cell oE 0
                have z1 := obj_cell oE 1
                have z2 := obj_cell oE 2
                exact bodyPost_ret (v := .tuple #[.agg #[.slice none 0 0, .slice none 0 0, .slice none 0 0], .slice none 0 0, .int .i64 ((k.1 : Nat) : Int), .int .i64 ((24 : Nat) : Int)]) (by simp [results, Tryz.results18, go_sem, z0, z1, z2]) rfl
                  ⟨_, _, _, _, by rw [← hE.out], by rw [← hE.out]; exact ⟨.inl ⟨rfl, rfl⟩, .inl ⟨rfl, rfl⟩, .inl ⟨rfl, rfl⟩⟩, by rw [← hE.out]; exact .inl ⟨rfl, rfl⟩, hqF.drew⟩
            · have hP2 : (match secW (k :: l) with | .error e => (dk0, [], e.1, e.2) | .ok s => parseD (L.drop (i + 1)) (d.add 1 s) 1 f) = PP := by
                rw [← hP, parseD]
                simp [hk, kRound, kBox]
                try rfl
              replace hP2 := Lib.hid hP2
              clear hP hk
              obtain ⟨i0, hi0, hz0, hz1, hz2⟩ := info_of dSecI
              obtain ⟨dws, dts, dfs⟩ := d
              obtain ⟨ws0, r, hd⟩ := last_split hne
              simp only at hd
              subst hd
              obtain ⟨ss0, v, hs⟩ := last_splitV (L := ss) (n := ws0.length) (by rw [hS.rows.sl]; simp)
              subst hs
              have hrow := hS.rows.ws
              simp only [List.length_append, List.length_cons, List.length_nil, Nat.zero_add] at hrow
              obtain ⟨gW, cW, hwv⟩ := own_form hrow
              subst hwv
              obtain ⟨a1, c1', e1'⟩ := hS.rows.dk.ts.form
              obtain ⟨a2, c2', e2'⟩ := hS.rows.dk.fs.form
              subst e1' e2'
              obtain ⟨m, hm⟩ : ∃ m, ws0.length = m := ⟨_, rfl⟩
              have hm9 : m ≤ 100000 := by have := hN.w8; simp at this; omega
              have hrl : r.l.length ≤ 100000 := by have := hN.wn r (by simp); omega
              have hsl : ss0.length = ws0.length := by have := hS.rows.sl; simpa using this
              have k1 : IntKind.i64.wrap ((m : Int) + 1 - 1) = (m : Int) := by rw [IntKind.wrap_i64]; omega
              have k2 : (m : Int) < (m : Int) + 1 := by omega
              have k3 : (0 : Int) ≤ (m : Int) := by omega
              have cS := r8section_any _ k l wr hWr (by simp at hle; omega)
              clear hDk hrow
              rw [hm] at y0
              go_wp2_with fail
              refine cS.mono ?_
              intro e3 W3 hR3
              obtain ⟨s, p, n, rfl, q3, hz⟩ := sec_uni hR3
              clear cS hR3
              obtain ⟨sr, sh, sa0, sb0, sa1, sb1⟩ := s
              unfold Sec.agg
              have hS4 := hS.keep (q3.trans ((B.refl W3).alloc #[.bool sr, .int .i64 sh, .int .i64 sa0, .int .i64 sb0, .int .i64 sa1, .int .i64 sb1] 37))
              have oL := obj_new W3 (.cells #[.bool sr, .int .i64 sh, .int .i64 sa0, .int .i64 sb0, .int .i64 sa1, .int .i64 sb1] 37)
              have y0 := q3.keep y0
              have y1 := q3.keep y1
              have hDlt : D < W3.heap.size := obj_lt (q3.obj hS.od)
              rcases hz with ⟨rfl, hz, hsI⟩ | ⟨hn, hz⟩
              · have hE := hP2.out
                rw [hz] at hE
                have rL : v.ownBlock ≠ some W3.heap.size := fun e => by
                  have h1 := ((hS.rows.sh ws0.length r v (by simp) (by rw [← hsl]; simp)).lt _ e).2
                  have h2 := q3.below.size
                  omega
                have HX := Lib.hid (And.intro hE (And.intro hS4 (And.intro oL (And.intro hsI (And.intro hz rL)))))
                clear hE hS4 oL hsI hz rL q3 hS oDr hWr hWu hcu huc hcr x0 x1
                go_wp2_with fail
                obtain ⟨hE, hS4, oL, hsI, hz, rL⟩ := HX.out
                clear HX y0 y1 y2
                generalize W3.alloc (.cells #[.bool sr, .int .i64 sh, .int .i64 sa0, .int .i64 sb0, .int .i64 sa1, .int .i64 sb1] 37) = w4 at *
                generalize W3.heap.size = Lb at *
                have qA : B w4 (w4.drew.alloc (.cells #[.bool sr, .int .i64 sh, .int .i64 sa0, .int .i64 sb0, .int .i64 sa1, .int .i64 sb1] 37)) := (B.refl w4).drew.alloc _ _
                have hS7 := hS4.keep qA
                have hown := hS7.rows.sh ws0.length r v (by simp) (by rw [← hsl]; simp)
                have hbase : w.heap.size ≤ (w4.drew.alloc (.cells #[.bool sr, .int .i64 sh, .int .i64 sa0, .int .i64 sb0, .int .i64 sa1, .int .i64 sb1] 37)).heap.size := hS7.b.below.size
                obtain ⟨_, curG, oG⟩ := ownsRow_obj hS4.rows.ws (i := gW) rfl
                have hGc : curG[m * 5 + 4]? = some v := by
                  have h1 := hS4.rows.ws.cells (g := gW) rfl (m * 5 + 4) v (by rw [← hm, flatR_get _ _ ws0.length 4 r v (by simp) (by rw [← hsl]; simp) (by omega)]; rfl)
                  rw [add0, obj_cell oG] at h1
                  exact h1
                have sD : w4.drew.cell? ⟨D, 0, none⟩ = some (.slice (some ⟨gW, 0, none⟩) (m + 1) cW) := by rw [← hm]; exact obj_cell (w := w4.drew) hS4.od 0
                have sv : w4.drew.cell? ⟨gW, m * 5 + 4, none⟩ = some v := (obj_cell (w := w4.drew) oG _).trans hGc
                have l0 : w4.drew.cell? ⟨Lb, 0, none⟩ = some (.bool sr) := obj_cell (w := w4.drew) oL 0
                have l1 : w4.drew.cell? ⟨Lb, 1, none⟩ = some (.int .i64 sh) := obj_cell (w := w4.drew) oL 1
                have l2 : w4.drew.cell? ⟨Lb, 2, none⟩ = some (.int .i64 sa0) := obj_cell (w := w4.drew) oL 2
                have l3 : w4.drew.cell? ⟨Lb, 3, none⟩ = some (.int .i64 sb0) := obj_cell (w := w4.drew) oL 3
                have l4 : w4.drew.cell? ⟨Lb, 4, none⟩ = some (.int .i64 sa1) := obj_cell (w := w4.drew) oL 4
                have l5 : w4.drew.cell? ⟨Lb, 5, none⟩ = some (.int .i64 sb1) := obj_cell (w := w4.drew) oL 5
                have oDd := hS4.od
                have hfact : ∀ wz : World, wz.heap[D]? = w4.heap[D]? → wz.cell? ⟨gW, m * 5 + 4, none⟩ = some v → wz.heap[Lb]? = w4.heap[Lb]? → wz.cell? ⟨D, 0, none⟩ = some (.slice (some ⟨gW, 0, none⟩) (m + 1) cW) ∧ wz.cell? ⟨gW, m * 5 + 4, none⟩ = some v ∧ wz.cell? ⟨Lb, 0, none⟩ = some (.bool sr) ∧ wz.cell? ⟨Lb, 1, none⟩ = some (.int .i64 sh) ∧ wz.cell? ⟨Lb, 2, none⟩ = some (.int .i64 sa0) ∧ wz.cell? ⟨Lb, 3, none⟩ = some (.int .i64 sb0) ∧ wz.cell? ⟨Lb, 4, none⟩ = some (.int .i64 sa1) ∧ wz.cell? ⟨Lb, 5, none⟩ = some (.int .i64 sb1) :=
                  fun wz h1 h2 h3 => ⟨(obj_cell (h1.trans oDd) 0).trans (by rw [← hm]; rfl), h2, obj_cell (h3.trans oL) 0, obj_cell (h3.trans oL) 1, obj_cell (h3.trans oL) 2, obj_cell (h3.trans oL) 3, obj_cell (h3.trans oL) 4, obj_cell (h3.trans oL) 5⟩
                have HX := Lib.hid (And.intro hE hS4)
                clear hE hS4
                refine wp_region_noPanic ?_
                refine wp_region_gate (S := fun w' => w'.cell? ⟨D, 0, none⟩ = some (.slice (some ⟨gW, 0, none⟩) (m + 1) cW) ∧ w'.cell? ⟨gW, m * 5 + 4, none⟩ = some v ∧ w'.cell? ⟨Lb, 0, none⟩ = some (.bool sr) ∧ w'.cell? ⟨Lb, 1, none⟩ = some (.int .i64 sh) ∧ w'.cell? ⟨Lb, 2, none⟩ = some (.int .i64 sa0) ∧ w'.cell? ⟨Lb, 3, none⟩ = some (.int .i64 sb0) ∧ w'.cell? ⟨Lb, 4, none⟩ = some (.int .i64 sa1) ∧ w'.cell? ⟨Lb, 5, none⟩ = some (.int .i64 sb1)) 14 [(0, 3), (1, 0), (2, 3), (3, 3), (4, 0), (5, 3), (6, 3), (7, 3), (8, 0), (9, 0), (10, 2), (11, 2), (12, 3), (13, 3), (14, 4)] [0, 1, 0, 0, 8, 0, 48, 64, 128, 0, 512, 1280, 4095, 8191, 12287] [0, 1, 0, 0, 8, 0, 48, 64, 128, 0, 512, 1280, 6, 4096, 10240] [0, 28674, 0, 0, 31184, 0, 0, 0, 30976, 32256, 0, 0, 0, 0, 0] (by kernel_rfl) (by kernel_rfl) (fun _ _ _ _ _ h => h) ?_ (fun hH => ?_)
                · exact ⟨sD, sv, l0, l1, l2, l3, l4, l5⟩
                refine wpSeqG_free (d := 69) (v := ?_) rfl rfl (by kernel_rfl) (fun w => ?_) ?_
                rotate_left
                · go_simp <;> with_reducible rfl
                dsimp only [List.set_cons_zero, List.set_cons_succ]
                refine wpSeqG_take (d := 70) (v := ?_) rfl rfl (by kernel_rfl) (fun w hS => ?_) ?_
                rotate_left
                · go_simp <;> with_reducible rfl
                dsimp only [List.set_cons_zero, List.set_cons_succ]
                refine wpSeqG_free (d := 71) (v := ?_) rfl rfl (by kernel_rfl) (fun w => ?_) ?_
                rotate_left
                · go_simp <;> with_reducible rfl
                dsimp only [List.set_cons_zero, List.set_cons_succ]
                refine wpSeqG_free (d := 72) (v := ?_) rfl rfl (by kernel_rfl) (fun w => ?_) ?_
                rotate_left
                · go_simp <;> with_reducible rfl
                dsimp only [List.set_cons_zero, List.set_cons_succ]
                refine wpSeqG_take (d := 73) (v := ?_) rfl rfl (by kernel_rfl) (fun w hS => ?_) ?_
                rotate_left
                · go_simp <;> with_reducible rfl
                dsimp only [List.set_cons_zero, List.set_cons_succ]
                refine wpSeqG_free (d := 74) (v := ?_) rfl rfl (by kernel_rfl) (fun w => ?_) ?_
                rotate_left
                · go_simp <;> with_reducible rfl
                dsimp only [List.set_cons_zero, List.set_cons_succ]
                refine wpSeqG_free (d := 75) (v := ?_) rfl rfl (by kernel_rfl) (fun w => ?_) ?_
                rotate_left
                · go_simp <;> with_reducible rfl
                dsimp only [List.set_cons_zero, List.set_cons_succ]
                refine wpSeqG_free (d := 76) (v := ?_) rfl rfl (by kernel_rfl) (fun w => ?_) ?_
                rotate_left
                · go_simp <;> with_reducible rfl
                dsimp only [List.set_cons_zero, List.set_cons_succ]
                refine wpSeqG_take (d := 77) (v := ?_) rfl rfl (by kernel_rfl) (fun w hS => ?_) ?_
                rotate_left
                · go_simp <;> with_reducible rfl
                dsimp only [List.set_cons_zero, List.set_cons_succ]
                refine wpSeqG_take (d := 78) (v := ?_) rfl rfl (by kernel_rfl) (fun w hS => ?_) ?_
                rotate_left
                · go_simp <;> with_reducible rfl
                dsimp only [List.set_cons_zero, List.set_cons_succ]
                refine wpSeqG_call rfl (by kernel_rfl) (fun K hK => ?_)
                go_simp
                refine hK.out _ _ ?_ (fun hH => ?_)
                · first | exact ⟨((B.refl _).alloc _ _).keep hH.1, ((B.refl _).alloc _ _).keep hH.2.1, ((B.refl _).alloc _ _).keep hH.2.2.1, ((B.refl _).alloc _ _).keep hH.2.2.2.1, ((B.refl _).alloc _ _).keep hH.2.2.2.2.1, ((B.refl _).alloc _ _).keep hH.2.2.2.2.2.1, ((B.refl _).alloc _ _).keep hH.2.2.2.2.2.2.1, ((B.refl _).alloc _ _).keep hH.2.2.2.2.2.2.2⟩ | exact hS9
                clear hK
                refine wpSeqG_call rfl (by kernel_rfl) (fun K hK => ?_)
                refine wp_append_lies _ _ _ 31 rfl w.heap.size 37 i0 (.agg #[.bool false, .int .i64 0, .int .i64 0, .int .i64 0, .int .i64 0, .int .i64 0]) 6 48 (by kernel_rfl) hi0 hz0 hz1 hz2 rfl (by omega) _ _ _ rfl hown ⟨w4.heap.size, 0, none⟩ 1 1 [.bool sr, .int .i64 sh, .int .i64 sa0, .int .i64 sb0, .int .i64 sa1, .int .i64 sb1] rfl rfl (news_plain rfl) (by intro u hu; simp only [List.mem_cons, List.not_mem_nil, or_false] at hu; rcases hu with rfl | rfl | rfl | rfl | rfl | rfl <;> rfl) (by omega) (by unfold maxLen; omega) (by omega) hbase _ rfl ?_
                intro gN cN wz hownN hgrowN hatN hltN
                have oG9 := obj_grown hgrowN (qA.obj oG) (farD (qA.obj oG) hown (by decide))
                have y0 : wz.cell? ⟨gW, m * 5 + 4, none⟩ = some v := (obj_cell oG9 _).trans hGc
                have y1 := obj_free oG9 (m * 5 + 4)
                have oL9 := obj_grown hgrowN (qA.obj oL) rL
                have oD9 := obj_grown hgrowN (qA.obj oDd) (farD (qA.obj oDd) hown (by decide))
                have hS9 := hfact wz (oD9.trans oDd.symm) y0 (oL9.trans oL.symm)
                clear hfact
                try simp only [Act.put, List.setIfInBounds_toArray, List.set_cons_zero, List.set_cons_succ]
                refine hK.out _ _ ?_ (fun hH => ?_)
                · first | exact ⟨((B.refl _).alloc _ _).keep hH.1, ((B.refl _).alloc _ _).keep hH.2.1, ((B.refl _).alloc _ _).keep hH.2.2.1, ((B.refl _).alloc _ _).keep hH.2.2.2.1, ((B.refl _).alloc _ _).keep hH.2.2.2.2.1, ((B.refl _).alloc _ _).keep hH.2.2.2.2.2.1, ((B.refl _).alloc _ _).keep hH.2.2.2.2.2.2.1, ((B.refl _).alloc _ _).keep hH.2.2.2.2.2.2.2⟩ | exact hS9
                clear hK
                refine wpSeqG_free (d := 81) (v := ?_) rfl rfl (by kernel_rfl) (fun w => ?_) ?_
                rotate_left
                · go_simp <;> with_reducible rfl
                dsimp only [List.set_cons_zero, List.set_cons_succ]
                refine wpSeqG_free (d := 82) (v := ?_) rfl rfl (by kernel_rfl) (fun w => ?_) ?_
                rotate_left
                · go_simp <;> with_reducible rfl
                dsimp only [List.set_cons_zero, List.set_cons_succ]
                refine wpSeqG_gate rfl (by kernel_rfl) (fun K hK => ?_)
                go_simp
                refine hK.out _ _ ?_
                clear hK
                refine wpSeqG_done ?_
                refine NoPanic.normal ?_
                all_goals
                  obtain ⟨hE, hS4⟩ := HX.out
                  have hS9' := hS9
                  clear hS9
                  have hS9 := hS7.addSW hsI hgrowN hownN rfl hatN
                  rw [hm] at hS9
                  clear hH sD sv l0 l1 l2 l3 l4 l5 oG9 y0 y1 oG hGc qA hown hownN hgrowN hatN hltN hbase hS7 hS4 HX oL9 oD9 oDd rL hS9'
                  generalize wz.setCell ⟨gW, m * 5 + 4, none⟩ (.slice (some ⟨gN, 0, none⟩) (r.l.length + 1) cN) = w9 at *
                  have hadd : Dk.add ⟨ws0 ++ [r], dts, dfs⟩ 1 ⟨sr, sh, sa0, sb0, sa1, sb1⟩ = ⟨ws0 ++ [moreR r ⟨sr, sh, sa0, sb0, sa1, sb1⟩], dts, dfs⟩ := by unfold Dk.add; simp [moreW_snoc]
                  have hN2 := hN.sec ⟨sr, sh, sa0, sb0, sa1, sb1⟩
                  rw [hadd] at hE hN2
                  have y1 : w9.cell? ⟨D, 1, none⟩ = some _ := obj_cell hS9.od 1
                  have HX := Lib.hid (And.intro hE (And.intro hS9 (And.intro hN2 hl)))
                  clear hE hS9 hN2 hN hadd hsI hz oL hsl hmem hle
                  go_wp2
                  go_roundw
                  case rel =>
                    obtain ⟨hE, hS9, hN2, hl⟩ := HX.out
                    exact ⟨i + 1, ⟨ws0 ++ [moreR r ⟨sr, sh, sa0, sb0, sa1, sb1⟩], dts, dfs⟩, 1, f, _, _, _, _, _, by omega, rfl, rfl, by go_num, hS9, hN2, hE⟩
                  case measure => have := HX.out; simp [intOf]; omega
              · have hE := hP2.out
                rw [hz] at hE
                replace hE := Lib.hid hE
                have hnB : ((n : Int) != 0) = true := by simpa using hn
                have oR3 := q3.obj hS.oR
                have r0 : W3.cell? ⟨R, 0, none⟩ = some (.slice none 0 0) := obj_cell oR3 0
                have r1 : W3.cell? ⟨R, 1, none⟩ = some (.slice none 0 0) := obj_cell oR3 1
                have r2 : W3.cell? ⟨R, 2, none⟩ = some (.slice none 0 0) := obj_cell oR3 2
                have e0 := obj_free oR3 0
                have e1 := obj_free oR3 1
                have e2 := obj_free oR3 2
                have hRlt := obj_lt oR3
                have oE := ((B.refl _).alloc #[.bool sr, .int .i64 sh, .int .i64 sa0, .int .i64 sb0, .int .i64 sa1, .int .i64 sb1] 37).obj (obj_three oR3 (.slice none 0 0) (.slice none 0 0) (.slice none 0 0))
                have hqF := (b_three (hS.b.trans q3) hRge (.slice none 0 0) (.slice none 0 0) (.slice none 0 0)).alloc #[.bool sr, .int .i64 sh, .int .i64 sa0, .int .i64 sb0, .int .i64 sa1, .int .i64 sb1] 37
                have HX := Lib.hid (And.intro oE hqF)
                clear oE hqF oR3 hS4 hz hn q3 hS oDr hWr hWu hcu huc hcr x0 x1 oL
                go_wp2
                obtain ⟨oE, hqF⟩ := HX.out
                have z0 := obj_cell oE 0
                have z1 := obj_cell oE 1
                have z2 := obj_cell oE 2
                exact bodyPost_ret (v := .tuple #[.agg #[.slice none 0 0, .slice none 0 0, .slice none 0 0], .slice none 0 0, .int .i64 ((p : Nat) : Int), .int .i64 ((n : Nat) : Int)]) (by simp [results, Tryz.results18, go_sem, z0, z1, z2]) rfl
                  ⟨_, _, _, _, by rw [← hE.out], by rw [← hE.out]; exact ⟨.inl ⟨rfl, rfl⟩, .inl ⟨rfl, rfl⟩, .inl ⟨rfl, rfl⟩⟩, by rw [← hE.out]; exact .inl ⟨rfl, rfl⟩, hqF⟩
            · have hP2 : (match secW (k :: l) with | .error e => (dk0, [], e.1, e.2) | .ok s => parseD (L.drop (i + 1)) (d.add 2 s) 2 f) = PP := by
                rw [← hP, parseD]
                simp [hk, kRound, kBox]
                try rfl
              replace hP2 := Lib.hid hP2
              clear hP hk
              obtain ⟨i0, hi0, hz0, hz1, hz2⟩ := info_of dSecI
              obtain ⟨dws, dts, dfs⟩ := d
              obtain ⟨ws0, r, hd⟩ := last_split hne
              simp only at hd
              subst hd
              obtain ⟨ss0, v, hs⟩ := last_splitV (L := tt) (n := ws0.length) (by rw [hS.rows.tl]; simp)
              subst hs
              have hrow := hS.rows.ts
              simp only [List.length_append, List.length_cons, List.length_nil, Nat.zero_add] at hrow
              obtain ⟨gW, cW, hwv⟩ := own_form hrow
              subst hwv
              obtain ⟨a1, c1', e1'⟩ := hS.rows.dk.ws.form
              obtain ⟨a2, c2', e2'⟩ := hS.rows.dk.fs.form
              subst e1' e2'
              obtain ⟨m, hm⟩ : ∃ m, ws0.length = m := ⟨_, rfl⟩
              have hm9 : m ≤ 100000 := by have := hN.t4; simp at this; omega
              have hrl : r.l.length ≤ 100000 := by have := hN.tn r (by simp); omega
              have hsl : ss0.length = ws0.length := by have := hS.rows.tl; simpa using this
              have k1 : IntKind.i64.wrap ((m : Int) + 1 - 1) = (m : Int) := by rw [IntKind.wrap_i64]; omega
              have k2 : (m : Int) < (m : Int) + 1 := by omega
              have k3 : (0 : Int) ≤ (m : Int) := by omega
              have cS := r8section_any _ k l wr hWr (by simp at hle; omega)
              clear hDk hrow
              rw [hm] at y1
              go_wp2_with fail
              refine cS.mono ?_
              intro e3 W3 hR3
              obtain ⟨s, p, n, rfl, q3, hz⟩ := sec_uni hR3
              clear cS hR3
              obtain ⟨sr, sh, sa0, sb0, sa1, sb1⟩ := s
              unfold Sec.agg
              have hS4 := hS.keep (q3.trans ((B.refl W3).alloc #[.bool sr, .int .i64 sh, .int .i64 sa0, .int .i64 sb0, .int .i64 sa1, .int .i64 sb1] 37))
              have oL := obj_new W3 (.cells #[.bool sr, .int .i64 sh, .int .i64 sa0, .int .i64 sb0, .int .i64 sa1, .int .i64 sb1] 37)
              have y0 := q3.keep y0
              have y1 := q3.keep y1
              have hDlt : D < W3.heap.size := obj_lt (q3.obj hS.od)
              rcases hz with ⟨rfl, hz, hsI⟩ | ⟨hn, hz⟩
              · have hE := hP2.out
                rw [hz] at hE
                have rL : v.ownBlock ≠ some W3.heap.size := fun e => by
                  have h1 := ((hS.rows.th ws0.length r v (by simp) (by rw [← hsl]; simp)).lt _ e).2
                  have h2 := q3.below.size
                  omega
                have HX := Lib.hid (And.intro hE (And.intro hS4 (And.intro oL (And.intro hsI (And.intro hz rL)))))
                clear hE hS4 oL hsI hz rL q3 hS oDr hWr hWu hcu huc hcr x0 x1
                go_wp2_with fail
                obtain ⟨hE, hS4, oL, hsI, hz, rL⟩ := HX.out
                clear HX y0 y1 y2
                generalize W3.alloc (.cells #[.bool sr, .int .i64 sh, .int .i64 sa0, .int .i64 sb0, .int .i64 sa1, .int .i64 sb1] 37) = w4 at *
                generalize W3.heap.size = Lb at *
                have qA : B w4 (w4.drew.alloc (.cells #[.bool sr, .int .i64 sh, .int .i64 sa0, .int .i64 sb0, .int .i64 sa1, .int .i64 sb1] 37)) := (B.refl w4).drew.alloc _ _
                have hS7 := hS4.keep qA
                have hown := hS7.rows.th ws0.length r v (by simp) (by rw [← hsl]; simp)
                have hbase : w.heap.size ≤ (w4.drew.alloc (.cells #[.bool sr, .int .i64 sh, .int .i64 sa0, .int .i64 sb0, .int .i64 sa1, .int .i64 sb1] 37)).heap.size := hS7.b.below.size
                obtain ⟨_, curG, oG⟩ := ownsRow_obj hS4.rows.ts (i := gW) rfl
                have hGc : curG[m * 5 + 4]? = some v := by
                  have h1 := hS4.rows.ts.cells (g := gW) rfl (m * 5 + 4) v (by rw [← hm, flatR_get _ _ ws0.length 4 r v (by simp) (by rw [← hsl]; simp) (by omega)]; rfl)
                  rw [add0, obj_cell oG] at h1
                  exact h1
                have sD : w4.drew.cell? ⟨D, 1, none⟩ = some (.slice (some ⟨gW, 0, none⟩) (m + 1) cW) := by rw [← hm]; exact obj_cell (w := w4.drew) hS4.od 1
                have sv : w4.drew.cell? ⟨gW, m * 5 + 4, none⟩ = some v := (obj_cell (w := w4.drew) oG _).trans hGc
                have l0 : w4.drew.cell? ⟨Lb, 0, none⟩ = some (.bool sr) := obj_cell (w := w4.drew) oL 0
                have l1 : w4.drew.cell? ⟨Lb, 1, none⟩ = some (.int .i64 sh) := obj_cell (w := w4.drew) oL 1
                have l2 : w4.drew.cell? ⟨Lb, 2, none⟩ = some (.int .i64 sa0) := obj_cell (w := w4.drew) oL 2
                have l3 : w4.drew.cell? ⟨Lb, 3, none⟩ = some (.int .i64 sb0) := obj_cell (w := w4.drew) oL 3
                have l4 : w4.drew.cell? ⟨Lb, 4, none⟩ = some (.int .i64 sa1) := obj_cell (w := w4.drew) oL 4
                have l5 : w4.drew.cell? ⟨Lb, 5, none⟩ = some (.int .i64 sb1) := obj_cell (w := w4.drew) oL 5
                have oDd := hS4.od
                have hfact : ∀ wz : World, wz.heap[D]? = w4.heap[D]? → wz.cell? ⟨gW, m * 5 + 4, none⟩ = some v → wz.heap[Lb]? = w4.heap[Lb]? → wz.cell? ⟨D, 1, none⟩ = some (.slice (some ⟨gW, 0, none⟩) (m + 1) cW) ∧ wz.cell? ⟨gW, m * 5 + 4, none⟩ = some v ∧ wz.cell? ⟨Lb, 0, none⟩ = some (.bool sr) ∧ wz.cell? ⟨Lb, 1, none⟩ = some (.int .i64 sh) ∧ wz.cell? ⟨Lb, 2, none⟩ = some (.int .i64 sa0) ∧ wz.cell? ⟨Lb, 3, none⟩ = some (.int .i64 sb0) ∧ wz.cell? ⟨Lb, 4, none⟩ = some (.int .i64 sa1) ∧ wz.cell? ⟨Lb, 5, none⟩ = some (.int .i64 sb1) :=
                  fun wz h1 h2 h3 => ⟨(obj_cell (h1.trans oDd) 1).trans (by rw [← hm]; rfl), h2, obj_cell (h3.trans oL) 0, obj_cell (h3.trans oL) 1, obj_cell (h3.trans oL) 2, obj_cell (h3.trans oL) 3, obj_cell (h3.trans oL) 4, obj_cell (h3.trans oL) 5⟩
                have HX := Lib.hid (And.intro hE hS4)
                clear hE hS4
                refine wp_region_noPanic ?_
                refine wp_region_gate (S := fun w' => w'.cell? ⟨D, 1, none⟩ = some (.slice (some ⟨gW, 0, none⟩) (m + 1) cW) ∧ w'.cell? ⟨gW, m * 5 + 4, none⟩ = some v ∧ w'.cell? ⟨Lb, 0, none⟩ = some (.bool sr) ∧ w'.cell? ⟨Lb, 1, none⟩ = some (.int .i64 sh) ∧ w'.cell? ⟨Lb, 2, none⟩ = some (.int .i64 sa0) ∧ w'.cell? ⟨Lb, 3, none⟩ = some (.int .i64 sb0) ∧ w'.cell? ⟨Lb, 4, none⟩ = some (.int .i64 sa1) ∧ w'.cell? ⟨Lb, 5, none⟩ = some (.int .i64 sb1)) 14 [(0, 3), (1, 0), (2, 3), (3, 3), (4, 0), (5, 3), (6, 3), (7, 3), (8, 0), (9, 0), (10, 2), (11, 2), (12, 3), (13, 3), (14, 4)] [0, 1, 0, 0, 8, 0, 48, 64, 128, 0, 512, 1280, 4095, 8191, 12287] [0, 1, 0, 0, 8, 0, 48, 64, 128, 0, 512, 1280, 6, 4096, 10240] [0, 28674, 0, 0, 31184, 0, 0, 0, 30976, 32256, 0, 0, 0, 0, 0] (by kernel_rfl) (by kernel_rfl) (fun _ _ _ _ _ h => h) ?_ (fun hH => ?_)
                · exact ⟨sD, sv, l0, l1, l2, l3, l4, l5⟩
                refine wpSeqG_free (d := 89) (v := ?_) rfl rfl (by kernel_rfl) (fun w => ?_) ?_
                rotate_left
                · go_simp <;> with_reducible rfl
                dsimp only [List.set_cons_zero, List.set_cons_succ]
                refine wpSeqG_take (d := 90) (v := ?_) rfl rfl (by kernel_rfl) (fun w hS => ?_) ?_
                rotate_left
                · go_simp <;> with_reducible rfl
                dsimp only [List.set_cons_zero, List.set_cons_succ]
                refine wpSeqG_free (d := 91) (v := ?_) rfl rfl (by kernel_rfl) (fun w => ?_) ?_
                rotate_left
                · go_simp <;> with_reducible rfl
                dsimp only [List.set_cons_zero, List.set_cons_succ]
                refine wpSeqG_free (d := 92) (v := ?_) rfl rfl (by kernel_rfl) (fun w => ?_) ?_
                rotate_left
                · go_simp <;> with_reducible rfl
                dsimp only [List.set_cons_zero, List.set_cons_succ]
                refine wpSeqG_take (d := 93) (v := ?_) rfl rfl (by kernel_rfl) (fun w hS => ?_) ?_
                rotate_left
                · go_simp <;> with_reducible rfl
                dsimp only [List.set_cons_zero, List.set_cons_succ]
                refine wpSeqG_free (d := 94) (v := ?_) rfl rfl (by kernel_rfl) (fun w => ?_) ?_
                rotate_left
                · go_simp <;> with_reducible rfl
                dsimp only [List.set_cons_zero, List.set_cons_succ]
                refine wpSeqG_free (d := 95) (v := ?_) rfl rfl (by kernel_rfl) (fun w => ?_) ?_
                rotate_left
                · go_simp <;> with_reducible rfl
                dsimp only [List.set_cons_zero, List.set_cons_succ]
                refine wpSeqG_free (d := 96) (v := ?_) rfl rfl (by kernel_rfl) (fun w => ?_) ?_
                rotate_left
                · go_simp <;> with_reducible rfl
                dsimp only [List.set_cons_zero, List.set_cons_succ]
                refine wpSeqG_take (d := 97) (v := ?_) rfl rfl (by kernel_rfl) (fun w hS => ?_) ?_
                rotate_left
                · go_simp <;> with_reducible rfl
                dsimp only [List.set_cons_zero, List.set_cons_succ]
                refine wpSeqG_take (d := 98) (v := ?_) rfl rfl (by kernel_rfl) (fun w hS => ?_) ?_
                rotate_left
                · go_simp <;> with_reducible rfl
                dsimp only [List.set_cons_zero, List.set_cons_succ]
                refine wpSeqG_call rfl (by kernel_rfl) (fun K hK => ?_)
                go_simp
                refine hK.out _ _ ?_ (fun hH => ?_)
                · first | exact ⟨((B.refl _).alloc _ _).keep hH.1, ((B.refl _).alloc _ _).keep hH.2.1, ((B.refl _).alloc _ _).keep hH.2.2.1, ((B.refl _).alloc _ _).keep hH.2.2.2.1, ((B.refl _).alloc _ _).keep hH.2.2.2.2.1, ((B.refl _).alloc _ _).keep hH.2.2.2.2.2.1, ((B.refl _).alloc _ _).keep hH.2.2.2.2.2.2.1, ((B.refl _).alloc _ _).keep hH.2.2.2.2.2.2.2⟩ | exact hS9
                clear hK
                refine wpSeqG_call rfl (by kernel_rfl) (fun K hK => ?_)
                refine wp_append_lies _ _ _ 31 rfl w.heap.size 37 i0 (.agg #[.bool false, .int .i64 0, .int .i64 0, .int .i64 0, .int .i64 0, .int .i64 0]) 6 48 (by kernel_rfl) hi0 hz0 hz1 hz2 rfl (by omega) _ _ _ rfl hown ⟨w4.heap.size, 0, none⟩ 1 1 [.bool sr, .int .i64 sh, .int .i64 sa0, .int .i64 sb0, .int .i64 sa1, .int .i64 sb1] rfl rfl (news_plain rfl) (by intro u hu; simp only [List.mem_cons, List.not_mem_nil, or_false] at hu; rcases hu with rfl | rfl | rfl | rfl | rfl | rfl <;> rfl) (by omega) (by unfold maxLen; omega) (by omega) hbase _ rfl ?_
                intro gN cN wz hownN hgrowN hatN hltN
                have oG9 := obj_grown hgrowN (qA.obj oG) (farD (qA.obj oG) hown (by decide))
                have y0 : wz.cell? ⟨gW, m * 5 + 4, none⟩ = some v := (obj_cell oG9 _).trans hGc
                have y1 := obj_free oG9 (m * 5 + 4)
                have oL9 := obj_grown hgrowN (qA.obj oL) rL
                have oD9 := obj_grown hgrowN (qA.obj oDd) (farD (qA.obj oDd) hown (by decide))
                have hS9 := hfact wz (oD9.trans oDd.symm) y0 (oL9.trans oL.symm)
                clear hfact
                try simp only [Act.put, List.setIfInBounds_toArray, List.set_cons_zero, List.set_cons_succ]
                refine hK.out _ _ ?_ (fun hH => ?_)
                · first | exact ⟨((B.refl _).alloc _ _).keep hH.1, ((B.refl _).alloc _ _).keep hH.2.1, ((B.refl _).alloc _ _).keep hH.2.2.1, ((B.refl _).alloc _ _).keep hH.2.2.2.1, ((B.refl _).alloc _ _).keep hH.2.2.2.2.1, ((B.refl _).alloc _ _).keep hH.2.2.2.2.2.1, ((B.refl _).alloc _ _).keep hH.2.2.2.2.2.2.1, ((B.refl _).alloc _ _).keep hH.2.2.2.2.2.2.2⟩ | exact hS9
                clear hK
                refine wpSeqG_free (d := 101) (v := ?_) rfl rfl (by kernel_rfl) (fun w => ?_) ?_
                rotate_left
                · go_simp <;> with_reducible rfl
                dsimp only [List.set_cons_zero, List.set_cons_succ]
                refine wpSeqG_free (d := 102) (v := ?_) rfl rfl (by kernel_rfl) (fun w => ?_) ?_
                rotate_left
                · go_simp <;> with_reducible rfl
                dsimp only [List.set_cons_zero, List.set_cons_succ]
                refine wpSeqG_gate rfl (by kernel_rfl) (fun K hK => ?_)
                go_simp
                refine hK.out _ _ ?_
                clear hK
                refine wpSeqG_done ?_
                refine NoPanic.normal ?_
                all_goals
                  obtain ⟨hE, hS4⟩ := HX.out
                  have hS9' := hS9
                  clear hS9
                  have hS9 := hS7.addST hsI hgrowN hownN rfl hatN
                  rw [hm] at hS9
                  clear hH sD sv l0 l1 l2 l3 l4 l5 oG9 y0 y1 oG hGc qA hown hownN hgrowN hatN hltN hbase hS7 hS4 HX oL9 oD9 oDd rL hS9'
                  generalize wz.setCell ⟨gW, m * 5 + 4, none⟩ (.slice (some ⟨gN, 0, none⟩) (r.l.length + 1) cN) = w9 at *
                  have hadd : Dk.add ⟨dws, ws0 ++ [r], dfs⟩ 2 ⟨sr, sh, sa0, sb0, sa1, sb1⟩ = ⟨dws, ws0 ++ [moreR r ⟨sr, sh, sa0, sb0, sa1, sb1⟩], dfs⟩ := by unfold Dk.add; simp [moreW_snoc]
                  have hN2 := hN.sec ⟨sr, sh, sa0, sb0, sa1, sb1⟩
                  rw [hadd] at hE hN2
                  have y1 : w9.cell? ⟨D, 1, none⟩ = some _ := obj_cell hS9.od 1
                  have HX := Lib.hid (And.intro hE (And.intro hS9 (And.intro hN2 hl)))
                  clear hE hS9 hN2 hN hadd hsI hz oL hsl hmem hle
                  go_wp2
                  go_roundw
                  case rel =>
                    obtain ⟨hE, hS9, hN2, hl⟩ := HX.out
                    exact ⟨i + 1, ⟨dws, ws0 ++ [moreR r ⟨sr, sh, sa0, sb0, sa1, sb1⟩], dfs⟩, 2, f, _, _, _, _, _, by omega, rfl, rfl, by go_num, hS9, hN2, hE⟩
                  case measure => have := HX.out; simp [intOf]; omega
              · have hE := hP2.out
                rw [hz] at hE
                replace hE := Lib.hid hE
                have hnB : ((n : Int) != 0) = true := by simpa using hn
                have oR3 := q3.obj hS.oR
                have r0 : W3.cell? ⟨R, 0, none⟩ = some (.slice none 0 0) := obj_cell oR3 0
                have r1 : W3.cell? ⟨R, 1, none⟩ = some (.slice none 0 0) := obj_cell oR3 1
                have r2 : W3.cell? ⟨R, 2, none⟩ = some (.slice none 0 0) := obj_cell oR3 2
                have e0 := obj_free oR3 0
                have e1 := obj_free oR3 1
                have e2 := obj_free oR3 2
                have hRlt := obj_lt oR3
                have oE := ((B.refl _).alloc #[.bool sr, .int .i64 sh, .int .i64 sa0, .int .i64 sb0, .int .i64 sa1, .int .i64 sb1] 37).obj (obj_three oR3 (.slice none 0 0) (.slice none 0 0) (.slice none 0 0))
                have hqF := (b_three (hS.b.trans q3) hRge (.slice none 0 0) (.slice none 0 0) (.slice none 0 0)).alloc #[.bool sr, .int .i64 sh, .int .i64 sa0, .int .i64 sb0, .int .i64 sa1, .int .i64 sb1] 37
                have HX := Lib.hid (And.intro oE hqF)
                clear oE hqF oR3 hS4 hz hn q3 hS oDr hWr hWu hcu huc hcr x0 x1 oL
                go_wp2
                obtain ⟨oE, hqF⟩ := HX.out
                have z0 := obj_cell oE 0
                have z1 := obj_cell oE 1
                have z2 := obj_cell oE 2
                exact bodyPost_ret (v := .tuple #[.agg #[.slice none 0 0, .slice none 0 0, .slice none 0 0], .slice none 0 0, .int .i64 ((p : Nat) : Int), .int .i64 ((n : Nat) : Int)]) (by simp [results, Tryz.results18, go_sem, z0, z1, z2]) rfl
                  ⟨_, _, _, _, by rw [← hE.out], by rw [← hE.out]; exact ⟨.inl ⟨rfl, rfl⟩, .inl ⟨rfl, rfl⟩, .inl ⟨rfl, rfl⟩⟩, by rw [← hE.out]; exact .inl ⟨rfl, rfl⟩, hqF⟩
        · have tr : (KS.toList == [114, 111, 117, 110, 100]) = false := by
            rw [hKt, beq_eq_false_iff_ne]; exact fun e => hnr (.inl e)
          have tb : (KS.toList == [98, 111, 120]) = false := by
            rw [hKt, beq_eq_false_iff_ne]; exact fun e => hnr (.inr e)
          have cW := whole_uni wv tv fv d o i wr hDk hN
          replace hKt := Lib.hid hKt
          clear hKS
          cases hw : wholeD d o
          · rw [hw] at cW
            have hE : (dk0, [], f, 23) = PP := by
              rw [← hP, parseD]
              simp [hnr, hw]
            replace hE := Lib.hid hE
            clear hP
            go_wp2_with fail
            refine cW.mono ?_
            rintro _ w3 ⟨rfl, q3⟩
            clear cW
            have oRx : w3.heap[R]? = some (.cells #[.slice none 0 0, .slice none 0 0, .slice none 0 0] 26 (0, 0)) := q3.b.obj hS.oR
            have r0 : w3.cell? ⟨R, 0, none⟩ = some (.slice none 0 0) := obj_cell oRx 0
            have r1 : w3.cell? ⟨R, 1, none⟩ = some (.slice none 0 0) := obj_cell oRx 1
            have r2 : w3.cell? ⟨R, 2, none⟩ = some (.slice none 0 0) := obj_cell oRx 2
            have e0 := obj_free oRx 0
            have e1 := obj_free oRx 1
            have e2 := obj_free oRx 2
            have hqF := b_three (hS.b.trans q3.b) hRge (.slice none 0 0) (.slice none 0 0) (.slice none 0 0)
            have oE := obj_three oRx (.slice none 0 0) (.slice none 0 0) (.slice none 0 0)
            clear hS hN hDk oDr hWr hWu hcu huc y0 y1 y2 h hnr hw oRx
            skip
            all_goals
              go_wp2
              have z0 := obj_cell oE 0
              have z1 := obj_cell oE 1
              have z2 := obj_cell oE 2
              exact bodyPost_ret (v := .tuple #[.agg #[.slice none 0 0, .slice none 0 0, .slice none 0 0], .slice none 0 0, .int .i64 ((f : Nat) : Int), .int .i64 ((23 : Nat) : Int)]) (by simp [results, Tryz.results18, go_sem, z0, z1, z2]) rfl
                ⟨_, _, _, _, by rw [← hE.out], by rw [← hE.out]; exact ⟨.inl ⟨rfl, rfl⟩, .inl ⟨rfl, rfl⟩, .inl ⟨rfl, rfl⟩⟩, by rw [← hE.out]; exact .inl ⟨rfl, rfl⟩, hqF⟩
          · rw [hw] at cW
            go_wp2_with fail
            refine cW.mono ?_
            rintro _ w3 ⟨rfl, q3⟩
            clear cW
            have hS3 := hS.keep q3.b
            have y0 : w3.cell? ⟨D, 0, none⟩ = some wv := obj_cell hS3.od 0
            have y1 : w3.cell? ⟨D, 1, none⟩ = some tv := obj_cell hS3.od 1
            have y2 : w3.cell? ⟨D, 2, none⟩ = some fv := obj_cell hS3.od 2
            have x0 := q3.keep x0
            have x1 := q3.keep x1
            have hWr := hWr.keep q3.b
            clear hS q3 oDr hDk hWu hcu huc hcr
            go_wp2_with fail
            go_region
            have hS4 := hS3.keep ((B.refl w3).drew)
            obtain ⟨a0, c0', e0'⟩ := hS4.rows.dk.ws.form
            obtain ⟨a1, c1', e1'⟩ := hS4.rows.dk.ts.form
            obtain ⟨a2, c2', e2'⟩ := hS4.rows.dk.fs.form
            subst e0' e1' e2'
            replace hWr := hWr.keep ((B.refl w3).drew)
            replace y0 : w3.drew.cell? ⟨D, 0, none⟩ = some _ := y0
            replace y1 : w3.drew.cell? ⟨D, 1, none⟩ = some _ := y1
            replace y2 : w3.drew.cell? ⟨D, 2, none⟩ = some _ := y2
            clear hS3 x0 x1
            generalize w3.drew = w4 at *
            have hDlt := hS4.gD
            by_cases hk : k.2 = kWare
            · have t0 : (KS.toList == [119, 97, 114, 101]) = true := by rw [hKt.out, hk]; rfl
              have hP2 : (match recW d.ws 8 8 12 1000000 (k :: l) with | .error e => (dk0, [], e.1, e.2) | .ok w => parseD (L.drop (i + 1)) { d with ws := d.ws ++ [w] } 1 k.1) = PP := by
                rw [← hP, parseD]
                simp [hk, hw, kWare, kRound, kBox]
                try rfl
              replace hP2 := Lib.hid hP2
              clear hP
              obtain ⟨i0, hi0, hz0, hz1, hz2⟩ := info_of dWareI
              have oN := obj_new w4 (.cells #[.string ⟨#[]⟩, .int .i64 0, .int .i64 0, .int .i64 0, .slice none 0 0] 33)
              have hS5 := hS4.keep ((B.refl w4).alloc #[.string ⟨#[]⟩, .int .i64 0, .int .i64 0, .int .i64 0, .slice none 0 0] 33)
              have hW5 := hWr.keep ((B.refl w4).alloc #[.string ⟨#[]⟩, .int .i64 0, .int .i64 0, .int .i64 0, .slice none 0 0] 33)
              have cR := r8wareLine_any _ _ _ _ d k l _ hS5.rows.dk hW5
              clear hnr
              go_wp2_with fail
              refine cR.mono ?_
              intro e3 W3 hR3
              obtain ⟨r, p, n, rfl, hrl, q3, hz⟩ := rec_uni hR3
              clear cR hR3 hS5 hW5
              have oN3 := q3.obj oN
              have hB3 := ((B.refl w4).alloc #[.string ⟨#[]⟩, .int .i64 0, .int .i64 0, .int .i64 0, .slice none 0 0] 33).trans q3
              obtain ⟨N, hNn⟩ : ∃ N, w4.heap.size = N := ⟨_, rfl⟩
              rw [hNn] at oN3
              have c0 : W3.cell? ⟨N, 0, none⟩ = some (.string ⟨#[]⟩) := obj_cell oN3 0
              have f0 := obj_free oN3 0
              have c1 : W3.cell? ⟨N, 1, none⟩ = some (.int .i64 0) := obj_cell oN3 1
              have f1 := obj_free oN3 1
              have c2 : W3.cell? ⟨N, 2, none⟩ = some (.int .i64 0) := obj_cell oN3 2
              have f2 := obj_free oN3 2
              have c3 : W3.cell? ⟨N, 3, none⟩ = some (.int .i64 0) := obj_cell oN3 3
              have f3 := obj_free oN3 3
              have c4 : W3.cell? ⟨N, 4, none⟩ = some (.slice none 0 0) := obj_cell oN3 4
              have f4 := obj_free oN3 4
              have hBS := b_five hB3 (b := N) (by omega) (.string r.n) (.int .i64 r.x) (.int .i64 r.y) (.int .i64 r.z) (.slice none 0 0)
              have oNS := obj_five oN3 (.string r.n) (.int .i64 r.x) (.int .i64 r.y) (.int .i64 r.z) (.slice none 0 0)
              have HX := Lib.hid (And.intro hBS (And.intro oNS hz))
              have y0 : W3.cell? ⟨D, 0, none⟩ = some _ := hB3.keep y0
              have y1 : W3.cell? ⟨D, 1, none⟩ = some _ := hB3.keep y1
              have y2 : W3.cell? ⟨D, 2, none⟩ = some _ := hB3.keep y2
              clear oN q3 hB3 hBS oNS hz
              rw [hNn]
              have hDN : ¬ D = N := by omega
              have hND : ¬ N = D := by omega
              clear hNn oN3
              unfold Wr.agg
              go_wp2_with (at_builtin; obtain ⟨hBS, oNS, hz⟩ := HX.out; have hS7 := (hS4.keep hBS).keep ((B.refl _).alloc #[.string r.n, .int .i64 r.x, .int .i64 r.y, .int .i64 r.z, .slice none 0 0] 33); clear hS4; have hown := hS7.rows.ws; have hbase := hS7.b.below.size; have hlen : d.ws.length ≤ 100000 := (by have := hN.w8; omega); refine wpList_append_lies _ rfl _ _ 22 rfl w.heap.size 33 i0 _ 5 64 Tryz.underlying22 hi0 hz0 hz1 hz2 rfl (by omega) _ _ _ rfl hown ⟨W3.heap.size, 0, none⟩ 1 1 [.string r.n, .int .i64 r.x, .int .i64 r.y, .int .i64 r.z, .slice none 0 0] rfl rfl (news_plain (by simp)) (by intro u hu; simp only [List.mem_cons, List.not_mem_nil, or_false] at hu; rcases hu with rfl | rfl | rfl | rfl | rfl <;> rfl) (by omega) (by unfold maxLen; omega) (by omega) hbase _ rfl ?_; intro gN cN w9 hownN hgrowN hatN hltN; have hS8 := hS7.addW hDge hRD hrl hgrowN hownN; have oD9 := obj_grown hgrowN hS7.od (farD hS7.od hown (by decide)); have oR9 := obj_grown hgrowN hS7.oR (farD hS7.oR hown (by decide)); have yD : w9.cell? ⟨D, 0, none⟩ = some _ := obj_cell oD9 0; have yF := obj_free oD9 0; have r0 : w9.cell? ⟨R, 0, none⟩ = some _ := obj_cell oR9 0; have r1 : w9.cell? ⟨R, 1, none⟩ = some _ := obj_cell oR9 1; have r2 : w9.cell? ⟨R, 2, none⟩ = some _ := obj_cell oR9 2; have e0 := obj_free oR9 0; have e1 := obj_free oR9 1; have e2 := obj_free oR9 2; have hRD' : ¬ R = D := hRD; have hDR : ¬ D = R := fun e => hRD e.symm; have HY := Lib.hid hS8; clear hS7 hown hbase hownN hgrowN hatN hltN hS8 oD9 oR9 hBS oNS HX y0 y1 y2 hDN hND; rcases hz with ⟨rfl, hz⟩ | ⟨hn, hz⟩; rotate_left; (have hnB : ((n : Int) != 0) = true := by simpa using hn); clear hn; rotate_left)
              · have hS8 := HY.out
                have hP3 := hP2.out
                rw [hz] at hP3
                exact ⟨⟨i + 1, { d with ws := d.ws ++ [r] }, 1, k.1, _, _, _, _, _, by omega, rfl, rfl, by go_num, hS8, hN.ware hz hrl, hP3⟩, by simp [intOf]; omega⟩
              · have hS8 := HY.out
                have hP3 := hP2.out
                rw [hz] at hP3
                have oE := obj_three hS8.oR (.slice none 0 0) (.slice none 0 0) (.slice none 0 0)
                have hqF := b_three hS8.b hRge (.slice none 0 0) (.slice none 0 0) (.slice none 0 0)
                have z0 := obj_cell oE 0
                have z1 := obj_cell oE 1
                have z2 := obj_cell oE 2
                exact bodyPost_ret (v := .tuple #[.agg #[.slice none 0 0, .slice none 0 0, .slice none 0 0], .slice none 0 0, .int .i64 ((p : Nat) : Int), .int .i64 ((n : Nat) : Int)]) (by simp [results, Tryz.results18, go_sem, z0, z1, z2]) rfl
                  ⟨_, _, _, _, by rw [← hP3], by rw [← hP3]; exact ⟨.inl ⟨rfl, rfl⟩, .inl ⟨rfl, rfl⟩, .inl ⟨rfl, rfl⟩⟩, by rw [← hP3]; exact .inl ⟨rfl, rfl⟩, hqF⟩
            · by_cases hk2 : k.2 = kTip
              · have t0 : (KS.toList == [119, 97, 114, 101]) = false := by rw [hKt.out, beq_eq_false_iff_ne]; exact hk
                have t1 : (KS.toList == [116, 105, 112]) = true := by rw [hKt.out, hk2]; rfl
                have hkx := hk
                replace hk := hk2
                have hP2 : (match recW d.ts 4 20000000 60000 10000 (k :: l) with | .error e => (dk0, [], e.1, e.2) | .ok t => parseD (L.drop (i + 1)) { d with ts := d.ts ++ [t] } 2 k.1) = PP := by
                  rw [← hP, parseD]
                  simp [hk, hw, kWare, kTip, kRound, kBox]
                  try rfl
                replace hP2 := Lib.hid hP2
                clear hP
                obtain ⟨i0, hi0, hz0, hz1, hz2⟩ := info_of dTipI
                have oN := obj_new w4 (.cells #[.string ⟨#[]⟩, .int .i64 0, .int .i64 0, .int .i64 0, .slice none 0 0] 35)
                have hS5 := hS4.keep ((B.refl w4).alloc #[.string ⟨#[]⟩, .int .i64 0, .int .i64 0, .int .i64 0, .slice none 0 0] 35)
                have hW5 := hWr.keep ((B.refl w4).alloc #[.string ⟨#[]⟩, .int .i64 0, .int .i64 0, .int .i64 0, .slice none 0 0] 35)
                have cR := r8tipLine_any _ _ _ _ d k l _ hS5.rows.dk hW5
                clear hnr
                go_wp2_with fail
                refine cR.mono ?_
                intro e3 W3 hR3
                obtain ⟨r, p, n, rfl, hrl, q3, hz⟩ := rec_uni hR3
                clear cR hR3 hS5 hW5
                have oN3 := q3.obj oN
                have hB3 := ((B.refl w4).alloc #[.string ⟨#[]⟩, .int .i64 0, .int .i64 0, .int .i64 0, .slice none 0 0] 35).trans q3
                obtain ⟨N, hNn⟩ : ∃ N, w4.heap.size = N := ⟨_, rfl⟩
                rw [hNn] at oN3
                have c0 : W3.cell? ⟨N, 0, none⟩ = some (.string ⟨#[]⟩) := obj_cell oN3 0
                have f0 := obj_free oN3 0
                have c1 : W3.cell? ⟨N, 1, none⟩ = some (.int .i64 0) := obj_cell oN3 1
                have f1 := obj_free oN3 1
                have c2 : W3.cell? ⟨N, 2, none⟩ = some (.int .i64 0) := obj_cell oN3 2
                have f2 := obj_free oN3 2
                have c3 : W3.cell? ⟨N, 3, none⟩ = some (.int .i64 0) := obj_cell oN3 3
                have f3 := obj_free oN3 3
                have c4 : W3.cell? ⟨N, 4, none⟩ = some (.slice none 0 0) := obj_cell oN3 4
                have f4 := obj_free oN3 4
                have hBS := b_five hB3 (b := N) (by omega) (.string r.n) (.int .i64 r.x) (.int .i64 r.y) (.int .i64 r.z) (.slice none 0 0)
                have oNS := obj_five oN3 (.string r.n) (.int .i64 r.x) (.int .i64 r.y) (.int .i64 r.z) (.slice none 0 0)
                have HX := Lib.hid (And.intro hBS (And.intro oNS hz))
                have y0 : W3.cell? ⟨D, 0, none⟩ = some _ := hB3.keep y0
                have y1 : W3.cell? ⟨D, 1, none⟩ = some _ := hB3.keep y1
                have y2 : W3.cell? ⟨D, 2, none⟩ = some _ := hB3.keep y2
                clear oN q3 hB3 hBS oNS hz
                rw [hNn]
                have hDN : ¬ D = N := by omega
                have hND : ¬ N = D := by omega
                clear hNn oN3
                unfold Wr.agg
                go_wp2_with (at_builtin; obtain ⟨hBS, oNS, hz⟩ := HX.out; have hS7 := (hS4.keep hBS).keep ((B.refl _).alloc #[.string r.n, .int .i64 r.x, .int .i64 r.y, .int .i64 r.z, .slice none 0 0] 35); clear hS4; have hown := hS7.rows.ts; have hbase := hS7.b.below.size; have hlen : d.ts.length ≤ 100000 := (by have := hN.t4; omega); refine wpList_append_lies _ rfl _ _ 23 rfl w.heap.size 35 i0 _ 5 64 Tryz.underlying23 hi0 hz0 hz1 hz2 rfl (by omega) _ _ _ rfl hown ⟨W3.heap.size, 0, none⟩ 1 1 [.string r.n, .int .i64 r.x, .int .i64 r.y, .int .i64 r.z, .slice none 0 0] rfl rfl (news_plain (by simp)) (by intro u hu; simp only [List.mem_cons, List.not_mem_nil, or_false] at hu; rcases hu with rfl | rfl | rfl | rfl | rfl <;> rfl) (by omega) (by unfold maxLen; omega) (by omega) hbase _ rfl ?_; intro gN cN w9 hownN hgrowN hatN hltN; have hS8 := hS7.addT hDge hRD hrl hgrowN hownN; have oD9 := obj_grown hgrowN hS7.od (farD hS7.od hown (by decide)); have oR9 := obj_grown hgrowN hS7.oR (farD hS7.oR hown (by decide)); have yD : w9.cell? ⟨D, 1, none⟩ = some _ := obj_cell oD9 1; have yF := obj_free oD9 1; have r0 : w9.cell? ⟨R, 0, none⟩ = some _ := obj_cell oR9 0; have r1 : w9.cell? ⟨R, 1, none⟩ = some _ := obj_cell oR9 1; have r2 : w9.cell? ⟨R, 2, none⟩ = some _ := obj_cell oR9 2; have e0 := obj_free oR9 0; have e1 := obj_free oR9 1; have e2 := obj_free oR9 2; have hRD' : ¬ R = D := hRD; have hDR : ¬ D = R := fun e => hRD e.symm; have HY := Lib.hid hS8; clear hS7 hown hbase hownN hgrowN hatN hltN hS8 oD9 oR9 hBS oNS HX y0 y1 y2 hDN hND; rcases hz with ⟨rfl, hz⟩ | ⟨hn, hz⟩; rotate_left; (have hnB : ((n : Int) != 0) = true := by simpa using hn); clear hn; rotate_left)
                · have hS8 := HY.out
                  have hP3 := hP2.out
                  rw [hz] at hP3
                  exact ⟨⟨i + 1, { d with ts := d.ts ++ [r] }, 2, k.1, _, _, _, _, _, by omega, rfl, rfl, by go_num, hS8, hN.tip hz hrl, hP3⟩, by simp [intOf]; omega⟩
                · have hS8 := HY.out
                  have hP3 := hP2.out
                  rw [hz] at hP3
                  have oE := obj_three hS8.oR (.slice none 0 0) (.slice none 0 0) (.slice none 0 0)
                  have hqF := b_three hS8.b hRge (.slice none 0 0) (.slice none 0 0) (.slice none 0 0)
                  have z0 := obj_cell oE 0
                  have z1 := obj_cell oE 1
                  have z2 := obj_cell oE 2
                  exact bodyPost_ret (v := .tuple #[.agg #[.slice none 0 0, .slice none 0 0, .slice none 0 0], .slice none 0 0, .int .i64 ((p : Nat) : Int), .int .i64 ((n : Nat) : Int)]) (by simp [results, Tryz.results18, go_sem, z0, z1, z2]) rfl
                    ⟨_, _, _, _, by rw [← hP3], by rw [← hP3]; exact ⟨.inl ⟨rfl, rfl⟩, .inl ⟨rfl, rfl⟩, .inl ⟨rfl, rfl⟩⟩, by rw [← hP3]; exact .inl ⟨rfl, rfl⟩, hqF⟩
              · by_cases hk3 : k.2 = kFill
                · have t0 : (KS.toList == [119, 97, 114, 101]) = false := by rw [hKt.out, beq_eq_false_iff_ne]; exact hk
                  have t1 : (KS.toList == [116, 105, 112]) = false := by rw [hKt.out, beq_eq_false_iff_ne]; exact hk2
                  have t2 : (KS.toList == [102, 105, 108, 108]) = true := by rw [hKt.out, hk3]; rfl
                  have hkx := hk
                  replace hk := hk3
                  have hP2 : (match fillW d (k :: l) with | .error e => (dk0, [], e.1, e.2) | .ok v => parseD (L.drop (i + 1)) { d with fs := d.fs ++ [v] } 0 k.1) = PP := by
                    rw [← hP, parseD]
                    simp [hk, hw, kWare, kTip, kFill, kRound, kBox]
                    try rfl
                  replace hP2 := Lib.hid hP2
                  clear hP
                  obtain ⟨i0, hi0, hz0, hz1, hz2⟩ := info_of dFillI
                  have oN := obj_new w4 (.cells #[.string ⟨#[]⟩, .int .i64 0, .int .i64 0, .int .i64 0] 41)
                  have hS5 := hS4.keep ((B.refl w4).alloc #[.string ⟨#[]⟩, .int .i64 0, .int .i64 0, .int .i64 0] 41)
                  have hW5 := hWr.keep ((B.refl w4).alloc #[.string ⟨#[]⟩, .int .i64 0, .int .i64 0, .int .i64 0] 41)
                  have cR := r8fillLine_any _ _ _ _ d k l _ hS5.rows.dk hW5 hN.ok (by have := hN.w8; omega) (fun x hx => hlong _ hmem x (by simp [hx]))
                  clear hnr
                  go_wp2_with fail
                  refine cR.mono ?_
                  intro e3 W3 hR3
                  obtain ⟨r, p, n, rfl, q3, hz⟩ := fill_uni hR3
                  clear cR hR3 hS5 hW5
                  have oN3 := q3.obj oN
                  have hB3 := ((B.refl w4).alloc #[.string ⟨#[]⟩, .int .i64 0, .int .i64 0, .int .i64 0] 41).trans q3
                  obtain ⟨N, hNn⟩ : ∃ N, w4.heap.size = N := ⟨_, rfl⟩
                  rw [hNn] at oN3
                  have c0 : W3.cell? ⟨N, 0, none⟩ = some (.string ⟨#[]⟩) := obj_cell oN3 0
                  have f0 := obj_free oN3 0
                  have c1 : W3.cell? ⟨N, 1, none⟩ = some (.int .i64 0) := obj_cell oN3 1
                  have f1 := obj_free oN3 1
                  have c2 : W3.cell? ⟨N, 2, none⟩ = some (.int .i64 0) := obj_cell oN3 2
                  have f2 := obj_free oN3 2
                  have c3 : W3.cell? ⟨N, 3, none⟩ = some (.int .i64 0) := obj_cell oN3 3
                  have f3 := obj_free oN3 3
                  have hBS := b_four hB3 (b := N) (by omega) (.string r.n) (.int .i64 r.r) (.int .i64 r.c) (.int .i64 r.v)
                  have oNS := obj_four oN3 (.string r.n) (.int .i64 r.r) (.int .i64 r.c) (.int .i64 r.v)
                  have HX := Lib.hid (And.intro hBS (And.intro oNS hz))
                  have y0 : W3.cell? ⟨D, 0, none⟩ = some _ := hB3.keep y0
                  have y1 : W3.cell? ⟨D, 1, none⟩ = some _ := hB3.keep y1
                  have y2 : W3.cell? ⟨D, 2, none⟩ = some _ := hB3.keep y2
                  clear oN q3 hB3 hBS oNS hz
                  rw [hNn]
                  have hDN : ¬ D = N := by omega
                  have hND : ¬ N = D := by omega
                  clear hNn oN3

                  go_wp2_with (at_builtin; obtain ⟨hBS, oNS, hz⟩ := HX.out; have hS7 := (hS4.keep hBS).keep ((B.refl _).alloc #[.string r.n, .int .i64 r.r, .int .i64 r.c, .int .i64 r.v] 41); clear hS4; have hown := hS7.rows.fs; have hbase := hS7.b.below.size; have hlen : d.fs.length ≤ 100000 := (by have := hN.fn; omega); refine wpList_append_lies _ rfl _ _ 24 rfl w.heap.size 41 i0 _ 4 40 Tryz.underlying24 hi0 hz0 hz1 hz2 rfl (by omega) _ _ _ rfl hown ⟨W3.heap.size, 0, none⟩ 1 1 [.string r.n, .int .i64 r.r, .int .i64 r.c, .int .i64 r.v] rfl rfl (news_plain (by simp)) (by intro u hu; simp only [List.mem_cons, List.not_mem_nil, or_false] at hu; rcases hu with rfl | rfl | rfl | rfl <;> rfl) (by omega) (by unfold maxLen; omega) (by omega) hbase _ rfl ?_; intro gN cN w9 hownN hgrowN hatN hltN; have hS8 := hS7.addF hDge hRD hgrowN hownN; have oD9 := obj_grown hgrowN hS7.od (farD hS7.od hown (by decide)); have oR9 := obj_grown hgrowN hS7.oR (farD hS7.oR hown (by decide)); have yD : w9.cell? ⟨D, 2, none⟩ = some _ := obj_cell oD9 2; have yF := obj_free oD9 2; have r0 : w9.cell? ⟨R, 0, none⟩ = some _ := obj_cell oR9 0; have r1 : w9.cell? ⟨R, 1, none⟩ = some _ := obj_cell oR9 1; have r2 : w9.cell? ⟨R, 2, none⟩ = some _ := obj_cell oR9 2; have e0 := obj_free oR9 0; have e1 := obj_free oR9 1; have e2 := obj_free oR9 2; have hRD' : ¬ R = D := hRD; have hDR : ¬ D = R := fun e => hRD e.symm; have HY := Lib.hid hS8; clear hS7 hown hbase hownN hgrowN hatN hltN hS8 oD9 oR9 hBS oNS HX y0 y1 y2 hDN hND; rcases hz with ⟨rfl, hz⟩ | ⟨hn, hz⟩; rotate_left; (have hnB : ((n : Int) != 0) = true := by simpa using hn); clear hn; rotate_left)
                  · have hS8 := HY.out
                    have hP3 := hP2.out
                    rw [hz] at hP3
                    exact ⟨⟨i + 1, { d with fs := d.fs ++ [r] }, 0, k.1, _, _, _, _, _, by omega, rfl, rfl, by go_num, hS8, hN.fill r, hP3⟩, by simp [intOf]; omega⟩
                  · have hS8 := HY.out
                    have hP3 := hP2.out
                    rw [hz] at hP3
                    have oE := obj_three hS8.oR (.slice none 0 0) (.slice none 0 0) (.slice none 0 0)
                    have hqF := b_three hS8.b hRge (.slice none 0 0) (.slice none 0 0) (.slice none 0 0)
                    have z0 := obj_cell oE 0
                    have z1 := obj_cell oE 1
                    have z2 := obj_cell oE 2
                    exact bodyPost_ret (v := .tuple #[.agg #[.slice none 0 0, .slice none 0 0, .slice none 0 0], .slice none 0 0, .int .i64 ((p : Nat) : Int), .int .i64 ((n : Nat) : Int)]) (by simp [results, Tryz.results18, go_sem, z0, z1, z2]) rfl
                      ⟨_, _, _, _, by rw [← hP3], by rw [← hP3]; exact ⟨.inl ⟨rfl, rfl⟩, .inl ⟨rfl, rfl⟩, .inl ⟨rfl, rfl⟩⟩, by rw [← hP3]; exact .inl ⟨rfl, rfl⟩, hqF⟩
                · have t0 : (KS.toList == [119, 97, 114, 101]) = false := by rw [hKt.out, beq_eq_false_iff_ne]; exact hk
                  have t1 : (KS.toList == [116, 105, 112]) = false := by rw [hKt.out, beq_eq_false_iff_ne]; exact hk2
                  have t2 : (KS.toList == [102, 105, 108, 108]) = false := by rw [hKt.out, beq_eq_false_iff_ne]; exact hk3
                  have hE : (d, L.drop i, 0, 0) = PP := by
                    rw [← hP, parseD, hdrop.out]
                    simp [hw, hk, hk2, hk3]
                    simp [not_or.1 hnr]
                  replace hE := Lib.hid hE
                  clear hP hnr
                  have oRx := hS4.oR
                  have oDx := hS4.od
                  have hLc : L.length ≤ cap := by
                    rcases h with ⟨e, _⟩ | ⟨_, _, _, e, h2, _⟩
                    · simp at e
                    · simp at e
                      omega
                  have hLn := (h.drop (k := i) (by omega))
                  have hci : ¬ cap = i := by omega
                  have kc1 : (i : Int) ≤ (cap : Int) := by omega
                  have kc2 : (i : Int) ≤ (L.length : Int) := by omega
                  have kc3 : (L.length : Int) ≤ (cap : Int) := by omega
                  have r0 : w4.cell? ⟨R, 0, none⟩ = some (.slice none 0 0) := obj_cell oRx 0
                  have r1 : w4.cell? ⟨R, 1, none⟩ = some (.slice none 0 0) := obj_cell oRx 1
                  have r2 : w4.cell? ⟨R, 2, none⟩ = some (.slice none 0 0) := obj_cell oRx 2
                  have e0 := obj_free oRx 0
                  have e1 := obj_free oRx 1
                  have e2 := obj_free oRx 2
                  have r0' : w4.drew.cell? ⟨R, 0, none⟩ = some (.slice none 0 0) := r0
                  have r1' : w4.drew.cell? ⟨R, 1, none⟩ = some (.slice none 0 0) := r1
                  have r2' : w4.drew.cell? ⟨R, 2, none⟩ = some (.slice none 0 0) := r2
                  have e0' : w4.drew.frozen? ⟨R, 0, none⟩ = false := e0
                  have e1' : w4.drew.frozen? ⟨R, 1, none⟩ = false := e1
                  have e2' : w4.drew.frozen? ⟨R, 2, none⟩ = false := e2
                  have y0' : w4.drew.cell? ⟨D, 0, none⟩ = some _ := y0
                  have y1' : w4.drew.cell? ⟨D, 1, none⟩ = some _ := y1
                  have y2' : w4.drew.cell? ⟨D, 2, none⟩ = some _ := y2
                  have hRD' : ¬ R = D := hRD
                  have hDR : ¬ D = R := fun e => hRD e.symm
                  have hqF := b_three hS4.b hRge (.slice a0 d.ws.length c0') (.slice a1 d.ts.length c1') (.slice a2 d.fs.length c2')
                  have oE := obj_three oRx (.slice a0 d.ws.length c0') (.slice a1 d.ts.length c1') (.slice a2 d.fs.length c2')
                  have tD : Tn [some 26] 0 w4 (((w4.setCell ⟨R, 0, none⟩ (.slice a0 d.ws.length c0')).setCell ⟨R, 1, none⟩ (.slice a1 d.ts.length c1')).setCell ⟨R, 2, none⟩ (.slice a2 d.fs.length c2')) :=
                    Tn.set (p := ⟨R, 2, none⟩) (Tn.set (p := ⟨R, 1, none⟩) (Tn.set (p := ⟨R, 0, none⟩) (Tn.refl _ 0 _) oRx (by decide) (Nat.zero_le _) _) (obj_set oRx 0 _) (by decide) (Nat.zero_le _) _) (obj_set (obj_set oRx 0 _) 1 _) (by decide) (Nat.zero_le _) _
                  have hDkF := (hS4.rows.tn tD (by decide) (by decide) (by decide) (by decide)).dk
                  have HZ := Lib.hid (And.intro hDkF (And.intro hqF (And.intro hLn oE)))
                  clear hDkF hqF hLn tD oE oRx oDx hS4 hN hWr hLc h hk hk2 hk3 hw
                  go_wp2_with fail
                  go_region
                  all_goals
                    go_wp2
                    obtain ⟨hDkF, hqF, hLn, oE⟩ := HZ.out
                    have z0 := obj_cell oE 0
                    have z1 := obj_cell oE 1
                    have z2 := obj_cell oE 2
                    exact bodyPost_ret (v := .tuple #[.agg #[.slice a0 d.ws.length c0', .slice a1 d.ts.length c1', .slice a2 d.fs.length c2'], .slice (some ⟨lg, lo + i, none⟩) (L.length - i) (cap - i), .int .i64 0, .int .i64 0]) (by simp [results, Tryz.results18, go_sem, z0, z1, z2]) rfl
                      ⟨_, _, _, _, by rw [← hE.out]; rfl, by rw [← hE.out]; exact hDkF.keepB (B.refl _).drew, by rw [← hE.out]; exact hLn.keep hqF.drew, hqF.drew⟩
    · have hlB : decide ((i : Int) < (L.length : Int)) = false := decide_eq_false (by omega)
      have hdrop : L.drop i = [] := List.drop_eq_nil_of_le (by omega)
      rw [hdrop, parseD] at hP
      have cW := whole_uni wv tv fv d o i wr hDk hN
      cases hw : wholeD d o
      · rw [hw] at cW hP
        have hE : (dk0, [], f, 23) = PP := by simpa using hP
        replace hE := Lib.hid hE
        clear hP
        go_wp2_with fail
        refine cW.mono ?_
        rintro _ w3 ⟨rfl, q3⟩
        clear cW
        have oRx : w3.heap[R]? = some (.cells #[.slice none 0 0, .slice none 0 0, .slice none 0 0] 26 (0, 0)) := q3.b.obj hS.oR
        have r0 : w3.cell? ⟨R, 0, none⟩ = some (.slice none 0 0) := obj_cell oRx 0
        have r1 : w3.cell? ⟨R, 1, none⟩ = some (.slice none 0 0) := obj_cell oRx 1
        have r2 : w3.cell? ⟨R, 2, none⟩ = some (.slice none 0 0) := obj_cell oRx 2
        have e0 := obj_free oRx 0
        have e1 := obj_free oRx 1
        have e2 := obj_free oRx 2
        have hqF := b_three (hS.b.trans q3.b) hRge (.slice none 0 0) (.slice none 0 0) (.slice none 0 0)
        have oE := obj_three oRx (.slice none 0 0) (.slice none 0 0) (.slice none 0 0)
        clear hS hN hDk oDr y0 y1 y2 h hw oRx
        skip
        all_goals
          go_wp2
          have z0 := obj_cell oE 0
          have z1 := obj_cell oE 1
          have z2 := obj_cell oE 2
          exact bodyPost_ret (v := .tuple #[.agg #[.slice none 0 0, .slice none 0 0, .slice none 0 0], .slice none 0 0, .int .i64 ((f : Nat) : Int), .int .i64 ((23 : Nat) : Int)]) (by simp [results, Tryz.results18, go_sem, z0, z1, z2]) rfl
            ⟨_, _, _, _, by rw [← hE.out], by rw [← hE.out]; exact ⟨.inl ⟨rfl, rfl⟩, .inl ⟨rfl, rfl⟩, .inl ⟨rfl, rfl⟩⟩, by rw [← hE.out]; exact .inl ⟨rfl, rfl⟩, hqF⟩
      · rw [hw] at cW hP
        have hE : (d, [], 0, 0) = PP := by simpa using hP
        replace hE := Lib.hid hE
        clear hP
        go_wp2_with fail
        refine cW.mono ?_
        rintro _ w3 ⟨rfl, q3⟩
        clear cW
        have hS3 := hS.keep q3.b
        have oRx := hS3.oR
        have r0 : w3.cell? ⟨R, 0, none⟩ = some (.slice none 0 0) := obj_cell oRx 0
        have r1 : w3.cell? ⟨R, 1, none⟩ = some (.slice none 0 0) := obj_cell oRx 1
        have r2 : w3.cell? ⟨R, 2, none⟩ = some (.slice none 0 0) := obj_cell oRx 2
        have e0 := obj_free oRx 0
        have e1 := obj_free oRx 1
        have e2 := obj_free oRx 2
        have d0 : w3.cell? ⟨D, 0, none⟩ = some wv := obj_cell hS3.od 0
        have d1 : w3.cell? ⟨D, 1, none⟩ = some tv := obj_cell hS3.od 1
        have d2 : w3.cell? ⟨D, 2, none⟩ = some fv := obj_cell hS3.od 2
        have hqF := b_three hS3.b hRge wv tv fv
        have oE := obj_three oRx wv tv fv
        have tD : Tn [some 26] 0 w3 (((w3.setCell ⟨R, 0, none⟩ wv).setCell ⟨R, 1, none⟩ tv).setCell ⟨R, 2, none⟩ fv) :=
          Tn.set (p := ⟨R, 2, none⟩) (Tn.set (p := ⟨R, 1, none⟩) (Tn.set (p := ⟨R, 0, none⟩) (Tn.refl _ 0 _) oRx (by decide) (Nat.zero_le _) _) (obj_set oRx 0 _) (by decide) (Nat.zero_le _) _) (obj_set (obj_set oRx 0 _) 1 _) (by decide) (Nat.zero_le _) _
        have hDkF := (hS3.rows.tn tD (by decide) (by decide) (by decide) (by decide)).dk
        obtain ⟨a0, c0, e0'⟩ := hS3.rows.dk.ws.form
        obtain ⟨a1, c1, e1'⟩ := hS3.rows.dk.ts.form
        obtain ⟨a2, c2, e2'⟩ := hS3.rows.dk.fs.form
        subst e0' e1' e2'
        have HZ := Lib.hid (And.intro hDkF hqF)
        clear hS hN hDk oDr y0 y1 y2 h hw hS3 tD hDkF hqF oRx
        go_wp2
        obtain ⟨hDkF, hqF⟩ := HZ.out
        have z0 := obj_cell oE 0
        have z1 := obj_cell oE 1
        have z2 := obj_cell oE 2
        exact bodyPost_ret (v := .tuple #[.agg #[.slice a0 d.ws.length c0, .slice a1 d.ts.length c1, .slice a2 d.fs.length c2], .slice none 0 0, .int .i64 0, .int .i64 0]) (by simp [results, Tryz.results18, go_sem, z0, z1, z2]) rfl
          ⟨_, _, _, _, by rw [← hE.out]; rfl, by rw [← hE.out]; exact hDkF, by rw [← hE.out]; exact .inl ⟨rfl, rfl⟩, hqF⟩
end Go.Proofs.YtflklpflpjdbmaaGreatDoor
