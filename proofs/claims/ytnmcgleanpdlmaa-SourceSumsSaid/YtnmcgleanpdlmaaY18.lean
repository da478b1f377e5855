/-
  Layer 14: Touches: how many strokes touch each well; Layer 14: the statements' known answers; Layer 14: what the statements ask of fills and transfers. No program is named here; What a literal's fit says. No program is named here; Regions that draw their order, of which two operations may come up in either order (two new blocks, say): both ways are walked. Up to the gate a condition S holds. No program is named here; Layer 16's document: a number in parts, a part in strokes; how many in all. No program is named here; The block of an own row that is not empty. No program is named here.
-/
import Derived.Laws.Strings2
import Derived.Laws.Slices
import Derived.KernelRfl
import Derived.Test.YtnmcgleanpdlmaaY1
import Derived.Test.YtnmcgleanpdlmaaY2
import Derived.Test.YtnmcgleanpdlmaaY3
import Derived.Test.YtnmcgleanpdlmaaY4
import Derived.Test.YtnmcgleanpdlmaaY5
import Derived.Test.YtnmcgleanpdlmaaY6
import Derived.Test.YtnmcgleanpdlmaaY7
import Derived.Test.YtnmcgleanpdlmaaY8
import Derived.Test.YtnmcgleanpdlmaaY9
import Derived.Test.YtnmcgleanpdlmaaY10
import Derived.Test.YtnmcgleanpdlmaaY11
import Derived.Test.YtnmcgleanpdlmaaY12
import Derived.Test.YtnmcgleanpdlmaaY13
import Derived.Test.YtnmcgleanpdlmaaY14
import Derived.Test.YtnmcgleanpdlmaaY15
import Derived.Test.YtnmcgleanpdlmaaY16
import Derived.Test.YtnmcgleanpdlmaaY17
namespace Go.Proofs.Ytnmcgleanpdlmaa
open Go.RowKit
set_option linter.unusedVariables false
theorem int1Info : (Try.prog.info? 3).map (fun i => (i.zero, i.size, i.bytes)) = some (some (.int .i64 0), 1, 8) := by kernel_rfl
def kN : List (Option TypeId) := [some 3]
def RowN (w : World) (base g nn : Nat) (v : List Int) : Prop := w.ownsRow base 3 1 (.slice (some ⟨g, 0, none⟩) nn nn) nn (flatL v)
theorem RowN.keep {w w' : World} {base g nn : Nat} {v : List Int} (h : RowN w base g nn v) (q : B w w') : RowN w' base g nn v := own_keepBx h q
theorem RowN.at_ {w : World} {base g nn : Nat} {v : List Int} (h : RowN w base g nn v) {i : Nat} (hi : i < nn) : v.length = nn ∧ v[i]? = some (v.getD i 0) ∧ w.cell? ⟨g, i, none⟩ = some (.int .i64 (v.getD i 0)) ∧ w.frozen? ⟨g, i, none⟩ = false := by
  have hl : v.length = nn := by have := h.1; rw [flatL_len] at this; omega
  have hv := getD_of (v := v) (i := i) (by omega)
  refine ⟨hl, hv, ?_, World.ownsRow.frozenAt h i⟩
  rw [World.ownsRow.cellAt h i (by omega)]
  exact flatL_get hv
theorem RowN.set {w : World} {base g nn : Nat} {v : List Int} (h : RowN w base g nn v) {i : Nat} (hi : i < nn) (x : Int) : RowN (w.setCell ⟨g, i, none⟩ (.int .i64 x)) base g nn (v.set i x) ∧ Tn kN base w (w.setCell ⟨g, i, none⟩ (.int .i64 x)) := by
  obtain ⟨r1, e1⟩ := World.ownsRow.stored h i (.int .i64 x)
  rw [flatL_set] at r1
  refine ⟨r1, ?_⟩
  rcases h.2 with ⟨h0, _⟩ | ⟨g', cap, cur, h0, hb, hg, _⟩
  · cases h0
  · simp only [Value.slice.injEq, Option.some.injEq, Addr.mk.injEq] at h0
    obtain ⟨⟨rfl, _⟩, _, rfl⟩ := h0
    exact Tn.set (p := ⟨g, i, none⟩) (Tn.refl _ _ _) hg (by simp [kN]) hb _
structure StM (w : World) (DB g nn : Nat) (o1 o2 o3 : Option Addr) (an c1 bn c2 cn c3 : Nat) (d : Dk) (ss tt : List Value) (wr : World) (v : List Int) : Prop where
  row : RowN wr w.heap.size g nn v
  own : OwnD wr w.heap.size (.slice o1 an c1) (.slice o2 bn c2) (.slice o3 cn c3) d ss tt
  obj : wr.heap[DB]? = some (.cells #[.slice o1 an c1, .slice o2 bn c2, .slice o3 cn c3] 39 (0, 0))
  b : B w wr
section
variable {w wr w' : World} {DB g nn : Nat} {o1 o2 o3 : Option Addr} {an c1 bn c2 cn c3 : Nat} {d : Dk} {ss tt : List Value} {v v' : List Int}
theorem StM.step (h : StM w DB g nn o1 o2 o3 an c1 bn c2 cn c3 d ss tt wr v) (t : Tn kN w.heap.size wr w') (r : RowN w' w.heap.size g nn v') : StM w DB g nn o1 o2 o3 an c1 bn c2 cn c3 d ss tt w' v' :=
  ⟨r, h.own.tnK t (by decide), t.objc h.obj (by decide), t.toB h.b (Nat.le_refl _)⟩
theorem StM.keep (h : StM w DB g nn o1 o2 o3 an c1 bn c2 cn c3 d ss tt wr v) (q : B wr w') : StM w DB g nn o1 o2 o3 an c1 bn c2 cn c3 d ss tt w' v :=
  h.step (q.tn _ _) (h.row.keep q)
theorem StM.set (h : StM w DB g nn o1 o2 o3 an c1 bn c2 cn c3 d ss tt wr v) {i : Nat} (hi : i < nn) (x : Int) : StM w DB g nn o1 o2 o3 an c1 bn c2 cn c3 d ss tt (wr.setCell ⟨g, i, none⟩ (.int .i64 x)) (v.set i x) := h.step (h.row.set hi x).2 (h.row.set hi x).1
end
theorem strokes_bounds {L : List Rec} {n : ByteArray} {v k : Int} (hB : tipsB L) (h : strokesT L n v = .ok k) : 0 ≤ k ∧ k ≤ 8000 := by
  unfold strokesT at h
  split at h
  · cases h
  · rename_i i hi
    split at h
    · rename_i hin
      have hvv : 1 ≤ v ∧ v ≤ 20000000 := by unfold inB at hin; simp only [Bool.and_eq_true, decide_eq_true_eq] at hin; exact hin
      split at h
      · rename_i t ht
        obtain ⟨⟨x1, x2⟩, z1, z2⟩ := hB t (List.mem_of_getElem? ht)
        unfold cntX at h
        split at h
        · cases h
        · rename_i hm
          split at h
          · cases h
          · rename_i hp
            obtain ⟨p1, p2⟩ := parts_nums (v := v) (m := t.x - 4 * t.z) hvv ⟨by omega, by omega⟩
            generalize (v + (t.x - 4 * t.z) - 1).tdiv (t.x - 4 * t.z) = P at *
            obtain ⟨l1, l2, g1, g2⟩ := even_nums (v := v) (p := P) hvv ⟨p1, by omega⟩
            have m1 := mul4 (a := v.tmod P) (k := pcsX (v.tdiv P + 1)) ⟨g1, by omega⟩ (pcs_nums (by omega))
            have m0 := mul4 (a := P - v.tmod P) (k := pcsX (v.tdiv P)) ⟨by omega, by omega⟩ (pcs_nums l1)
            have e := Except.ok.inj h
            omega
      · cases h
    · cases h
theorem strokes_errs {L : List Rec} {n : ByteArray} {v : Int} {k : Nat} (h : strokesT L n v = .error k) : 1 ≤ k := by
  unfold strokesT at h
  split at h
  · cases h; omega
  · rename_i i hi
    have hlt := tipIx_lt hi
    split at h
    · split at h
      · unfold cntX at h
        split at h
        · cases h; omega
        · split at h
          · cases h; omega
          · cases h
      · rename_i hn
        rw [List.getElem?_eq_getElem hlt] at hn
        cases hn
    · cases h; omega
theorem tips_right {d : Dk} (h : rightD d = true) : tipsB d.ts := fun x hx => by
  obtain ⟨_, _, _, pT⟩ := right_parts9 h
  obtain ⟨i, hi, e⟩ := List.getElem_of_mem hx
  have hk := (apart_at pT (show d.ts[i]? = some x by rw [List.getElem?_eq_getElem hi, e])).1
  unfold tipOk at hk
  simp only [Bool.and_eq_true, inB, decide_eq_true_eq] at hk
  exact ⟨hk.1.1.2, hk.2⟩
theorem set_bound {v : List Int} {i : Nat} {x M : Int} (h : ∀ y ∈ v, 0 ≤ y ∧ y ≤ M) (hx : 0 ≤ x ∧ x ≤ M) : ∀ y ∈ v.set i x, 0 ≤ y ∧ y ≤ M := fun y hy => by
  rcases List.mem_or_eq_of_mem_set hy with hy | rfl
  · exact h y hy
  · exact hx
def STchRes (d : Dk) (L : List Opx) (w : World) (e : Ending) (w' : World) : Prop :=
  (∃ n : Nat, touchesX d L (List.replicate (cntD d) 0) = .error n ∧ 1 ≤ n ∧ e = .returned (.tuple #[.slice none 0 0, .int .i64 (n : Int)]) ∧ B w w') ∨
  (∃ v g, touchesX d L (List.replicate (cntD d) 0) = .ok v ∧ e = .returned (.tuple #[.slice (some ⟨g, 0, none⟩) (cntD d) (cntD d), .int .i64 0]) ∧ RowN w' w.heap.size g (cntD d) v ∧ B w w')
section
variable {P : Bp} {n9 : Nat} {E : List Ent} {X : List Th}
set_option maxRecDepth 100000 in
set_option maxHeartbeats 4000000 in
theorem stouch_any (d : Dk) (hd : P.d = d) (w : World) (h : BoardM P w n9 E X) (hf9 : d.fs.length ≤ 1000000) (lv : Value) (L : List Opx) (hL : IsOps w lv L) (hI : OpsI L) (hLl : L.length ≤ 1000000) :
    Calls Try.prog 12 #[.pointer (some ⟨P.b, 0, none⟩), lv] w (STchRes d L w) := by
  have hri : rightD d = true := hd ▸ h.right
  obtain ⟨_, _, pW, _⟩ := right_parts9 hri
  have hbw : ∀ x ∈ d.ws, wareB x := wares_in pW
  have htB := tips_right hri
  have h8 : d.ws.length ≤ 100 := by have := right_few hri; omega
  have hcs := cnt_small hbw h8
  have cD := ddeck_any w h (by rw [hd]; exact hf9)
  simp only [hd] at cD
  obtain ⟨i0, hi0, hz0, hz1, hz2⟩ := info_of int1Info
  have hmade := made_longs (cntD d)
  have hcI : countW d.ws = ((cntD d : Nat) : Int) := by have := count_pos d.ws hbw; unfold cntD; omega
  have hnn : cntD d ≤ 10000 := by omega
  obtain ⟨lo, lc, rfl⟩ := hL.form
  obtain ⟨ln, hln⟩ : ∃ ln, L.length = ln := ⟨_, rfl⟩
  obtain ⟨R, hR⟩ : ∃ R, R = touchesX d L (List.replicate (cntD d) 0) := ⟨_, rfl⟩
  unfold STchRes
  rw [← hR]
  rw [hln] at hL hLl ⊢
  have HH := Lib.hid (And.intro hL (And.intro hI (And.intro hbw (And.intro h8 (And.intro hln (And.intro htB hLl))))))
  have HR := Lib.hid hR
  clear h hL hI hbw h8 hln hR hri pW hcs htB hLl
  go_enter Try.func12, Try.ntmps12
  go_wp2_with fail
  refine cD.mono ?_
  rintro e w2 ⟨o1, c1, o2, c2, o3, c3, ss, tt, rfl, hO, q2⟩
  have cC := wcount_any _ _ _ d (w2.alloc (.cells #[.slice o1 d.ws.length c1, .slice o2 d.ts.length c2, .slice o3 d.fs.length c3] 39)) (hO.dk.keepB ((B.refl _).alloc _ _)) HH.out.2.2.1 HH.out.2.2.2.1
  rw [hcI] at cC
  obtain ⟨an, han⟩ : ∃ an, d.ws.length = an := ⟨_, rfl⟩
  obtain ⟨bn, hbn⟩ : ∃ bn, d.ts.length = bn := ⟨_, rfl⟩
  obtain ⟨cn, hcn⟩ : ∃ cn, d.fs.length = cn := ⟨_, rfl⟩
  have HO := Lib.hid (And.intro hO q2)
  rw [han, hbn, hcn] at HO cC ⊢
  have oW := obj_new w2 (.cells #[.slice o1 an c1, .slice o2 bn c2, .slice o3 cn c3] 39)
  have qW : B w2 (w2.alloc (.cells #[.slice o1 an c1, .slice o2 bn c2, .slice o3 cn c3] 39)) := (B.refl _).alloc _ _
  have HBN := Lib.hid hbn
  clear hO q2 cD han hbn hcn hf9
  go_wp2_with fail
  refine cC.mono ?_
  rintro e w4 ⟨rfl, q4⟩
  have oW4 := q4.b.obj oW
  have qW4 := qW.trans q4.b
  clear cC qW oW q4
  generalize w2.heap.size = DB at *
  obtain ⟨nn, hnn'⟩ : ∃ nn, cntD d = nn := ⟨_, rfl⟩
  rw [hnn'] at hmade hnn ⊢
  have hb16 : i0.bytes * nn ≤ 281474976710656 := by rw [hz2]; omega
  have hbml : nn ≤ maxLen := by unfold maxLen; omega
  have hs4 := (HO.out.2.trans qW4).below.size
  have hHR := HR.out
  rw [hnn'] at hHR
  have HI := Lib.hid (And.intro hHR hnn')
  clear HR hHR hnn'
  go_wp2_with (at_make; refine wpList_make_full _ rfl _ _ 30 rfl w4.heap.size 3 i0 _ 1 Try.underlying30 hi0 hz0 hz1 .i64 .i64 _ _ nn rfl rfl rfl rfl hb16 hbml (Nat.le_refl _) ?_; intro wm hrow hgrow; have hr2 : wm.ownsRow w4.heap.size 3 1 (.slice (some ⟨w4.heap.size, 0, none⟩) nn nn) nn (flatL (List.replicate nn 0)) := (by rw [← hmade]; exact hrow); have qm := (B.refl w4).grownBy hgrow (fun _ h => by cases h); clear hgrow hrow; have hOm := HO.out.1.tnK ((qW4.trans qm).tn [] 0) ⟨by simp, by simp, by simp, by simp⟩; have hM : StM w DB w4.heap.size nn o1 o2 o3 an c1 bn c2 cn c3 d ss tt wm (List.replicate nn 0) := ⟨own_low hr2 hs4, hOm, qm.obj oW4, (HO.out.2.trans qW4).trans qm⟩; have HM := Lib.hid hM; clear hM hOm hr2 qm; go_wp2_with fail)
  clear hmade hs4 oW4 qW4 HO hi0 hz0 hz1 hz2 hb16 hbml hcI hnn
  generalize w4.heap.size = g at *
  have HM' := HM.out
  clear HM
  go_loopw [23] (fun iv wr => ∃ (j : Nat) (u : List Int), j ≤ ln ∧ iv = .int .i64 j ∧ StM w DB g nn o1 o2 o3 an c1 bn c2 cn c3 d ss tt wr u ∧ (∀ x ∈ u, 0 ≤ x ∧ x ≤ 16000 * (j : Int)) ∧ touchesX d L (List.replicate nn 0) = touchesX d (L.drop j) u) (fun iv _ => ln + 1 - (intOf iv).toNat)
  case atStart => exact ⟨0, _, Nat.zero_le _, rfl, HM', fun x hx => by obtain rfl := List.eq_of_mem_replicate hx; omega, rfl⟩
  case round =>
    obtain ⟨j, u, hj, rfl, hM, hF0, hrun⟩ := hrel
    obtain ⟨wl, rfl⟩ : ∃ wl : World, wl = wr := ⟨_, rfl⟩
    by_cases hl : j < ln
    · have hlB : decide ((j : Int) < (ln : Int)) = true := decide_eq_true (by omega)
      have hlN : decide (j < ln) = true := decide_eq_true hl
      have hlI : (j : Int) < (ln : Int) := by omega
      have hi0 : (0 : Int) ≤ (j : Int) := by omega
      have hl' : j < L.length := by rw [HH.out.2.2.2.2.1]; exact hl
      have hL0 := HH.out.1.keepB hM.b
      obtain ⟨a, cap, e1, e2, e3, hr⟩ := hL0.at_ hl'
      rw [HH.out.2.2.2.2.1] at e1 e2
      have wk1 : IntKind.i64.wrap ((j : Int) + 1) = (j : Int) + 1 := by rw [IntKind.wrap_i64]; unfold maxLen at e3; omega
      obtain ⟨rfl, rfl⟩ : lo = some a ∧ lc = cap := by simpa using e1
      obtain ⟨f, hf⟩ : ∃ f, L[j] = f := ⟨_, rfl⟩
      rw [hf] at hr
      have hgf : L[j]? = some f := by rw [List.getElem?_eq_getElem hl', hf]
      obtain ⟨hfs, hfd, hfv⟩ := HH.out.2.1 f (List.mem_of_getElem? hgf)
      have hrn := fun v' => touchesX_ok (d := d) (v := u) (v' := v') hgf
      have hre := fun n => touchesX_err (d := d) (v := u) (n := n) hgf
      have hj1 : (j : Int) ≤ 1000000 := by have := HH.out.2.2.2.2.2.2; omega
      obtain ⟨⟨SN, SR, SC⟩, ⟨TN, TR, TC⟩, V, N, NW⟩ := f
      obtain ⟨f0, f1, f2, f3, f4, f5, f6, f7, f8⟩ := hr
      simp only at f0 f1 f2 f3 f4 f5 f6 f7 f8 hfs hfd hfv
      have qb : B wl (wl.alloc (.cells #[.string SN, .int .i64 SR, .int .i64 SC, .string TN, .int .i64 TR, .int .i64 TC, .int .i64 V, .string N, .bool NW] 52)) := (B.refl _).alloc _ _
      have oO := obj_new wl (.cells #[.string SN, .int .i64 SR, .int .i64 SC, .string TN, .int .i64 TR, .int .i64 TC, .int .i64 V, .string N, .bool NW] 52)
      have hMb := hM.keep qb
      have cE := ends_any _ _ _ d ⟨SN, SR, SC⟩ ⟨TN, TR, TC⟩ V N NW hfs hfd _ hMb.own.dk HH.out.2.2.1 HH.out.2.2.2.1
      have cS := fun w' (q : B (wl.alloc (.cells #[.string SN, .int .i64 SR, .int .i64 SC, .string TN, .int .i64 TR, .int .i64 TC, .int .i64 V, .string N, .bool NW] 52)) w') => strokes_any _ d.ts ⟨SN, SR, SC⟩ ⟨TN, TR, TC⟩ V N NW hfv HH.out.2.2.2.2.2.1 w' (hMb.keep q).own.dk.ts
      have hsb := fun k (h : strokesT d.ts N V = .ok k) => strokes_bounds HH.out.2.2.2.2.2.1 h
      have hse := fun k (h : strokesT d.ts N V = .error k) => strokes_errs h
      have hlt := fun a b (hk : endsX d ⟨⟨SN, SR, SC⟩, ⟨TN, TR, TC⟩, V, N, NW⟩ = some (a, b)) => endsX_lt HH.out.2.2.1 hk
      obtain ⟨TX, hTX⟩ : ∃ TX, touchX d u ⟨⟨SN, SR, SC⟩, ⟨TN, TR, TC⟩, V, N, NW⟩ = TX := ⟨_, rfl⟩
      rw [hTX] at hrn hre
      unfold touchX strokesX at hTX
      simp only at hTX
      have k0 := obj_cell hMb.obj 0
      have k1 := obj_cell hMb.obj 1
      have k2 := obj_cell hMb.obj 2
      have m0 := obj_cell hM.obj 0
      have m1 := obj_cell hM.obj 1
      have m2 := obj_cell hM.obj 2
      have HZ := Lib.hid (And.intro hMb (And.intro hrun (And.intro hrn (And.intro hre (And.intro hF0 (And.intro hl oO))))))
      clear hM hrun hl hl' hL0 e1 e2 e3 hf hgf hfs hfd hfv hrn hre hMb qb hj hF0
      cases hx : endsX d ⟨⟨SN, SR, SC⟩, ⟨TN, TR, TC⟩, V, N, NW⟩ with
      | none =>
        rw [hx] at cE hTX
        simp only [endsV] at cE hTX
        have HT := Lib.hid hTX
        clear hx hTX hlt hsb hse cS
        go_wp2_with fail
        refine cE.mono ?_
        rintro e w5 ⟨rfl, q5⟩
        have HF := Lib.hid (HZ.out.1.b.trans q5)
        clear q5 cE f0 f1 f2 f3 f4 f5 f6 f7 f8 k0 k1 k2 m0 m1 m2 oO
        go_wp2
        try simp only [Exit.inBlock, Exit.then]
        go_ret2
        exact .inl ⟨26, by rw [HI.out.1, HZ.out.2.1, HZ.out.2.2.2.1 26 HT.out.symm], by omega, rfl, HF.out⟩
      | some ab =>
        obtain ⟨a', b'⟩ := ab
        obtain ⟨ha, hbb⟩ := hlt a' b' hx
        rw [HI.out.2] at ha hbb
        rw [hx] at cE hTX
        simp only [endsV] at cE hTX
        cases hk : strokesT d.ts N V with
        | error n =>
          have hn1 := hse n hk
          rw [hk] at hTX cS
          simp only [strV] at hTX cS
          have hnB : ((n : Int) != 0) = true := by simp; omega
          have HT := Lib.hid hTX
          have HN := Lib.hid hn1
          clear hx hTX hlt hsb hse hk hn1 ha hbb
          go_wp2_with fail
          refine cE.mono ?_
          rintro e w5 ⟨rfl, q5⟩
          have cS5 := cS w5 q5
          replace k1 := q5.keep k1
          have oO5 := q5.obj HZ.out.2.2.2.2.2.2
          have p0 := obj_cell oO5 0
          have p1 := obj_cell oO5 1
          have p2 := obj_cell oO5 2
          have p3 := obj_cell oO5 3
          have p4 := obj_cell oO5 4
          have p5 := obj_cell oO5 5
          have p6 := obj_cell oO5 6
          have p7 := obj_cell oO5 7
          have p8 := obj_cell oO5 8
          have HF := Lib.hid (HZ.out.1.b.trans q5)
          clear q5 cE f0 f1 f2 f3 f4 f5 f6 f7 f8 k0 k2 m0 m1 m2 cS oO oO5
          go_wp2_with fail
          refine cS5.mono ?_
          rintro e w6 ⟨rfl, q6⟩
          have HF2 := Lib.hid (HF.out.trans q6)
          clear q6 cS5 p0 p1 p2 p3 p4 p5 p6 p7 p8 k1
          go_wp2
          try simp only [Exit.inBlock, Exit.then]
          go_ret2
          exact .inl ⟨n, by rw [HI.out.1, HZ.out.2.1, HZ.out.2.2.2.1 n HT.out.symm], HN.out, rfl, HF2.out⟩
        | ok k =>
          obtain ⟨hk0, hk1⟩ := hsb k hk
          rw [hk] at hTX cS
          simp only [strV] at hTX cS
          have HT := Lib.hid hTX
          have HK := Lib.hid (And.intro hk0 (And.intro hk1 (And.intro ha (And.intro hbb hj1))))
          have ha1 : (a' : Int) < (nn : Int) := by omega
          have ha0 : (0 : Int) ≤ (a' : Int) := by omega
          have hb1 : (b' : Int) < (nn : Int) := by omega
          have hb0 : (0 : Int) ≤ (b' : Int) := by omega
          clear hx hTX hlt hsb hse hk ha hbb hk0 hk1 hj1
          go_wp2_with fail
          refine cE.mono ?_
          rintro e w5 ⟨rfl, q5⟩
          have cS5 := cS w5 q5
          replace k1 := q5.keep k1
          have oO5 := q5.obj HZ.out.2.2.2.2.2.2
          have p0 := obj_cell oO5 0
          have p1 := obj_cell oO5 1
          have p2 := obj_cell oO5 2
          have p3 := obj_cell oO5 3
          have p4 := obj_cell oO5 4
          have p5 := obj_cell oO5 5
          have p6 := obj_cell oO5 6
          have p7 := obj_cell oO5 7
          have p8 := obj_cell oO5 8
          have HF := Lib.hid (HZ.out.1.keep q5)
          clear q5 cE f0 f1 f2 f3 f4 f5 f6 f7 f8 k0 k2 m0 m1 m2 cS oO oO5
          go_wp2_with fail
          refine cS5.mono ?_
          rintro e w6 ⟨rfl, q6⟩
          have hM6 := HF.out.keep q6
          obtain ⟨u0, u1, y0, z0⟩ := hM6.row.at_ HK.out.2.2.1
          have hb6 := HZ.out.2.2.2.2.1 _ (List.mem_of_getElem? u1)
          obtain ⟨x, hx⟩ : ∃ x, u.getD a' 0 = x := ⟨_, rfl⟩
          rw [hx] at y0 hb6
          obtain ⟨x', hx'⟩ : ∃ x', x + k = x' := ⟨_, rfl⟩
          have wx : IntKind.i64.wrap (x + k) = x' := by rw [IntKind.wrap_i64]; obtain ⟨r1, r2, r3, r4, r5⟩ := HK.out; omega
          have hM7 := hM6.set HK.out.2.2.1 x'
          have hb7 : ∀ y ∈ u.set a' x', 0 ≤ y ∧ y ≤ 16000 * (j : Int) + 8000 := set_bound (fun y hy => by have := HZ.out.2.2.2.2.1 y hy; omega) (by obtain ⟨r1, r2, r3, r4, r5⟩ := HK.out; omega)
          obtain ⟨v0, v1, y1, z1⟩ := hM7.row.at_ HK.out.2.2.2.1
          have hb8 := hb7 _ (List.mem_of_getElem? v1)
          obtain ⟨y, hy⟩ : ∃ y, (u.set a' x').getD b' 0 = y := ⟨_, rfl⟩
          rw [hy] at y1 hb8
          obtain ⟨y', hy'⟩ : ∃ y', y + k = y' := ⟨_, rfl⟩
          have wy : IntKind.i64.wrap (y + k) = y' := by rw [IntKind.wrap_i64]; obtain ⟨r1, r2, r3, r4, r5⟩ := HK.out; omega
          have hM8 := hM7.set HK.out.2.2.2.1 y'
          have hb9 : ∀ z ∈ (u.set a' x').set b' y', 0 ≤ z ∧ z ≤ 16000 * ((j + 1 : Nat) : Int) := set_bound (fun z hz => by have := hb7 z hz; omega) (by obtain ⟨r1, r2, r3, r4, r5⟩ := HK.out; omega)
          have hT9 := HT.out
          rw [hx, hx', hy, hy'] at hT9
          have HW := Lib.hid (And.intro hM8 (And.intro hb9 hT9))
          clear u0 u1 v0 v1 hb6 hb7 hb8 hM6 hM7 hM8 hb9 hT9 hx hy hx' hy' q6 cS5 p0 p1 p2 p3 p4 p5 p6 p7 p8 k1
          go_wp2
          go_roundw
          case rel => exact ⟨j + 1, _, by have := HZ.out.2.2.2.2.2.1; omega, by go_num, HW.out.1, HW.out.2.1, by rw [HZ.out.2.1, HZ.out.2.2.1 _ HW.out.2.2.symm]⟩
          case measure => have := HZ.out.2.2.2.2.2.1; simp [intOf]; omega
    · have hlB : decide ((j : Int) < (ln : Int)) = false := decide_eq_false (by omega)
      have hlN : decide (j < ln) = false := decide_eq_false hl
      rw [List.drop_eq_nil_of_le (by rw [HH.out.2.2.2.2.1]; omega), touchesX] at hrun
      have HZ := Lib.hid (And.intro hrun hM)
      clear hrun hM hF0 hl hj
      go_wp2
      try simp only [Exit.inBlock, Exit.then]
      go_ret2
      exact .inr ⟨u, g, by rw [HI.out.1, HZ.out.1], by rw [HI.out.2]; rfl, by rw [HI.out.2]; exact HZ.out.2.row, HZ.out.2.b⟩
end
end Go.Proofs.Ytnmcgleanpdlmaa

namespace Go.Proofs.Ytnmcgleanpdlmaa
open Go.RowKit
set_option linter.unusedVariables false
theorem u32s_two (w : World) : IsU32s (w.alloc (.cells #[.int .u32 7, .int .u32 7] 48)) (.slice (some ⟨w.heap.size, 0, none⟩) 2 2) [7, 7] := by
  refine ⟨some ⟨w.heap.size, 0, none⟩, 2, rfl, by decide, fun i x hx => ?_⟩
  have o := obj_new w (.cells #[.int .u32 7, .int .u32 7] 48)
  match i, hx with
  | 0, hx => obtain rfl : 7 = x := by simpa using hx
             exact ⟨by decide, w.heap.size, 0, rfl, obj_cell o 0⟩
  | 1, hx => obtain rfl : 7 = x := by simpa using hx
             exact ⟨by decide, w.heap.size, 0, rfl, obj_cell o 1⟩
  | n + 2, hx => simp at hx
/-- Transfers of a literal in new memory. -/
theorem ops_lit (w : World) (l : List Opx) (hl : l.length ≤ 1000) : IsOps (w.alloc (.cells (flatOp l).toArray 52)) (.slice (some ⟨w.heap.size, 0, none⟩) l.length l.length) l :=
  isOps_own (World.ownsRow_lit (base := w.heap.size) w _ _ (Nat.le_refl _) (by unfold maxLen; omega) (by simp [flatOp_len])) rfl
theorem fls_lit (w : World) (l : List Fl) (hl : l.length ≤ 1000) : IsFls (w.alloc (.cells (flatF l).toArray 66)) (.slice (some ⟨w.heap.size, 0, none⟩) l.length l.length) l :=
  isFls_own (World.ownsRow_lit (base := w.heap.size) w _ _ (Nat.le_refl _) (by unfold maxLen; omega) (by simp [flatF_len]))
def knD : Dk := seatD 0 1 0 1 [7, 7]
def knO : Opx := ⟨⟨namePlate, 0, 0⟩, ⟨nameTube, 0, 0⟩, 9, nameT1, false⟩
theorem kn_run : srunX knD [] [knO] = .ok [59992, 60001, 9, 0] := by kernel_rfl
theorem kn_tch : touchesX knD [knO] (List.replicate (cntD knD) 0) = .ok [4, 0, 4, 0] := by kernel_rfl
theorem kn_ix : indexW knD.ws 0 nameTube 0 0 = some 2 := by kernel_rfl
theorem kn_cnt : cntD knD = 4 := by kernel_rfl
theorem SRunRes.okd {d : Dk} {F : List Fl} {L : List Opx} {w w' : World} {e : Ending} {v : List Int} (h : SRunRes d F L w e w') (hk : srunX d F L = .ok v) : ∃ g, e = .returned (.tuple #[.slice (some ⟨g, 0, none⟩) (cntD d) (cntD d), .int .i64 0]) ∧ RowJ w' w.heap.size g (cntD d) v ∧ B w w' := by
  rcases h with ⟨n, h1, _⟩ | ⟨v', g, h1, h2, h3, h4⟩
  · rw [hk] at h1; cases h1
  · rw [hk] at h1; cases h1; exact ⟨g, h2, h3, h4⟩
theorem SRunRes.erd {d : Dk} {F : List Fl} {L : List Opx} {w w' : World} {e : Ending} {n : Nat} (h : SRunRes d F L w e w') (hk : srunX d F L = .error n) : e = .returned (.tuple #[.slice none 0 0, .int .i64 (n : Int)]) ∧ B w w' := by
  rcases h with ⟨n', h1, _, h2, h3⟩ | ⟨v', g, h1, _⟩
  · rw [hk] at h1; cases h1; exact ⟨h2, h3⟩
  · rw [hk] at h1; cases h1
theorem STchRes.okd {d : Dk} {L : List Opx} {w w' : World} {e : Ending} {v : List Int} (h : STchRes d L w e w') (hk : touchesX d L (List.replicate (cntD d) 0) = .ok v) : ∃ g, e = .returned (.tuple #[.slice (some ⟨g, 0, none⟩) (cntD d) (cntD d), .int .i64 0]) ∧ RowN w' w.heap.size g (cntD d) v ∧ B w w' := by
  rcases h with ⟨n, h1, _⟩ | ⟨v', g, h1, h2, h3, h4⟩
  · rw [hk] at h1; cases h1
  · rw [hk] at h1; cases h1; exact ⟨g, h2, h3, h4⟩
theorem STchRes.erd {d : Dk} {L : List Opx} {w w' : World} {e : Ending} {n : Nat} (h : STchRes d L w e w') (hk : touchesX d L (List.replicate (cntD d) 0) = .error n) : e = .returned (.tuple #[.slice none 0 0, .int .i64 (n : Int)]) ∧ B w w' := by
  rcases h with ⟨n', h1, _, h2, h3⟩ | ⟨v', g, h1, _⟩
  · rw [hk] at h1; cases h1; exact ⟨h2, h3⟩
  · rw [hk] at h1; cases h1
theorem flsI_nil : FlsI [] := fun f hf => by cases hf
theorem opsI_nil : OpsI [] := fun f hf => by cases hf
theorem seat_fs {a b c d : Int} {l : List Nat} (h : l.length ≤ 20) : (seatD a b c d l).fs.length ≤ 1000000 := by
  show (fillsF _ _ _).length ≤ _
  have := fillsF_len (wares7 a b c d) l 0
  omega
set_option maxRecDepth 100000 in
set_option maxHeartbeats 2000000 in
theorem known14_any (w : World) : Calls Try.prog 7 #[] w fun e w' => e = .returned (.bool true) ∧ B w w' := by
  have q0 : B w (w.alloc (.cells #[.int .u32 7, .int .u32 7] 48)) := (B.refl w).alloc _ _
  have cB := boards14_any 0 1 0 1 _ [7, 7] (by decide) (by decide) (by decide) (by decide) (by decide) _ (u32s_two w)
  have HQ := Lib.hid q0
  clear q0
  go_enter Try.func7, Try.ntmps7
  go_wp2_with fail
  refine cB.mono ?_
  rintro e w1 ⟨P, X, b, wv, tv, fv, rfl, hPd, hM, hDk, hRb, q1⟩
  have hI : OpsI [knO] := fun x hx => by
    obtain rfl : x = knO := by simpa using hx
    simp [knO, I64]
  have c1 := fun w' (q : B w1 w') lv hL => srun_any knD hPd w' (hM.keepB q) (seat_fs (by decide)) (.slice none 0 0) [] (isFls_nil _) flsI_nil (by simp) lv [knO] hL hI
  have c2 := fun w' (q : B w1 w') lv hL => stouch_any knD hPd w' (hM.keepB q) (seat_fs (by decide)) lv [knO] hL hI (by simp)
  have hbw : ∀ x ∈ knD.ws, wareB x := by
    have hri : rightD knD = true := by have := hM.right; rw [hPd] at this; exact this
    obtain ⟨_, _, pW, _⟩ := right_parts9 hri
    exact wares_in pW
  have c3 := fun w' (q : B w1 w') => r8index_any wv tv fv knD nameTube 0 0 w' (hDk.keepB q) hbw (by decide)
  have e3 : hasW knD.ws nameTube 0 0 = true := by unfold hasW; rw [kn_ix]; rfl
  rw [kn_ix, e3] at c3
  simp only [Option.getD_some] at c3
  obtain ⟨gw, cw, gt, ct, oB, _⟩ := hRb
  obtain ⟨ao, ac, bo, bc, co, cc, rfl, rfl, rfl⟩ := hDk.forms
  have k0 := obj_cell oB 0
  have k1 := obj_cell oB 1
  have k2 := obj_cell oB 2
  have HP := Lib.hid (And.intro hPd (HQ.out.trans q1))
  generalize P.b = pb at *
  generalize (seatD 0 1 0 1 [7, 7]).ws.length = n1 at *
  generalize (seatD 0 1 0 1 [7, 7]).ts.length = n2 at *
  generalize (seatD 0 1 0 1 [7, 7]).fs.length = n3 at *
  clear hM cB q1 HQ hDk oB hI hbw e3
  go_wp2_with fail
  have cc1 := c1 _ ((B.refl w1).alloc _ _) _ (ops_lit w1 [knO] (by simp))
  refine Calls.mono cc1 ?_
  rintro e w2 hR
  obtain ⟨g1, rfl, r1, q2⟩ := hR.okd kn_run
  rw [kn_cnt] at r1 ⊢
  have hb12 : B w1 w2 := B.trans ((B.refl w1).alloc _ _) q2
  have y1 := (r1.at_ (i := 2) (by omega)).2.2.1
  have HB := Lib.hid hb12
  clear hR cc1 c1 q2 hb12 r1
  go_wp2_with fail
  have cc2 := c2 _ (HB.out.trans ((B.refl w2).alloc _ _)) _ (ops_lit w2 [knO] (by simp))
  refine Calls.mono cc2 ?_
  rintro e w3 hR
  obtain ⟨g2, rfl, r2, q3⟩ := hR.okd kn_tch
  rw [kn_cnt] at r2 ⊢
  have hb23 : B w2 w3 := B.trans ((B.refl w2).alloc _ _) q3
  have hb13 := HB.out.trans hb23
  have z1 := (r2.at_ (i := 2) (by omega)).2.2.1
  replace y1 := hb23.keep y1
  replace k0 := hb13.keep k0
  replace k1 := hb13.keep k1
  replace k2 := hb13.keep k2
  have c33 := c3 w3 hb13
  have HC := Lib.hid hb13
  clear hR cc2 c2 q3 hb23 hb13 r2 c3 HB
  go_wp2_with fail
  refine Calls.mono c33 ?_
  rintro e w4 ⟨rfl, q4⟩
  replace y1 := q4.b.keep y1
  replace z1 := q4.b.keep z1
  have HD := Lib.hid (HP.out.2.trans (HC.out.trans q4.b))
  have e9 : ([59992, 60001, 9, 0] : List Int).getD 2 0 = 9 := rfl
  have e4 : ([4, 0, 4, 0] : List Int).getD 2 0 = 4 := rfl
  rw [e9] at y1
  rw [e4] at z1
  clear q4 c33 k0 k1 k2 e9 e4
  go_wp2
  try simp only [Exit.inBlock, Exit.then]
  go_ret
  exact ⟨rfl, HD.out⟩
end Go.Proofs.Ytnmcgleanpdlmaa

namespace Go.Proofs.Ytnmcgleanpdlmaa
open Go.RowKit
set_option linter.unusedVariables false
theorem fillsX_app (d : Dk) : ∀ (A C : List Fl) (v : List Int), fillsX d (A ++ C) v = (match fillsX d A v with
    | .ok v' => fillsX d C v'
    | .error n => .error n)
  | [], C, v => rfl
  | f :: A, C, v => by
    rw [List.cons_append, fillsX, fillsX]
    cases fillX d v f with
    | error n => rfl
    | ok v1 => exact fillsX_app d A C v1
/-- A deck's own fills are never wrong. -/
theorem own_fills {d : Dk} (hr : rightD d = true) : ∀ (l : List Fl) (v : List Int), (∀ f ∈ l, f ∈ d.fs) → FOk (cntD d) v → ∃ v', fillsX d l v = .ok v' ∧ FOk (cntD d) v'
  | [], v, _, h => ⟨v, rfl, h⟩
  | f :: l, v, hm, h => by
    obtain ⟨i, hi, e⟩ := List.getElem_of_mem (hm f (List.mem_cons_self ..))
    obtain ⟨⟨k, hk, _, _⟩, hv0, hv1⟩ := right_fill hr (show d.fs[i]? = some f by rw [List.getElem?_eq_getElem hi, e])
    have hx : ixW d ⟨f.n, f.r, f.c⟩ = some k.toNat := by unfold ixW; rw [hk]; rfl
    have hf : fillX d v f = .ok (v.set k.toNat f.v) := by
      unfold fillX
      rw [hx]
      simp only
      rw [if_pos (by unfold inB; simp; omega)]
    rw [fillsX, hf]
    exact own_fills hr l _ (fun g hg => hm g (List.mem_cons_of_mem _ hg)) (h.fill hf)
theorem first_fills {d : Dk} (hr : rightD d = true) : ∃ v0, fillsX d d.fs (List.replicate (cntD d) 0) = .ok v0 ∧ FOk (cntD d) v0 := own_fills hr d.fs _ (fun _ h => h) (FOk.zero _)
theorem srun_first {d : Dk} {v0 : List Int} (h : fillsX d d.fs (List.replicate (cntD d) 0) = .ok v0) (F : List Fl) (L : List Opx) : srunX d F L = (match fillsX d F v0 with
    | .ok v => movesX d L v
    | .error n => .error n) := by
  unfold srunX
  rw [fillsX_app, h]
  rfl
theorem ix_at {ws : List Wr} {ts : List Wr} {fs : List Fl} (hb : ∀ x ∈ ws, wareB x) (hA : namesApart ws) {k : Nat} {n : ByteArray} {r c : Int} (h : atW ws (k : Int) = some (n, r, c)) : ixW ⟨ws, ts, fs⟩ ⟨n, r, c⟩ = some k := by
  have h1 := at_index ws 0 k n r c hb hA h
  unfold ixW
  simp only
  rw [indexC_eq ws 0 n r c hA, h1]
  simp
/-- Two fills of one well behind the deck's own. -/
theorem two_fills {d : Dk} {v0 : List Int} (h0 : fillsX d d.fs (List.replicate (cntD d) 0) = .ok v0) {k : Nat} {n : ByteArray} {r c v : Int} (hx : ixW d ⟨n, r, c⟩ = some k) :
    srunX d [⟨n, r, c, 77⟩, ⟨n, r, c, v⟩] [] = if inB v 0 21000000 then .ok (v0.set k v) else .error 20 := by
  rw [srun_first h0]
  have f1 : fillX d v0 ⟨n, r, c, 77⟩ = .ok (v0.set k 77) := by
    unfold fillX
    simp only [hx]
    rfl
  have f2 : fillX d (v0.set k 77) ⟨n, r, c, v⟩ = if inB v 0 21000000 then .ok (v0.set k v) else .error 20 := by
    unfold fillX
    simp only [hx, List.set_set]
  rw [fillsX, f1]
  simp only
  rw [fillsX, f2]
  cases inB v 0 21000000 <;> rfl
/-- Some numbers of the statements' decks. -/
theorem seat_plate (a b c d : Int) (l : List Nat) (ha : 0 ≤ a ∧ a ≤ 255) (hb : 0 ≤ b ∧ b ≤ 255) : ixW (seatD a b c d l) ⟨namePlate, 0, 0⟩ = some 0 := by
  have hh : hasB namePlate (a / 6 % 3 + 1) (b / 6 % 4 + 2) namePlate 0 0 = true := by
    unfold hasB
    simp
    omega
  unfold ixW
  show (indexC (wares7 a b c d) 0 namePlate 0 0).map Int.toNat = _
  unfold wares7
  rw [indexC]
  simp only
  rw [if_pos hh]
  simp
def nameNone : ByteArray := ⟨#[110, 111, 110, 101]⟩
theorem seat_none (a b c d : Int) (l : List Nat) : ixW (seatD a b c d l) ⟨nameNone, 0, 0⟩ = none := by
  unfold ixW
  show (indexC (wares7 a b c d) 0 nameNone 0 0).map Int.toNat = _
  rw [indexC_none (wares7 a b c d) 0 nameNone 0 0 (fun v hv => by
    unfold wares7 at hv
    simp only [List.mem_cons, List.not_mem_nil, or_false] at hv
    rcases hv with rfl | rfl <;> kernel_rfl)]
  rfl
theorem seat_cnt {a b c d : Int} (l : List Nat) (ha : 0 ≤ a ∧ a ≤ 255) (hb : 0 ≤ b ∧ b ≤ 255) (hc : 0 ≤ c ∧ c ≤ 255) (hd : 0 ≤ d ∧ d ≤ 255) : 2 ≤ cntD (seatD a b c d l) ∧ cntD (seatD a b c d l) ≤ 192 ∧ countW (wares7 a b c d) = (cntD (seatD a b c d l) : Int) := by
  have h := seat_count ha hb hc hd
  have h2 : 2 ≤ countW (wares7 a b c d) := by
    unfold wares7
    show 2 ≤ (a / 6 % 3 + 1) * (b / 6 % 4 + 2) + (1 * (c / 4 % 3 + 2) + 0)
    have m := Int.mul_nonneg (show 0 ≤ a / 6 % 3 + 1 by omega) (show 0 ≤ b / 6 % 4 + 2 by omega)
    omega
  unfold cntD
  show 2 ≤ (countW (wares7 a b c d)).toNat ∧ (countW (wares7 a b c d)).toNat ≤ 192 ∧ _
  refine ⟨by omega, by omega, ?_⟩
  show countW (wares7 a b c d) = ((countW (wares7 a b c d)).toNat : Int)
  omega
/-- A transfer of a well to itself. -/
theorem self_run {d : Dk} {v0 : List Int} (h0 : fillsX d d.fs (List.replicate (cntD d) 0) = .ok v0) {o : Opx} {k : Nat} (he : endsX d o = some (k, k)) (hv : inB o.v 1 20000000 = true) : srunX d [] [o] = .ok v0 := by
  rw [srun_first h0, fillsX]
  simp only
  have hm : moveX d v0 o = .ok v0 := by
    unfold moveX
    rw [he]
    simp only
    rw [if_pos hv, if_pos trivial]
  rw [movesX, hm]
  rfl
theorem none_run {d : Dk} {v0 : List Int} (h0 : fillsX d d.fs (List.replicate (cntD d) 0) = .ok v0) : srunX d [] [] = .ok v0 := by
  rw [srun_first h0]
  rfl
theorem self_touch {d : Dk} {o : Opx} {k : Nat} (he : endsX d o = some (k, k)) (hk : k < cntD d) : touchesX d [o] (List.replicate (cntD d) 0) = (match strokesX d o with
    | .ok n => .ok ((List.replicate (cntD d) 0).set k (2 * n))
    | .error n => .error n) := by
  have hm : touchX d (List.replicate (cntD d) 0) o = (match strokesX d o with
    | .ok n => .ok ((List.replicate (cntD d) 0).set k (2 * n))
    | .error n => .error n) := by
    unfold touchX
    rw [he]
    simp only
    cases strokesX d o with
    | error n => rfl
    | ok n =>
      simp only
      have e1 : (List.replicate (cntD d) (0 : Int)).getD k 0 = 0 := by rw [List.getD_eq_getElem?_getD, List.getElem?_replicate]; split <;> rfl
      have e2 : ((List.replicate (cntD d) (0 : Int)).set k (0 + n)).getD k 0 = n := by
        rw [List.getD_eq_getElem?_getD, List.getElem?_set_self (by rw [List.length_replicate]; exact hk)]
        simp
      rw [e1, e2, List.set_set, show n + n = 2 * n by omega]
  rw [touchesX, hm]
  cases strokesX d o <;> rfl
end Go.Proofs.Ytnmcgleanpdlmaa

namespace Go.Proofs.Ytnmcgleanpdlmaa
open Go.RowKit
theorem u32_wf {k : Int} (w : (Lit.int .u32 k).wf = true) : 0 ≤ k ∧ k ≤ 4294967295 := by
  simp [Lit.wf, IntKind.min, IntKind.max, IntKind.signed, IntKind.bits] at w
  omega
end Go.Proofs.Ytnmcgleanpdlmaa

namespace Go.Proofs.Ytnmcgleanpdlmaa
open Go.RowKit
/-- An order; at a fork two operations may come up, both ahead of the gate. -/
inductive Ord where
  | done : Ord
  | step : Nat → Nat → Ord → Ord
  | fork : Nat → Ord → Nat → Ord → Ord
def Ord.len : Ord → Nat
  | .done => 0
  | .step _ _ l => l.len + 1
  | .fork _ l _ _ => l.len + 1
/-- May they come up so? 0: taken, by S, ahead of the gate; 1: passed over; 2: the only one that may come up, ahead of the gate; 3: taken, in whatever world; 4: the gate, or behind it: the only one that may come up. -/
def seqOkF (n g : Nat) (am cf later : List Nat) : Ord → Nat → Bool
  | .done, done => (List.range n).all done.testBit
  | .step i k l, done => decide (i < n) && !done.testBit i && (am.getD i 0 &&& done == am.getD i 0) &&
      (if k = 2 ∨ k = 4 then (List.range n).all (fun j => j == i || done.testBit j || !(am.getD j 0 &&& done == am.getD j 0)) else (cf.getD i 0 &&& done == cf.getD i 0) && i != g) &&
      (if k = 0 then laterOk am i (later.getD i 0) && (later.getD i 0).testBit g else if k = 2 then i != g && !done.testBit g else if k = 4 then i == g || done.testBit g else true) && seqOkF n g am cf later l (done ||| 2 ^ i)
  | .fork i l j r, done => decide (i < n) && decide (j < n) && !done.testBit i && !done.testBit j && (am.getD i 0 &&& done == am.getD i 0) && (am.getD j 0 &&& done == am.getD j 0) &&
      (List.range n).all (fun x => x == i || x == j || done.testBit x || !(am.getD x 0 &&& done == am.getD x 0)) && i != g && j != g && !done.testBit g && l.len == r.len && seqOkF n g am cf later l (done ||| 2 ^ i) && seqOkF n g am cf later r (done ||| 2 ^ j)
def wpSeqF (P : Program) (ops : Array Oper) (Q : Exit → Act → World → Prop) (S : World → Prop) : Ord → Act → World → Prop
  | .done, a, w => Q .normal a w
  | .fork i l j r, a, w => wpOp P ops Q i (fun a' w' => S w' ∧ wpSeqF P ops Q S l a' w') a w ∧ wpOp P ops Q j (fun a' w' => S w' ∧ wpSeqF P ops Q S r a' w') a w
  | .step i k l, a, w => ∃ o, ops[i]? = some o ∧
      (if k = 0 then ∃ v, (Region.wanted o (yielded ops a.tmps) = true ∧ ∀ w, S w → (execOp a.eval o).run P w = .ok (.value v) w) ∧ wpSeqF P ops Q S l (a.put o.dst v) w
      else if k = 1 then Region.wanted o (yielded ops a.tmps) = false ∧ wpSeqF P ops Q S l (a.put o.dst undef) w
      else if k = 2 then wpOp P ops Q i (fun a' w' => S w' ∧ wpSeqF P ops Q S l a' w') a w
      else if k = 3 then ∃ v, (Region.wanted o (yielded ops a.tmps) = true ∧ ∀ w, (execOp a.eval o).run P w = .ok (.value v) w) ∧ wpSeqF P ops Q S l (a.put o.dst v) w
      else k = 4 ∧ wpOp P ops Q i (fun a' w' => wpSeqF P ops Q S l a' w') a w)
theorem wpAnyF_seq {P : Program} {md : Region.Mode} {ops : Array Oper} {Q : Exit → Act → World → Prop} {S : World → Prop} (g : Nat) (am cf later : List Nat) (hgn : g < ops.size)
    (ham : ops.toList.map (amOf md) = am) (hcf : cfAll md ops ops.toList 0 = cf) (hs : Region.noSelect ops = true)
    (hQ : ∀ c a w d v, Q (.panic c) (Act.put a d v) w → Q (.panic c) a w) :
    ∀ (l : Ord) (done : Nat) (listed : Array Bool) (a : Act) (w : World), Inv ops.size listed done → Closed md ops listed → seqOkF ops.size g am cf later l done = true → (done.testBit g = false → S w) →
      wpSeqF P ops Q S l a w → wpAnyG P md ops Q S g l.len listed a w := by
  have am_get : ∀ (i : Nat) (o : Oper), ops[i]? = some o → am.getD i 0 = amOf md o := by
    intro i o ho
    rw [← ham, List.getD_eq_getElem?_getD, List.getElem?_map, Array.getElem?_toList, ho]; rfl
  have am_len : am.length = ops.size := by rw [← ham]; simp
  have cf_get : ∀ (i : Nat) (o : Oper), ops[i]? = some o → cf.getD i 0 = cfOf md ops o i ops.toList 0 := by
    intro i o ho
    rw [← hcf, List.getD_eq_getElem?_getD, cfAll_get md ops ops.toList 0 i o (by rw [Array.getElem?_toList]; exact ho), Nat.zero_add]; rfl
  have is_ready : ∀ (i done : Nat) (listed : Array Bool) (o : Oper), Inv ops.size listed done → ops[i]? = some o → done.testBit i = false → (am.getD i 0 &&& done == am.getD i 0) = true → i ∈ Region.ready md ops listed := by
    intro i done listed o hI ho hd ha
    have hin : i < ops.size := (Array.getElem?_eq_some_iff.1 ho).1
    refine mem_ready.2 ⟨by rw [hI.getT hin]; exact hd, o, ho, fun e he hb => ?_⟩
    rw [hI.getF]
    rw [am_get i o ho] at ha
    exact sub_bits ha e.on ((amOf_bit md o e.on).2 ⟨e, he, hb, rfl⟩)
  have ready_is : ∀ (i done : Nat) (listed : Array Bool), Inv ops.size listed done → i ∈ Region.ready md ops listed → i < ops.size ∧ done.testBit i = false ∧ (am.getD i 0 &&& done == am.getD i 0) = true := by
    intro i done listed hI hr
    obtain ⟨h1, o, ho, h2⟩ := mem_ready.1 hr
    have hin : i < ops.size := (Array.getElem?_eq_some_iff.1 ho).1
    refine ⟨hin, by rw [← hI.getT hin]; exact h1, ?_⟩
    rw [am_get i o ho]
    refine bits_sub fun k hk => ?_
    obtain ⟨e, he, hb, rfl⟩ := (amOf_bit md o k).1 hk
    rw [← hI.getF]
    exact h2 e he hb
  intro l
  induction l with
  | done =>
    intro done listed a w hI _ hk _ h
    refine ⟨?_, h⟩
    refine List.eq_nil_iff_forall_not_mem.2 fun i hi => ?_
    obtain ⟨h1, h2, _⟩ := ready_is i done listed hI hi
    have := List.all_eq_true.1 hk i (List.mem_range.2 h1)
    rw [h2] at this
    cases this
  | fork i l j r ihl ihr =>
    intro done listed a w hI hcl hk hS h
    unfold seqOkF at hk
    simp only [Bool.and_eq_true, decide_eq_true_eq, Bool.not_eq_true', bne_iff_ne, beq_iff_eq] at hk
    obtain ⟨⟨⟨⟨⟨⟨⟨⟨⟨⟨⟨⟨k1, k1'⟩, k2⟩, k2'⟩, k3⟩, k3'⟩, k4⟩, k5⟩, k5'⟩, k6⟩, k7⟩, k8⟩, k8'⟩ := hk
    have gi : ops[i]? = some ops[i] := Array.getElem?_eq_getElem k1
    have gj : ops[j]? = some ops[j] := Array.getElem?_eq_getElem k1'
    have ri := is_ready i done listed _ hI gi k2 (by rw [beq_iff_eq]; exact k3)
    have rj := is_ready j done listed _ hI gj k2' (by rw [beq_iff_eq]; exact k3')
    refine ⟨fun e => (by rw [e] at ri; cases ri), fun x hx => ?_⟩
    obtain ⟨q1, q2, q3⟩ := ready_is x done listed hI hx
    have hd := List.all_eq_true.1 k4 x (List.mem_range.2 q1)
    rw [q2, q3] at hd
    simp only [Bool.not_true, Bool.or_false, Bool.or_eq_true, beq_iff_eq] at hd
    by_cases hxi : x = i
    · subst hxi
      exact wpOp_mono (fun a' w' h' => ⟨fun _ _ => h'.1, ihl _ _ _ _ (hI.set k1) (hcl.set ri) k8 (fun _ => h'.1) h'.2⟩) h.1
    · have hxj : x = j := by
        rcases hd with hd | hd
        · exact absurd hd hxi
        · exact hd
      subst hxj
      have e := wpOp_mono (fun a' w' h' => (⟨fun _ _ => h'.1, ihr _ _ _ _ (hI.set k1') (hcl.set rj) k8' (fun _ => h'.1) h'.2⟩ : (x ≠ g → listed.getD g false = false → S w') ∧ wpAnyG P md ops Q S g r.len (listed.setIfInBounds x true) a' w')) h.2
      rw [← k7] at e
      exact e
  | step i k l ih =>
    intro done listed a w hI hcl hk hS h
    unfold seqOkF at hk
    simp only [Bool.and_eq_true, decide_eq_true_eq, Bool.not_eq_true'] at hk
    obtain ⟨⟨⟨⟨⟨k1, k2⟩, k3⟩, k4⟩, k5⟩, k6⟩ := hk
    obtain ⟨o, ho, h⟩ := h
    have hr := is_ready i done listed o hI ho k2 k3
    have hI' := hI.set k1
    have hcl' := hcl.set hr
    have gbit : ∀ j, j ≠ g → (done ||| 2 ^ j).testBit g = done.testBit g := fun j hj => by
      rw [Nat.testBit_or, testBit_pow]
      simp [hj]
    have hfree : ¬ (k = 2 ∨ k = 4) → i ≠ g ∧ ∀ j oj, ops[j]? = some oj → j ≠ i → listed.getD j true = false → (∀ e ∈ oj.after, Region.binds md e = true → e.on ≠ i) → o.apart ops oj = true := by
      intro hk2
      rw [if_neg hk2] at k4
      simp only [Bool.and_eq_true, bne_iff_ne] at k4
      refine ⟨k4.2, ?_⟩
      intro j oj hj hji hun hno
      cases c : o.apart ops oj
      · exfalso
        have hjn : j < ops.size := (Array.getElem?_eq_some_iff.1 hj).1
        have hb : (amOf md oj).testBit i = false := by
          cases e : (amOf md oj).testBit i
          · rfl
          · obtain ⟨x, hx, hxb, hxi⟩ := (amOf_bit md oj i).1 e
            exact absurd hxi (hno x hx hxb)
        have k4' := k4.1
        rw [cf_get i o ho] at k4'
        have := sub_bits k4' j (cfOf_bit md ops o i j oj hji hb c ops.toList 0 j (by rw [Array.getElem?_toList]; exact hj) (Nat.zero_add _))
        rw [hI.getT hjn, this] at hun
        cases hun
      · rfl
    have only : (k = 2 ∨ k = 4) → ∀ j ∈ Region.ready md ops listed, j = i := by
      intro hk2 j hj
      rw [if_pos hk2] at k4
      obtain ⟨q1, q2, q3⟩ := ready_is j done listed hI hj
      have := List.all_eq_true.1 k4 j (List.mem_range.2 q1)
      rw [q2, q3] at this
      simpa using this
    have hSl : listed.getD g false = false → S w := fun hg => hS (by rw [← hI.getF]; exact hg)
    by_cases c0 : k = 0
    · subst c0
      obtain ⟨hig, hfr⟩ := hfree (by omega)
      rw [if_pos rfl] at h k5
      simp only [Bool.and_eq_true] at k5
      obtain ⟨v, ⟨hw, hv⟩, h⟩ := h
      have hB := behind_of (g := g) am ham i (later.getD i 0) k5.1 k5.2 (Ne.symm hig) (by omega)
      obtain ⟨hg1, _⟩ := hB listed hcl (mem_ready.1 hr).1
      exact wpAnyG_first (T := S) ho (Region.noSelect_spec hs) hig (.inr ⟨fun _ h => h, hB⟩) (fun c a w h => hQ c a w _ _ h) l.len listed a w hcl hfr hr (Or.inl ⟨hw, hv⟩) (hSl hg1) hSl
        (ih _ _ _ _ hI' hcl' k6 (fun hg => hSl hg1) h)
    rw [if_neg c0] at h
    by_cases c1 : k = 1
    · subst c1
      obtain ⟨hig, hfr⟩ := hfree (by omega)
      rw [if_pos rfl] at h
      exact wpAnyG_first (T := fun _ => True) ho (Region.noSelect_spec hs) hig (.inl fun _ => trivial) (fun c a w h => hQ c a w _ _ h) l.len listed a w hcl hfr hr (Or.inr ⟨h.1, rfl⟩) trivial hSl
        (ih _ _ _ _ hI' hcl' k6 (fun hg => hS (by rw [gbit i hig] at hg; exact hg)) h.2)
    rw [if_neg c1] at h
    by_cases c2 : k = 2
    · subst c2
      rw [if_pos rfl] at h
      simp only [if_neg c0, if_true, Bool.and_eq_true, bne_iff_ne, Bool.not_eq_true'] at k5
      refine ⟨fun e => (by rw [e] at hr; cases hr), fun j hj => ?_⟩
      obtain rfl := only (Or.inl rfl) j hj
      exact wpOp_mono (fun a' w' h' => ⟨fun _ _ => h'.1, ih _ _ _ _ hI' hcl' k6 (fun _ => h'.1) h'.2⟩) h
    rw [if_neg c2] at h
    by_cases c3 : k = 3
    · subst c3
      obtain ⟨hig, hfr⟩ := hfree (by omega)
      rw [if_pos rfl] at h
      obtain ⟨v, ⟨hw, hv⟩, h⟩ := h
      exact wpAnyG_first (T := fun _ => True) ho (Region.noSelect_spec hs) hig (.inl fun _ => trivial) (fun c a w h => hQ c a w _ _ h) l.len listed a w hcl hfr hr (Or.inl ⟨hw, fun w _ => hv w⟩) trivial hSl
        (ih _ _ _ _ hI' hcl' k6 (fun hg => hS (by rw [gbit i hig] at hg; exact hg)) h)
    rw [if_neg c3] at h
    obtain ⟨c4, h⟩ := h
    subst c4
    simp only [if_neg c0, if_neg c2, if_true, Bool.or_eq_true, beq_iff_eq] at k5
    refine ⟨fun e => (by rw [e] at hr; cases hr), fun j hj => ?_⟩
    obtain rfl := only (Or.inr rfl) j hj
    have hdone : (done ||| 2 ^ j).testBit g = true := by
      rw [Nat.testBit_or, testBit_pow]
      rcases k5 with rfl | k5
      · simp
      · rw [k5]; rfl
    have hls : listed.getD g false = false → j = g := fun hg => by
      rcases k5 with k5 | k5
      · exact k5
      · rw [hI.getF, k5] at hg; cases hg
    exact wpOp_mono (fun a' w' h' => ⟨fun hjg hg => absurd (hls hg) hjg, ih _ _ _ _ hI' hcl' k6 (fun hg => by rw [hdone] at hg; cases hg) h'⟩) h
/-- The beginning: the order, and that it may be. -/
theorem wp_region_fork {P : Program} {ops : Array Oper} {Q : Exit → Act → World → Prop} {S : World → Prop} {id : Nat} {a : Act} {w : World} (g : Nat) (l : Ord) (am cf later : List Nat) (hm : P.follows .mixedOrders = true)
    (hk : (Region.noSelect ops && decide (l.len = ops.size) && decide (g < ops.size) && decide (ops.toList.map (amOf .any) = am) && decide (cfAll .any ops ops.toList 0 = cf) && seqOkF ops.size g am cf later l 0) = true)
    (hQ : ∀ c a w d v, Q (.panic c) (Act.put a d v) w → Q (.panic c) a w) (hS : S w.drew)
    (h : S w.drew → wpSeqF P ops Q S l a w.drew) : (Code.region id ops true).wp P Q a w := by
  simp only [Bool.and_eq_true, decide_eq_true_eq] at hk
  obtain ⟨⟨⟨⟨⟨h1, h2⟩, hg⟩, h3⟩, h4⟩, h5⟩ := hk
  refine wp_region_any hm ?_
  rw [← h2]
  refine wpAny_of_gate (S := S) (g := g) _ _ _ _ ?_
  have := wpAnyF_seq (P := P) (md := .any) (S := S) g am cf later hg h3 h4 h1 hQ l 0 (Array.replicate ops.size false) a w.drew (Inv.start _) (fun j oj hj hl => by
    rw [Array.getD_eq_getD_getElem?, Array.getElem?_replicate] at hl
    split at hl <;> simp at hl) h5 (fun _ => hS) (h hS)
  rw [h2] at this ⊢
  exact this
theorem wpSeqF_take {P : Program} {ops : Array Oper} {Q : Exit → Act → World → Prop} {S : World → Prop} {l : Ord} {t : List Value} {df : List _} {w : World} {i d : Nat} {o : Oper} {v : Value}
    (ho : ops.toList[i]? = some o) (hd : o.dst = some d) (hw : Region.wanted o (yielded ops t.toArray) = true)
    (hy : ∀ w, S w → (execOp (Act.eval { tmps := t.toArray, defers := df }) o).run P w = .ok (.value v) w)
    (h : wpSeqF P ops Q S l { tmps := (t.set d v).toArray, defers := df } w) : wpSeqF P ops Q S (.step i 0 l) { tmps := t.toArray, defers := df } w := by
  refine ⟨o, by rw [← Array.getElem?_toList]; exact ho, ?_⟩
  rw [if_pos rfl]
  refine ⟨v, ⟨hw, hy⟩, ?_⟩
  have e : Act.put { tmps := t.toArray, defers := df } o.dst v = { tmps := (t.set d v).toArray, defers := df } := by
    rw [hd]; simp [Act.put]
  rw [e]
  exact h
theorem wpSeqF_free {P : Program} {ops : Array Oper} {Q : Exit → Act → World → Prop} {S : World → Prop} {l : Ord} {t : List Value} {df : List _} {w : World} {i d : Nat} {o : Oper} {v : Value}
    (ho : ops.toList[i]? = some o) (hd : o.dst = some d) (hw : Region.wanted o (yielded ops t.toArray) = true)
    (hy : ∀ w, (execOp (Act.eval { tmps := t.toArray, defers := df }) o).run P w = .ok (.value v) w)
    (h : wpSeqF P ops Q S l { tmps := (t.set d v).toArray, defers := df } w) : wpSeqF P ops Q S (.step i 3 l) { tmps := t.toArray, defers := df } w := by
  refine ⟨o, by rw [← Array.getElem?_toList]; exact ho, ?_⟩
  rw [if_neg (by decide), if_neg (by decide), if_neg (by decide), if_pos rfl]
  refine ⟨v, ⟨hw, hy⟩, ?_⟩
  have e : Act.put { tmps := t.toArray, defers := df } o.dst v = { tmps := (t.set d v).toArray, defers := df } := by
    rw [hd]; simp [Act.put]
  rw [e]
  exact h
theorem wpSeqF_call {P : Program} {ops : Array Oper} {Q : Exit → Act → World → Prop} {S : World → Prop} {l : Ord} {a : Act} {w : World} {i : Nat} {o : Oper}
    (ho : ops.toList[i]? = some o) (hw : Region.wanted o (yielded ops a.tmps) = true)
    (h : ∀ K' : Act → World → Prop, Shut (∀ a w, S w → (S w → wpSeqF P ops Q S l a w) → K' a w) → Oper.wp P o a w K' Q) : wpSeqF P ops Q S (.step i 2 l) a w := by
  rw [Array.getElem?_toList] at ho
  refine ⟨o, ho, ?_⟩
  rw [if_neg (by decide), if_neg (by decide), if_pos rfl]
  refine wpOp_step ho fun K' hK => ?_
  rw [if_pos hw]
  exact h K' fun a w hS h => hK a w ⟨hS, h hS⟩
theorem wpSeqF_gate {P : Program} {ops : Array Oper} {Q : Exit → Act → World → Prop} {S : World → Prop} {l : Ord} {a : Act} {w : World} {i : Nat} {o : Oper}
    (ho : ops.toList[i]? = some o) (hw : Region.wanted o (yielded ops a.tmps) = true)
    (h : ∀ K' : Act → World → Prop, Shut (∀ a w, wpSeqF P ops Q S l a w → K' a w) → Oper.wp P o a w K' Q) : wpSeqF P ops Q S (.step i 4 l) a w := by
  rw [Array.getElem?_toList] at ho
  refine ⟨o, ho, ?_⟩
  rw [if_neg (by decide), if_neg (by decide), if_neg (by decide), if_neg (by decide)]
  refine ⟨rfl, wpOp_step ho fun K' hK => ?_⟩
  rw [if_pos hw]
  exact h K' fun a w h => hK a w h
theorem wpSeqF_done {P : Program} {ops : Array Oper} {Q : Exit → Act → World → Prop} {S : World → Prop} {a : Act} {w : World} (h : Q .normal a w) : wpSeqF P ops Q S .done a w := h
theorem wpSeqF_fork {P : Program} {ops : Array Oper} {Q : Exit → Act → World → Prop} {S : World → Prop} {l r : Ord} {a : Act} {w : World} {i j : Nat} {o o' : Oper}
    (ho : ops.toList[i]? = some o) (ho' : ops.toList[j]? = some o') (hw : Region.wanted o (yielded ops a.tmps) = true) (hw' : Region.wanted o' (yielded ops a.tmps) = true)
    (h : ∀ K' : Act → World → Prop, Shut (∀ a w, S w → (S w → wpSeqF P ops Q S l a w) → K' a w) → Oper.wp P o a w K' Q)
    (h' : ∀ K' : Act → World → Prop, Shut (∀ a w, S w → (S w → wpSeqF P ops Q S r a w) → K' a w) → Oper.wp P o' a w K' Q) : wpSeqF P ops Q S (.fork i l j r) a w := by
  rw [Array.getElem?_toList] at ho ho'
  refine ⟨wpOp_step ho fun K' hK => ?_, wpOp_step ho' fun K' hK => ?_⟩
  · rw [if_pos hw]
    exact h K' fun a w hS h => hK a w ⟨hS, h hS⟩
  · rw [if_pos hw']
    exact h' K' fun a w hS h => hK a w ⟨hS, h hS⟩
end Go.Proofs.Ytnmcgleanpdlmaa

namespace Go.Proofs.Ytnmcgleanpdlmaa
open Go.RowKit
set_option linter.unusedVariables false
/-- A number in n parts, the first ones more by one. -/
def evenAt (v : Int) (n i : Nat) : Int := if (i : Int) < v.tmod n then v.tdiv n + 1 else v.tdiv n
def evenL (v : Int) (n : Nat) : List Int := (List.range n).map (evenAt v n)
theorem evenL_len (v : Int) (n : Nat) : (evenL v n).length = n := by unfold evenL; rw [List.length_map, List.length_range]
theorem evenL_take (v : Int) {n i : Nat} (h : i < n) : (evenL v n).take (i + 1) = (evenL v n).take i ++ [evenAt v n i] := by
  rw [List.take_add_one]
  congr 1
  unfold evenL
  rw [List.getElem?_map, List.getElem?_range h]
  rfl
def strokesL (v : Int) : List Int := if v ≤ 0 then [] else evenL v (min v 4).toNat
theorem strokesL_len {v : Int} (h : 0 ≤ v) : ((strokesL v).length : Int) = pcsX v := by
  unfold strokesL pcsX
  split
  · rename_i h0
    have : v = 0 := by omega
    subst this
    rfl
  · rw [evenL_len]
    omega
/-- A tip's parts of a volume. -/
def partsX (t : Rec) (v : Int) : Except Nat (List Int) :=
  if tipOk t then
    (if inB v 1 20000000 then
      (if t.x - 4 * t.z < 1 then .error 33
       else if 1000 < (v + (t.x - 4 * t.z) - 1).tdiv (t.x - 4 * t.z) then .error 33
       else .ok (evenL v ((v + (t.x - 4 * t.z) - 1).tdiv (t.x - 4 * t.z)).toNat))
     else .error 20)
  else .error 28
def cntL (l : List Int) : Int := (l.map (fun x => ((strokesL x).length : Int))).sum
theorem cntL_take (l : List Int) {i : Nat} {x : Int} (h : l[i]? = some x) : cntL (l.take (i + 1)) = cntL (l.take i) + ((strokesL x).length : Int) := by
  unfold cntL
  rw [List.take_add_one, h]
  simp
theorem cnt_even {v : Int} {n : Nat} (hv : 0 ≤ v.tdiv n) (hg : 0 ≤ v.tmod n ∧ v.tmod n ≤ n) : ∀ k : Nat, k ≤ n → cntL ((evenL v n).take k) = (if (k : Int) ≤ v.tmod n then (k : Int) * pcsX (v.tdiv n + 1) else v.tmod n * pcsX (v.tdiv n + 1) + ((k : Int) - v.tmod n) * pcsX (v.tdiv n))
  | 0, _ => by
    rw [if_pos (by simpa using hg.1)]
    show (0 : Int) = _
    simp
  | k + 1, hk => by
    have ih := cnt_even hv hg k (by omega)
    have hget : (evenL v n)[k]? = some (evenAt v n k) := by
      unfold evenL
      rw [List.getElem?_map, List.getElem?_range (by omega)]
      rfl
    rw [cntL_take _ hget, ih]
    unfold evenAt
    generalize v.tmod n = G at *
    generalize v.tdiv n = Lt at *
    by_cases h1 : (k : Int) < G
    · rw [if_pos h1, strokesL_len (by omega), if_pos (by omega), if_pos (by omega)]
      rw [show ((k + 1 : Nat) : Int) = (k : Int) + 1 by omega, Int.add_mul]
      omega
    · rw [if_neg h1, strokesL_len hv]
      rw [if_neg (show ¬ ((k + 1 : Nat) : Int) ≤ G by omega)]
      by_cases h2 : (k : Int) ≤ G
      · have e : G = k := by omega
        rw [if_pos h2, e, show ((k + 1 : Nat) : Int) - (k : Int) = 1 by omega, Int.one_mul]
      · rw [if_neg h2, show ((k + 1 : Nat) : Int) - G = ((k : Int) - G) + 1 by omega, Int.add_mul]
        omega
/-- What the document counts is what the code reckons. -/
theorem cnt_parts {t : Rec} {v : Int} (hok : tipOk t = true) (hv : inB v 1 20000000 = true) : (match partsX t v with
    | .ok l => Except.ok (cntL l)
    | .error n => Except.error n) = cntX (t.x - 4 * t.z) v := by
  unfold partsX cntX
  rw [if_pos hok, if_pos hv]
  have hvv : 1 ≤ v ∧ v ≤ 20000000 := by unfold inB at hv; simp only [Bool.and_eq_true, decide_eq_true_eq] at hv; exact hv
  have hx : t.x ≤ 20000000 ∧ 0 ≤ t.z := by
    unfold tipOk at hok
    simp only [Bool.and_eq_true, inB, decide_eq_true_eq] at hok
    omega
  generalize t.x - 4 * t.z = M at *
  by_cases h1 : M < 1
  · rw [if_pos h1, if_pos h1]
  · rw [if_neg h1, if_neg h1]
    by_cases h2 : 1000 < (v + M - 1).tdiv M
    · rw [if_pos h2, if_pos h2]
    · rw [if_neg h2, if_neg h2]
      simp only
      have hp : 1 ≤ (v + M - 1).tdiv M := by
        rw [Int.tdiv_eq_ediv_of_nonneg (by omega)]
        exact (Int.le_ediv_iff_mul_le (by omega)).2 (by omega)
      generalize (v + M - 1).tdiv M = P at *
      obtain ⟨n, rfl⟩ : ∃ n : Nat, P = (n : Int) := ⟨P.toNat, by omega⟩
      obtain ⟨l1, l2, g1, g2⟩ := even_nums (v := v) (p := (n : Int)) hvv ⟨hp, by omega⟩
      have h := cnt_even (v := v) (n := n) l1 ⟨g1, by omega⟩ n (Nat.le_refl _)
      rw [List.take_of_length_le (by rw [evenL_len]; exact Nat.le_refl _)] at h
      rw [show ((n : Int)).toNat = n by omega, h]
      congr 1
      by_cases h3 : (n : Int) ≤ v.tmod n
      · omega
      · rw [if_neg h3]
end Go.Proofs.Ytnmcgleanpdlmaa

namespace Go.Proofs.Ytnmcgleanpdlmaa
open Go.RowKit
theorem own_full {w : World} {base : Nat} {e : TypeId} {size n c : Nat} {o : Option Addr} {xs : List Value} (h : w.ownsRow base e size (.slice o n c) n xs) (hn : 0 < n) : ∃ g, o = some ⟨g, 0, none⟩ ∧ base ≤ g ∧ n ≤ c ∧ c ≤ maxLen := by
  rcases h.2 with ⟨h0, _⟩ | ⟨g, cap, cur, h0, hb, _, hnc, hm, _⟩
  · simp only [Value.slice.injEq] at h0; omega
  · simp only [Value.slice.injEq] at h0
    obtain ⟨rfl, _, rfl⟩ := h0
    exact ⟨g, rfl, hb, hnc, hm⟩
end Go.Proofs.Ytnmcgleanpdlmaa
