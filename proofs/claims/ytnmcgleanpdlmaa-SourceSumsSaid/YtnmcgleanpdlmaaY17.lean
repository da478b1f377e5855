/-
  Layer 14: a fill, a transfer: what wells hold, in a row that the call owns; Transfers in memory. No program is named here; Append of what comes in onto a row that the call owns. No program is named here; The code's wells: how many there are; Layer 11: a deck that may not be has no board; what deck a board was made of; Layer 14: Run: what is in wells behind all transfers.
-/
import Derived.Maps.AppendAt
import Derived.Deep.QuietTactic
import Derived.BigQuiet
import Derived.Laws.Strings2
import Derived.Laws.Slices
import Derived.KernelRfl
import Derived.Test.YtnmcgleanpdlmaaY1
import Derived.Test.YtnmcgleanpdlmaaY2
import Derived.Test.YtnmcgleanpdlmaaY3
import Derived.Test.YtnmcgleanpdlmaaY4
import Derived.Test.YtnmcgleanpdlmaaY5
import Derived.Test.YtnmcgleanpdlmaaY6
import Derived.Test.YtnmcgleanpdlmaaY7
import Derived.Test.YtnmcgleanpdlmaaY8
import Derived.Test.YtnmcgleanpdlmaaY9
import Derived.Test.YtnmcgleanpdlmaaY10
import Derived.Test.YtnmcgleanpdlmaaY11
import Derived.Test.YtnmcgleanpdlmaaY12
import Derived.Test.YtnmcgleanpdlmaaY13
import Derived.Test.YtnmcgleanpdlmaaY14
import Derived.Test.YtnmcgleanpdlmaaY16
namespace Go.Proofs.Ytnmcgleanpdlmaa
open Go.RowKit
set_option linter.unusedVariables false
def kH : List (Option TypeId) := [some 2]
/-- A row of numbers that the call owns. -/
def RowJ (w : World) (base g nn : Nat) (v : List Int) : Prop := w.ownsRow base 2 1 (.slice (some ⟨g, 0, none⟩) nn nn) nn (flatL v)
theorem RowJ.keep {w w' : World} {base g nn : Nat} {v : List Int} (h : RowJ w base g nn v) (q : B w w') : RowJ w' base g nn v := own_keepBx h q
theorem RowJ.at_ {w : World} {base g nn : Nat} {v : List Int} (h : RowJ w base g nn v) {i : Nat} (hi : i < nn) : v.length = nn ∧ v[i]? = some (v.getD i 0) ∧ w.cell? ⟨g, i, none⟩ = some (.int .i64 (v.getD i 0)) ∧ w.frozen? ⟨g, i, none⟩ = false := by
  have hl : v.length = nn := by have := h.1; rw [flatL_len] at this; omega
  have hv := getD_of (v := v) (i := i) (by omega)
  refine ⟨hl, hv, ?_, World.ownsRow.frozenAt h i⟩
  rw [World.ownsRow.cellAt h i (by omega)]
  exact flatL_get hv
theorem RowJ.set {w : World} {base g nn : Nat} {v : List Int} (h : RowJ w base g nn v) {i : Nat} (hi : i < nn) (x : Int) : RowJ (w.setCell ⟨g, i, none⟩ (.int .i64 x)) base g nn (v.set i x) ∧ Tn kH base w (w.setCell ⟨g, i, none⟩ (.int .i64 x)) := by
  obtain ⟨r1, e1⟩ := World.ownsRow.stored h i (.int .i64 x)
  rw [flatL_set] at r1
  refine ⟨r1, ?_⟩
  rcases h.2 with ⟨h0, _⟩ | ⟨g', cap, cur, h0, hb, hg, _⟩
  · cases h0
  · simp only [Value.slice.injEq, Option.some.injEq, Addr.mk.injEq] at h0
    obtain ⟨⟨rfl, _⟩, _, rfl⟩ := h0
    exact Tn.set (p := ⟨g, i, none⟩) (Tn.refl _ _ _) hg (by simp [kH]) hb _
def SFillRes (d : Dk) (f : Fl) (base g nn : Nat) (v : List Int) (w : World) (e : Ending) (w' : World) : Prop :=
  (∃ n : Nat, fillX d v f = .error n ∧ 1 ≤ n ∧ e = .returned (.int .i64 (n : Int)) ∧ Tn kH base w w') ∨
  (∃ v', fillX d v f = .ok v' ∧ e = .returned (.int .i64 0) ∧ RowJ w' base g nn v' ∧ Tn kH base w w')
set_option maxRecDepth 100000 in
set_option maxHeartbeats 2000000 in
theorem sfill_any (wv tv fv : Value) (d : Dk) (N : ByteArray) (R C V : Int) (hp : I64 R ∧ I64 C) (base g nn : Nat) (v : List Int) (w : World) (h : IsDk w wv tv fv d) (hb : ∀ x ∈ d.ws, wareB x) (h100 : d.ws.length ≤ 100) (hn : nn = cntD d) (hr : RowJ w base g nn v) :
    Calls Try.prog 28 #[.agg #[wv, tv, fv], .slice (some ⟨g, 0, none⟩) nn nn, .agg #[.string N, .int .i64 R, .int .i64 C, .int .i64 V]] w (SFillRes d ⟨N, R, C, V⟩ base g nn v w) := by
  have c1 := fun w' (q : B w w') => sindex_any wv tv fv d ⟨N, R, C⟩ hp w' (h.keepB q) hb h100
  have cW := fun w' => swithin_any V 0 21000000 w'
  have hlt := fun k (hk : ixW d ⟨N, R, C⟩ = some k) => (ixW_lt hb hk).1
  obtain ⟨X, hX⟩ : ∃ X, X = fillX d v ⟨N, R, C, V⟩ := ⟨_, rfl⟩
  unfold SFillRes
  rw [← hX]
  unfold fillX at hX
  simp only at hX c1
  obtain ⟨ao, ac, bo, bc, co, cc, rfl, rfl, rfl⟩ := h.forms
  generalize d.ws.length = n1 at *
  generalize d.ts.length = n2 at *
  generalize d.fs.length = n3 at *
  clear h hp hb h100
  have q2 : B w ((w.alloc (.cells #[.slice ao n1 ac, .slice bo n2 bc, .slice co n3 cc] 39)).alloc (.cells #[.string N, .int .i64 R, .int .i64 C, .int .i64 V] 66)) := ((B.refl w).alloc _ _).alloc _ _
  have o2 := obj_new (w.alloc (.cells #[.slice ao n1 ac, .slice bo n2 bc, .slice co n3 cc] 39)) (.cells #[.string N, .int .i64 R, .int .i64 C, .int .i64 V] 66)
  have hz : (w.alloc (.cells #[.slice ao n1 ac, .slice bo n2 bc, .slice co n3 cc] 39)).heap.size = w.heap.size + 1 := by simp
  rw [hz] at o2
  clear hz
  cases hx : ixW d ⟨N, R, C⟩ with
  | none =>
    rw [hx] at c1 hX
    simp only [Option.isSome_none, Option.getD_none] at c1 hX
    have HX := Lib.hid hX
    clear hx hX o2
    go_enter Try.func28, Try.ntmps28
    go_wp2_with fail
    refine (c1 _ q2).mono ?_
    rintro e w1 ⟨rfl, q3⟩
    have HQ := Lib.hid (q2.trans q3)
    clear q2 q3 c1
    go_wp2
    go_ret
    exact .inl ⟨26, HX.out, by omega, rfl, HQ.out.tn _ _⟩
  | some k =>
    have hk := hlt k hx
    rw [← hn] at hk
    clear hn hlt
    rw [hx] at c1 hX
    simp only [Option.isSome_some, Option.getD_some] at c1 hX
    have HR := Lib.hid (And.intro hr hk)
    have hk1 : (k : Int) < (nn : Int) := by omega
    have hk0 : (0 : Int) ≤ (k : Int) := by omega
    cases hin : inB V 0 21000000 with
    | false =>
      rw [hin] at cW hX
      simp only [Bool.false_eq_true, if_false] at hX
      have HX := Lib.hid hX
      clear hx hX hin hr
      go_enter Try.func28, Try.ntmps28
      go_wp2_with fail
      refine (c1 _ q2).mono ?_
      rintro e w1 ⟨rfl, q3⟩
      have k3 := obj_cell (q3.obj o2) 3
      have HQ := Lib.hid (q2.trans q3)
      clear q2 q3 c1 o2
      go_wp2_with fail
      refine (cW _).mono ?_
      rintro e w2 ⟨rfl, rfl⟩
      go_wp2
      go_ret
      exact .inl ⟨20, HX.out, by omega, rfl, HQ.out.tn _ _⟩
    | true =>
      rw [hin] at cW hX
      simp only [if_true] at hX
      have HX := Lib.hid hX
      clear hx hX hin hr
      go_enter Try.func28, Try.ntmps28
      go_wp2_with fail
      refine (c1 _ q2).mono ?_
      rintro e w1 ⟨rfl, q3⟩
      have k3 := obj_cell (q3.obj o2) 3
      have hr1 := HR.out.1.keep (q2.trans q3)
      obtain ⟨u0, u1, y0, z0⟩ := hr1.at_ HR.out.2
      generalize v.getD k 0 = x0 at y0 u1
      clear u0 u1
      have hS := hr1.set HR.out.2 V
      have HQ := Lib.hid (And.intro hS (q2.trans q3))
      clear q2 q3 c1 o2 hS hr1
      go_wp2_with fail
      refine (cW _).mono ?_
      rintro e w2 ⟨rfl, rfl⟩
      go_wp2
      go_ret
      exact .inr ⟨_, HX.out, rfl, HQ.out.1.1, (HQ.out.2.tn _ _).trans HQ.out.1.2⟩
def SMoveRes (d : Dk) (o : Opx) (base g nn : Nat) (v : List Int) (w : World) (e : Ending) (w' : World) : Prop :=
  (∃ n : Nat, moveX d v o = .error n ∧ 1 ≤ n ∧ e = .returned (.int .i64 (n : Int)) ∧ Tn kH base w w') ∨
  (∃ v', moveX d v o = .ok v' ∧ e = .returned (.int .i64 0) ∧ RowJ w' base g nn v' ∧ Tn kH base w w')
theorem cnt_small {d : Dk} (hb : ∀ x ∈ d.ws, wareB x) (h100 : d.ws.length ≤ 100) : (cntD d : Int) * 21000000 ≤ 201600000000 := by
  have := count_le d.ws hb
  have := count_pos d.ws hb
  unfold cntD
  omega
set_option maxRecDepth 100000 in
set_option maxHeartbeats 4000000 in
theorem smove_any (wv tv fv : Value) (d : Dk) (s t : Wp) (V : Int) (n : ByteArray) (nw : Bool) (hs : I64 s.r ∧ I64 s.c) (ht : I64 t.r ∧ I64 t.c) (base g nn : Nat) (v : List Int) (w : World) (h : IsDk w wv tv fv d) (hb : ∀ x ∈ d.ws, wareB x) (h100 : d.ws.length ≤ 100) (hn : nn = cntD d) (hv : VOk nn v) (hr : RowJ w base g nn v) :
    Calls Try.prog 29 #[.agg #[wv, tv, fv], .slice (some ⟨g, 0, none⟩) nn nn, .agg #[.string s.n, .int .i64 s.r, .int .i64 s.c, .string t.n, .int .i64 t.r, .int .i64 t.c, .int .i64 V, .string n, .bool nw]] w (SMoveRes d ⟨s, t, V, n, nw⟩ base g nn v w) := by
  have c1 := fun w' (q : B w w') => ends_any wv tv fv d s t V n nw hs ht w' (h.keepB q) hb h100
  have cW := fun w' => swithin_any V 1 20000000 w'
  have hlt := fun a b (hk : endsX d ⟨s, t, V, n, nw⟩ = some (a, b)) => endsX_lt hb hk
  have hC := cnt_small hb h100
  have hsum := hv.sum
  rw [← hn] at hC
  obtain ⟨X, hX⟩ : ∃ X, X = moveX d v ⟨s, t, V, n, nw⟩ := ⟨_, rfl⟩
  unfold SMoveRes
  rw [← hX]
  unfold moveX at hX
  obtain ⟨SN, SR, SC⟩ := s
  obtain ⟨TN, TR, TC⟩ := t
  simp only at hX c1
  obtain ⟨ao, ac, bo, bc, co, cc, rfl, rfl, rfl⟩ := h.forms
  generalize d.ws.length = n1 at *
  generalize d.ts.length = n2 at *
  generalize d.fs.length = n3 at *
  clear h hs ht hb h100
  have q2 : B w ((w.alloc (.cells #[.slice ao n1 ac, .slice bo n2 bc, .slice co n3 cc] 39)).alloc (.cells #[.string SN, .int .i64 SR, .int .i64 SC, .string TN, .int .i64 TR, .int .i64 TC, .int .i64 V, .string n, .bool nw] 52)) := ((B.refl w).alloc _ _).alloc _ _
  have o2 := obj_new (w.alloc (.cells #[.slice ao n1 ac, .slice bo n2 bc, .slice co n3 cc] 39)) (.cells #[.string SN, .int .i64 SR, .int .i64 SC, .string TN, .int .i64 TR, .int .i64 TC, .int .i64 V, .string n, .bool nw] 52)
  have hz : (w.alloc (.cells #[.slice ao n1 ac, .slice bo n2 bc, .slice co n3 cc] 39)).heap.size = w.heap.size + 1 := by simp
  rw [hz] at o2
  clear hz
  cases hx : endsX d ⟨⟨SN, SR, SC⟩, ⟨TN, TR, TC⟩, V, n, nw⟩ with
  | none =>
    rw [hx] at c1 hX
    simp only [endsV] at c1 hX
    have HX := Lib.hid hX
    clear hx hX
    have b0 := obj_cell o2 0
    clear o2
    go_enter Try.func29, Try.ntmps29
    go_wp2_with fail
    refine (c1 _ q2).mono ?_
    rintro e w1 ⟨rfl, q3⟩
    have HQ := Lib.hid (q2.trans q3)
    clear q2 q3 c1
    go_wp2
    go_ret
    exact .inl ⟨26, HX.out, by omega, rfl, HQ.out.tn _ _⟩
  | some ab =>
    obtain ⟨a, b⟩ := ab
    obtain ⟨ha, hbb⟩ := hlt a b hx
    rw [← hn] at ha hbb
    clear hn hlt
    rw [hx] at c1 hX
    simp only [endsV] at c1 hX
    have HR := Lib.hid (And.intro hr (And.intro ha hbb))
    cases hin : inB V 1 20000000 with
    | false =>
      rw [hin] at cW hX
      simp only [Bool.false_eq_true, if_false] at hX
      have HX := Lib.hid hX
      clear hx hX hin hr hC hsum hv
      go_enter Try.func29, Try.ntmps29
      go_wp2_with fail
      refine (c1 _ q2).mono ?_
      rintro e w1 ⟨rfl, q3⟩
      have k3 := obj_cell (q3.obj o2) 6
      have HQ := Lib.hid (q2.trans q3)
      clear q2 q3 c1 o2
      go_wp2_with fail
      refine (cW _).mono ?_
      rintro e w2 ⟨rfl, rfl⟩
      go_wp2
      go_ret
      exact .inl ⟨20, HX.out, by omega, rfl, HQ.out.tn _ _⟩
    | true =>
      have hVV : 1 ≤ V ∧ V ≤ 20000000 := by unfold inB at hin; simp only [Bool.and_eq_true, decide_eq_true_eq] at hin; exact hin
      rw [hin] at cW hX
      simp only [if_true] at hX
      by_cases hab : a = b
      · subst hab
        rw [if_pos rfl] at hX
        have HX := Lib.hid hX
        clear hx hX hin hr hC hsum hv
        go_enter Try.func29, Try.ntmps29
        go_wp2_with fail
        refine (c1 _ q2).mono ?_
        rintro e w1 ⟨rfl, q3⟩
        have k3 := obj_cell (q3.obj o2) 6
        have HQ := Lib.hid (q2.trans q3)
        clear q2 q3 c1 o2
        go_wp2_with fail
        refine (cW _).mono ?_
        rintro e w2 ⟨rfl, rfl⟩
        go_wp2
        go_ret
        exact .inr ⟨_, HX.out, rfl, HR.out.1.keep HQ.out, HQ.out.tn _ _⟩
      · have abB : ((a : Int) == (b : Int)) = false := by simp; omega
        have abN : (a == b) = false := by simp [hab]
        rw [if_neg hab] at hX
        obtain ⟨va, va0, va1⟩ := hv.at_ ha
        obtain ⟨vb, vb0, vb1⟩ := hv.at_ hbb
        have ha1 : (a : Int) < (nn : Int) := by omega
        have ha0 : (0 : Int) ≤ (a : Int) := by omega
        have hb1 : (b : Int) < (nn : Int) := by omega
        have hb0 : (0 : Int) ≤ (b : Int) := by omega
        have HV := Lib.hid (And.intro va (And.intro vb hab))
        obtain ⟨x, hxa⟩ : ∃ x, v.getD a 0 = x := ⟨_, rfl⟩
        obtain ⟨y, hyb⟩ : ∃ y, v.getD b 0 = y := ⟨_, rfl⟩
        rw [hxa] at va0 va1 hX
        rw [hyb] at vb0 vb1 hX
        by_cases hlo : x < V
        · have hloB : decide (x < V) = true := decide_eq_true hlo
          rw [if_pos hlo] at hX
          have HX := Lib.hid hX
          have HY := Lib.hid (And.intro hxa hyb)
          clear hx hX hin hr hC hsum hv va0 va1 vb0 vb1 va vb hxa hyb hlo hab
          go_enter Try.func29, Try.ntmps29
          go_wp2_with fail
          refine (c1 _ q2).mono ?_
          rintro e w1 ⟨rfl, q3⟩
          have k3 := obj_cell (q3.obj o2) 6
          obtain ⟨_, _, y0, z0⟩ := (HR.out.1.keep (q2.trans q3)).at_ HR.out.2.1
          rw [HY.out.1] at y0
          have HQ := Lib.hid (q2.trans q3)
          clear q2 q3 c1 o2
          go_wp2_with fail
          refine (cW _).mono ?_
          rintro e w2 ⟨rfl, rfl⟩
          go_wp2_with fail
          go_quiet (fail)
          go_wp2
          go_ret
          exact .inl ⟨30, HX.out, by omega, rfl, (HQ.out.drewN _).tn _ _⟩
        · have hloB : decide (x < V) = false := decide_eq_false hlo
          rw [if_neg hlo] at hX
          obtain ⟨x', hx'⟩ : ∃ x', x - V = x' := ⟨_, rfl⟩
          obtain ⟨y', hy'⟩ : ∃ y', y + V = y' := ⟨_, rfl⟩
          have wx : IntKind.i64.wrap (x - V) = x' := by rw [IntKind.wrap_i64]; omega
          have wy : IntKind.i64.wrap (y + V) = y' := by rw [IntKind.wrap_i64]; omega
          rw [hx', hy'] at hX
          have HX := Lib.hid hX
          have HY := Lib.hid (And.intro hxa hyb)
          clear hx hX hin hr hC hsum hv va0 va1 vb0 vb1 va vb hxa hyb hlo hx' hy' hab
          go_enter Try.func29, Try.ntmps29
          go_wp2_with fail
          refine (c1 _ q2).mono ?_
          rintro e w1 ⟨rfl, q3⟩
          have k3 := obj_cell (q3.obj o2) 6
          have hr1 := HR.out.1.keep (q2.trans q3)
          obtain ⟨u0, u1, y0, z0⟩ := hr1.at_ HR.out.2.1
          rw [HY.out.1] at y0
          have HQ := Lib.hid (And.intro hr1 (And.intro (q2.trans q3) (q3.obj o2)))
          clear q2 q3 c1 u0 u1 hr1 o2
          go_wp2_with fail
          refine (cW _).mono ?_
          rintro e w2 ⟨rfl, rfl⟩
          go_wp2_with fail
          go_quiet (fail)
          go_wp2_with fail
          obtain ⟨w3, hw3⟩ : ∃ w3, w1.drewN nq = w3 := ⟨_, rfl⟩
          have b13 : B w1 w3 := by rw [← hw3]; exact (B.refl w1).drewN nq
          rw [hw3]
          clear hw3
          replace k3 := b13.keep k3
          obtain ⟨hr3, hq3, ho3⟩ := HQ.out
          have hr4 := hr3.keep b13
          obtain ⟨u0, u1, y0, z0⟩ := hr4.at_ HR.out.2.1
          rw [HY.out.1] at y0
          have hset := hr4.set HR.out.2.1 x'
          have HQ' := Lib.hid (And.intro hset (And.intro (hq3.trans b13) (b13.obj ho3)))
          clear u0 u1 hr4 hr3 hq3 ho3 hset b13
          go_region
          obtain ⟨⟨hr5, t5⟩, hq5, ho5⟩ := HQ'.out
          have ho6 := (B.refl _).drew.obj (t5.objc ho5 (by decide))
          have hr6 := hr5.keep ((B.refl _).drew)
          have t6 := ((hq5.tn kH base).trans t5).drew
          clear y0 z0 k3 hr5 t5 hq5 ho5
          generalize (w3.setCell { block := g, off := a } (Value.int IntKind.i64 x')).drew = w6 at *
          have k3 := obj_cell ho6 6
          obtain ⟨u0, u1, y0, z0⟩ := hr6.at_ HR.out.2.2
          have e6 : (v.set a x').getD b 0 = y := by
            rw [List.getD_eq_getElem?_getD, List.getElem?_set_ne HV.out.2.2, HV.out.2.1]
            exact HY.out.2
          rw [e6] at y0
          have hset := hr6.set HR.out.2.2 y'
          have HZ := Lib.hid (And.intro hset t6)
          clear u0 u1 hr6 hset t6 ho6 e6
          go_wp2_with fail
          go_region
          go_wp2
          go_ret
          exact .inr ⟨_, HX.out, rfl, HZ.out.1.1.keep ((B.refl _).drew), (HZ.out.2.trans HZ.out.1.2).drew⟩
end Go.Proofs.Ytnmcgleanpdlmaa

namespace Go.Proofs.Ytnmcgleanpdlmaa
open Go.RowKit
set_option linter.unusedVariables false
structure OpAt (w : World) (p : Addr) (x : Opx) : Prop where
  sn : w.cell? p = some (.string x.s.n)
  sr : w.cell? ⟨p.block, p.off + 1, none⟩ = some (.int .i64 x.s.r)
  sc : w.cell? ⟨p.block, p.off + 2, none⟩ = some (.int .i64 x.s.c)
  dn : w.cell? ⟨p.block, p.off + 3, none⟩ = some (.string x.d.n)
  dr : w.cell? ⟨p.block, p.off + 4, none⟩ = some (.int .i64 x.d.r)
  dc : w.cell? ⟨p.block, p.off + 5, none⟩ = some (.int .i64 x.d.c)
  v : w.cell? ⟨p.block, p.off + 6, none⟩ = some (.int .i64 x.v)
  t : w.cell? ⟨p.block, p.off + 7, none⟩ = some (.string x.t)
  nw : w.cell? ⟨p.block, p.off + 8, none⟩ = some (.bool x.nw)
theorem OpAt.keepB {w w' : World} {p : Addr} {x : Opx} (h : OpAt w p x) (q : B w w') : OpAt w' p x :=
  ⟨q.keep h.sn, q.keep h.sr, q.keep h.sc, q.keep h.dn, q.keep h.dr, q.keep h.dc, q.keep h.v, q.keep h.t, q.keep h.nw⟩
def IsOps (w : World) (v : Value) (L : List Opx) : Prop :=
  (v = .slice none 0 0 ∧ L = []) ∨
  ∃ (a : Addr) (cap : Nat), v = .slice (some a) L.length cap ∧ L.length ≤ cap ∧ cap ≤ maxLen ∧ ∀ i x, L[i]? = some x → OpAt w (a.add (i * 9)) x
theorem IsOps.keepB {w w' : World} {v : Value} {L : List Opx} (h : IsOps w v L) (q : B w w') : IsOps w' v L := by
  rcases h with h | ⟨a, cap, h1, h2, h3, h4⟩
  · exact .inl h
  · exact .inr ⟨a, cap, h1, h2, h3, fun i f hf => (h4 i f hf).keepB q⟩
theorem IsOps.form {w : World} {v : Value} {L : List Opx} (h : IsOps w v L) : ∃ ao cap, v = .slice ao L.length cap := by
  rcases h with ⟨rfl, rfl⟩ | ⟨a, cap, rfl, _⟩
  · exact ⟨_, _, rfl⟩
  · exact ⟨_, _, rfl⟩
theorem IsOps.at_ {w : World} {v : Value} {L : List Opx} (h : IsOps w v L) {i : Nat} (hi : i < L.length) : ∃ (a : Addr) (cap : Nat), v = .slice (some a) L.length cap ∧ L.length ≤ cap ∧ cap ≤ maxLen ∧ OpAt w (a.add (i * 9)) L[i] := by
  rcases h with ⟨_, rfl⟩ | ⟨a, cap, h1, h2, h3, h4⟩
  · simp at hi
  · exact ⟨a, cap, h1, h2, h3, h4 i _ (List.getElem?_eq_getElem hi)⟩
theorem isOps_nil (w : World) : IsOps w (.slice none 0 0) [] := .inl ⟨rfl, rfl⟩
theorem isFls_nil (w : World) : IsFls w (.slice none 0 0) [] := .inl ⟨rfl, rfl⟩
theorem isOps_own {w : World} {base n : Nat} {e : TypeId} {v : Value} {L : List Opx} (h : w.ownsRow base e 9 v n (flatOp L)) (hn : n = L.length) : IsOps w v L := by
  subst hn
  have hh := h
  rcases hh.2 with ⟨rfl, h0⟩ | ⟨g, cap, cur, rfl, _, _, h1, h2, _⟩
  · exact .inl ⟨rfl, List.length_eq_zero_iff.1 h0⟩
  · refine .inr ⟨⟨g, 0, none⟩, cap, rfl, h1, h2, fun i x hx => ?_⟩
    have hi : i < L.length := (List.getElem?_eq_some_iff.1 hx).1
    have hc : ∀ k, k < 9 → w.cell? ⟨g, i * 9 + k, none⟩ = x.cells[k]? := fun k hk => by
      rw [h.cellAt (i * 9 + k) (by omega)]
      exact flatOp_get hx k hk
    have ha : (⟨g, 0, none⟩ : Addr).add (i * 9) = ⟨g, i * 9, none⟩ := addz g (i * 9)
    rw [ha]
    exact ⟨hc 0 (by omega), hc 1 (by omega), hc 2 (by omega), hc 3 (by omega), hc 4 (by omega), hc 5 (by omega), hc 6 (by omega), hc 7 (by omega), hc 8 (by omega)⟩
/-- Transfers whose numbers are numbers. -/
def OpsI (L : List Opx) : Prop := ∀ x ∈ L, (I64 x.s.r ∧ I64 x.s.c) ∧ (I64 x.d.r ∧ I64 x.d.c) ∧ I64 x.v
def FlsI (L : List Fl) : Prop := ∀ f ∈ L, I64 f.r ∧ I64 f.c
end Go.Proofs.Ytnmcgleanpdlmaa

namespace Go.Proofs.Ytnmcgleanpdlmaa
open Go.RowKit
set_option linter.unusedVariables false
theorem run_append_in {P : Program} (w : World) (base : Nat) (t ty e : TypeId) (i : TypeInfo) (z : Value) (size bytes : Nat) (ht : P.underlying t = some (.slice e)) (hi : P.info? e = some i) (hz : i.zero = some z)
    (hsize : i.size = size) (hby : i.bytes = bytes) (hzs : z.cells.size = size) (hsz : 0 < size) (v : Value) (n : Nat) (xs : List Value) (hown : w.ownsRow base e size v n xs) (u : Value) (m : Nat) (news : List Value) (hu : RowIn w u m news) (hl : news.length = m * size) (h1 : ∀ x ∈ news, x.oneCell' = true)
    (h63 : n + m ≤ maxLen) (hbytes : (n + m) * bytes ≤ 140737488355328) (hbase : base ≤ w.heap.size) :
    ∃ o c w', (Builtin.append_ #[t, t] ty #[v, u]).run P w = .ok (.slice o (n + m) c) w' ∧ w'.ownsRow base e size (.slice o (n + m) c) (n + m) (xs ++ news) ∧ w.grownBy w' v.ownBlock := by
  rcases hu with ⟨rfl, rfl, rfl⟩ | ⟨ad, c, rfl, hc⟩
  · obtain ⟨o, c, rfl⟩ := ownsRow_form hown
    exact ⟨o, c, w, run_append_owned_none w base t ty e i size ht hi _ n xs hown, by simpa using hown, ⟨rfl, rfl, rfl, Nat.le_refl _, fun k hk _ => rfl⟩⟩
  · obtain ⟨v', w', hr, h2, h3, _, h5⟩ := run_append_own_at (P := P) w base t ty e i z size bytes ht hi hz hsize hby hzs hsz v n xs hown ad m c news hl hc h1 h63 hbytes hbase
    obtain ⟨o, c', rfl⟩ := ownsRow_form h2
    exact ⟨o, c', w', hr, h2, h3⟩
/-- Behind an append the old row still holds what it held, wherever the new one lies. -/
theorem append_old {P : Program} {w w' : World} {base : Nat} {t ty e : TypeId} {i : TypeInfo} {z : Value} {size bytes : Nat} (ht : P.underlying t = some (.slice e)) (hi : P.info? e = some i) (hz : i.zero = some z)
    (hsize : i.size = size) (hby : i.bytes = bytes) (hzs : z.cells.size = size) (hsz : 0 < size) {v : Value} {n : Nat} {xs : List Value} (hown : w.ownsRow base e size v n xs) {u : Value} {m : Nat} {news : List Value} (hu : RowIn w u m news) (hl : news.length = m * size) (h1 : ∀ x ∈ news, x.oneCell' = true)
    (h63 : n + m ≤ maxLen) (hbytes : (n + m) * bytes ≤ 140737488355328) {v' : Value} (hr : (Builtin.append_ #[t, t] ty #[v, u]).run P w = .ok v' w') (hown' : w'.ownsRow base e size v' (n + m) (xs ++ news)) : w'.ownsRow base e size v n xs := by
  subst hsize
  subst hby
  rcases hu with ⟨rfl, rfl, rfl⟩ | ⟨ad, c, rfl, hc⟩
  · have h2 := run_append_owned_none w base t ty e i i.size ht hi v n xs hown
    rw [h2] at hr
    cases hr
    exact hown
  · rcases hown.2 with ⟨rfl, rfl⟩ | ⟨g, cap, cur, rfl, hbg, hg, hnc, hcm, hcs, htake⟩
    · have hx : xs = [] := List.eq_nil_of_length_eq_zero (by simpa using hown.1)
      subst hx
      exact World.ownsRow_nil _ _ _ _
    · by_cases hroom : n + m ≤ cap
      · have hfit : n * i.size + news.length ≤ cur.size := by rw [hl, hcs, ← Nat.add_mul]; exact Nat.mul_le_mul_right _ hroom
        have h2 := run_append_room (P := P) w t ty e i ht hi g n cap cur hg ad m c news hl hc h1 hroom hfit
        rw [h2] at hr
        cases hr
        rcases hown'.2 with ⟨h0, _⟩ | ⟨g', cap', cur', h0, _, hg', _, _, hcs', htake'⟩
        · cases h0
        · simp only [Value.slice.injEq, Option.some.injEq, Addr.mk.injEq] at h0
          obtain ⟨⟨rfl, _⟩, _, rfl⟩ := h0
          refine ⟨hown.1, .inr ⟨g, cap, cur', rfl, hbg, hg', hnc, hcm, hcs', ?_⟩⟩
          have := congrArg (List.take (n * i.size)) htake'
          rw [List.take_take, Nat.min_eq_left (Nat.mul_le_mul_right _ (by omega))] at this
          rw [this, ← hown.1, List.take_left]
      · have holds : ∀ j u, xs[j]? = some u → w.cell? ((⟨g, 0, none⟩ : Addr).add j) = some u := hown.cells (g := g) rfl
        have h2 := run_append_grow (P := P) w t ty e i z ht hi hz ⟨g, 0, none⟩ n cap xs hown.1 holds ad m c news hl hc (by omega) (by unfold maxLen at h63; omega) (growslice_fits (by omega) hbytes)
        rw [h2] at hr
        cases hr
        exact row_keep hown ((B.refl w).drew.alloc _ _)
theorem wpList_append_two {P : Program} {w : World} {ops : Array Oper} {rest : List Oper} {o : Oper} {a : Act} {Q : Exit → Act → World → Prop} (hgd : o.guard = none) (s x : Operand) (t : TypeId)
    (ho : o.op = .call { callee := .builtin .append, args := #[s, x], argTypes := #[t, t] }) (base : Nat) (e : TypeId) (i : TypeInfo) (z : Value) (size bytes : Nat) (ht : P.underlying t = some (.slice e)) (hi : P.info? e = some i) (hz : i.zero = some z)
    (hsize : i.size = size) (hby : i.bytes = bytes) (hzs : z.cells.size = size) (hsz : 0 < size) (v : Value) (n : Nat) (xs : List Value) (hs : a.eval s = v) (hown : w.ownsRow base e size v n xs) (u : Value) (hx : a.eval x = u) (m : Nat) (news : List Value) (hu : RowIn w u m news) (hl : news.length = m * size) (h1 : ∀ x ∈ news, x.oneCell' = true)
    (h63 : n + m ≤ maxLen) (hbytes : (n + m) * bytes ≤ 140737488355328) (hbase : base ≤ w.heap.size)
    (h : ∀ oN cN w', w'.ownsRow base e size (.slice oN (n + m) cN) (n + m) (xs ++ news) → w'.ownsRow base e size v n xs → w.grownBy w' v.ownBlock → wpList P ops Q rest (a.put o.dst (.slice oN (n + m) cN)) w') : wpList P ops Q (o :: rest) a w := by
  refine wpList_plain hgd fun K hK => ?_
  obtain ⟨oN, cN, w', hr, h2, h3⟩ := run_append_in (P := P) w base t o.type e i z size bytes ht hi hz hsize hby hzs hsz v n xs hown u m news hu hl h1 h63 hbytes hbase
  have h4 := append_old ht hi hz hsize hby hzs hsz hown hu hl h1 h63 hbytes hr h2
  unfold Oper.wp execOp
  simp only [ho, resolve, invoke, builtin, Sem.run_bind, Sem.run_pure, Result.andThen_ok, List.map_toArray, List.map_cons, List.map_nil, hs, hx, hr]
  exact hK _ _ (h oN cN w' h2 h4 h3)
end Go.Proofs.Ytnmcgleanpdlmaa

namespace Go.Proofs.Ytnmcgleanpdlmaa
open Go.RowKit
set_option linter.unusedVariables false
set_option maxRecDepth 100000 in
set_option maxHeartbeats 2000000 in
theorem wcount_any (wv tv fv : Value) (d : Dk) (w : World) (h : IsDk w wv tv fv d) (hb : ∀ x ∈ d.ws, wareB x) (h100 : d.ws.length ≤ 100) : Calls Try.prog 27 #[.agg #[wv, tv, fv]] w fun e w' => e = .returned (.int .i64 (countW d.ws)) ∧ Q w w' := by
  obtain ⟨ao, ac, bo, bc, co, cc, rfl, rfl, rfl⟩ := h.forms
  have hQ := (Q.refl w).alloc #[.slice ao d.ws.length ac, .slice bo d.ts.length bc, .slice co d.fs.length cc] 39
  have hR := h.ws.keepB hQ.b
  have oD := obj_new w (.cells #[.slice ao d.ws.length ac, .slice bo d.ts.length bc, .slice co d.fs.length cc] 39)
  obtain ⟨W, hW⟩ : ∃ W, w.alloc (.cells #[.slice ao d.ws.length ac, .slice bo d.ts.length bc, .slice co d.fs.length cc] 39) = W := ⟨_, rfl⟩
  rw [hW] at hR hQ oD
  have k0 : W.cell? ⟨w.heap.size, 0, none⟩ = some (.slice ao d.ws.length ac) := obj_cell oD 0
  clear h oD
  go_enter Try.func27, Try.ntmps27
  go_wp2_with fail
  try rw [hW]
  go_wp2_with fail
  clear hW k0
  generalize w.heap.size = H at *
  go_loopw [3, 9] (fun nv iv wr => ∃ (i : Nat) (K : Int), i ≤ d.ws.length ∧ iv = .int .i64 i ∧ nv = .int .i64 K ∧ 0 ≤ K ∧ K ≤ 96 * (i : Int) ∧ K = countW (d.ws.take i) ∧ Q W wr) (fun _ iv _ => d.ws.length + 1 - (intOf iv).toNat)
  case atStart => exact ⟨0, 0, Nat.zero_le _, rfl, rfl, by omega, by omega, rfl, Q.refl _⟩
  case round =>
    obtain ⟨i, K, hi, rfl, rfl, hK0, hK1, hKe, hQi⟩ := hrel
    obtain ⟨wo, rfl⟩ : ∃ wo : World, wo = wr := ⟨_, rfl⟩
    by_cases hl : i < d.ws.length
    · have hlB : decide ((i : Int) < (d.ws.length : Int)) = true := decide_eq_true (by omega)
      have hlI : (i : Int) < (d.ws.length : Int) := by omega
      have hi0 : (0 : Int) ≤ (i : Int) := by omega
      have wk1 : IntKind.i64.wrap ((i : Int) + 1) = (i : Int) + 1 := by rw [IntKind.wrap_i64]; omega
      obtain ⟨a, cap, e1, _, _, hr⟩ := (hR.keepB hQi.b).at_ hl
      obtain ⟨rfl, _, rfl⟩ : ao = some a ∧ True ∧ ac = cap := by simpa using e1
      have hbi := hb _ (List.getElem_mem hl)
      have hT := count_take (ws := d.ws) (i := i) (List.getElem?_eq_getElem hl)
      obtain ⟨F, hF⟩ : ∃ F, d.ws[i] = F := ⟨_, rfl⟩
      rw [hF] at hr hbi hT
      obtain ⟨g1, g2, g3, g4, sv, g5, g6⟩ := hr
      obtain ⟨so, sc, rfl⟩ := secs_form g6
      obtain ⟨sn, hsn⟩ : ∃ sn, F.l.length = sn := ⟨_, rfl⟩
      rw [hsn] at g5 g6
      clear hsn
      obtain ⟨N, X, Y, Z, SL⟩ := F
      have cs := fun w => wsize_any N X Y Z _ so sn sc rfl hbi w
      obtain ⟨b1, b2, b3, b4⟩ := hbi
      simp only at g1 g2 g3 g4 g5 b1 b2 b3 b4 hT
      have hxy := mul_small (a := X) (b := Y) (by omega) b2 (by omega) b4
      rw [← hKe] at hT
      generalize X * Y = P at *
      have w2 : IntKind.i64.wrap (K + P) = K + P := by rw [IntKind.wrap_i64]; omega
      have q1 := (Q.refl wo).alloc #[.string N, .int .i64 X, .int .i64 Y, .int .i64 Z, .slice so sn sc] 64
      have HX := Lib.hid (And.intro hT (And.intro (show 0 ≤ K + P ∧ K + P ≤ 96 * ((i : Int) + 1) by omega) (And.intro hl (hQi.trans q1))))
      obtain ⟨W1, hW1⟩ : ∃ W1, wo.alloc (.cells #[.string N, .int .i64 X, .int .i64 Y, .int .i64 Z, .slice so sn sc] 64) = W1 := ⟨_, rfl⟩
      have oW := obj_new wo (.cells #[.string N, .int .i64 X, .int .i64 Y, .int .i64 Z, .slice so sn sc] 64)
      rw [hW1] at HX oW
      have p0 : W1.cell? ⟨wo.heap.size, 0, none⟩ = some (.string N) := obj_cell oW 0
      have p1 : W1.cell? ⟨wo.heap.size, 1, none⟩ = some (.int .i64 X) := obj_cell oW 1
      have p2 : W1.cell? ⟨wo.heap.size, 2, none⟩ = some (.int .i64 Y) := obj_cell oW 2
      have p3 : W1.cell? ⟨wo.heap.size, 3, none⟩ = some (.int .i64 Z) := obj_cell oW 3
      have p4 : W1.cell? ⟨wo.heap.size, 4, none⟩ = some (.slice so sn sc) := obj_cell oW 4
      clear oW hT hKe hb hF e1 hl hi q1 g6
      go_wp2_with fail
      refine (cs _).mono ?_
      rintro _ w2 ⟨rfl, q2⟩
      go_wp2
      go_roundw
      case rel =>
        obtain ⟨h1, ⟨h2, h3⟩, h4, h5⟩ := HX.out
        exact ⟨i + 1, K + P, by omega, by go_num, rfl, h2, by omega, h1.symm, h5.trans q2⟩
      case measure => have := HX.out; simp [intOf]; omega
    · have hlB : decide ((i : Int) < (d.ws.length : Int)) = false := decide_eq_false (by omega)
      have hlN : decide (i < d.ws.length) = false := decide_eq_false hl
      rw [List.take_of_length_le (by omega)] at hKe
      have HX := Lib.hid (And.intro hKe (hQ.trans hQi))
      clear hKe hl
      go_wp2
      go_ret
      exact ⟨by rw [← HX.out.1]; rfl, HX.out.2⟩
end Go.Proofs.Ytnmcgleanpdlmaa

namespace Go.Proofs.Ytnmcgleanpdlmaa
open Go.RowKit Go.Maps Go.WideMaps
set_option linter.unusedVariables false
section
variable {P : Bp} {n : Nat} {E : List Ent} {X : List Th}
theorem right_len {d : Dk} (h : rightD d = true) : (∀ r ∈ d.ws, r.l.length ≤ 1000000) ∧ ∀ r ∈ d.ts, r.l.length ≤ 1000000 := by
  obtain ⟨_, _, pW, pT⟩ := right_parts9 h
  refine ⟨fun r hr' => ?_, fun r hr' => ?_⟩
  · obtain ⟨i, hi, e⟩ := List.getElem_of_mem hr'
    have := right_all (wareOk_right (apart_at pW (show d.ws[i]? = some r by rw [List.getElem?_eq_getElem hi, e])).1)
    omega
  · obtain ⟨i, hi, e⟩ := List.getElem_of_mem hr'
    have := right_all (tipOk_right (apart_at pT (show d.ts[i]? = some r by rw [List.getElem?_eq_getElem hi, e])).1)
    omega
set_option maxRecDepth 100000 in
set_option maxHeartbeats 1600000 in
theorem ddeck_any (w : World) (h : BoardM P w n E X) (hf9 : P.d.fs.length ≤ 1000000) : Calls Try.prog 26 #[.pointer (some ⟨P.b, 0, none⟩)] w fun e w' => ∃ o1 c1 o2 c2 o3 c3 ss tt, e = .returned (.agg #[.slice o1 P.d.ws.length c1, .slice o2 P.d.ts.length c2, .slice o3 P.d.fs.length c3]) ∧
    OwnD w' w.heap.size (.slice o1 P.d.ws.length c1) (.slice o2 P.d.ts.length c2) (.slice o3 P.d.fs.length c3) P.d ss tt ∧ B w w' := by
  obtain ⟨l8, l4⟩ := right_len h.right
  obtain ⟨p8, p4, _, _⟩ := right_parts9 h.right
  have qa : B w (w.alloc (.cells #[.slice none 0 0, .slice none 0 0, .slice none 0 0] 39)) := (B.refl w).alloc _ _
  have oR := obj_new w (.cells #[.slice none 0 0, .slice none 0 0, .slice none 0 0] 39)
  have hM := h.keepB qa
  have oB := hM.obj
  have cC := copied_any P.wv P.tv P.fv P.d _ hM.dk.now l8 l4 (by omega) (by omega) hf9
  obtain ⟨ao, ac, bo, bc, co, cc, e1, e2, e3⟩ := hM.dk.now.forms
  rw [e1, e2, e3] at oB cC
  generalize P.d = d at *
  have k0 := obj_cell oB 0
  have k1 := obj_cell oB 1
  have k2 := obj_cell oB 2
  have hsz := qa.below.size
  clear oB hM h e1 e2 e3 l8 l4
  go_enter Try.func26, Try.ntmps26
  go_wp2_with fail
  generalize w.alloc (.cells #[.slice none 0 0, .slice none 0 0, .slice none 0 0] 39) = w0 at *
  refine cC.mono ?_
  rintro e w1 ⟨o1, c1, o2, c2, o3, c3, ss, tt, rfl, HO, q1⟩
  have oR1 := q1.obj oR
  have gR := g_three w1 w.heap.size (.slice o1 d.ws.length c1) (.slice o2 d.ts.length c2) (.slice o3 d.fs.length c3)
  have oE := obj_three oR1 (.slice o1 d.ws.length c1) (.slice o2 d.ts.length c2) (.slice o3 d.fs.length c3)
  have hR : w.heap.size < w0.heap.size := obj_lt oR
  have HO2 := HO.on (w' := ((w1.setCell ⟨w.heap.size, 0, none⟩ (.slice o1 d.ws.length c1)).setCell ⟨w.heap.size, 1, none⟩ (.slice o2 d.ts.length c2)).setCell ⟨w.heap.size, 2, none⟩ (.slice o3 d.fs.length c3)) (fun i h1 h2 => gR.block i h2 (fun e => by omega))
  have hq := b_three (b := w.heap.size) (qa.trans q1) (Nat.le_refl _) (.slice o1 d.ws.length c1) (.slice o2 d.ts.length c2) (.slice o3 d.fs.length c3)
  have y0 := obj_cell oR1 0
  have y1 := obj_cell oR1 1
  have y2 := obj_cell oR1 2
  have z0 := obj_free oR1 0
  have z1 := obj_free oR1 1
  have z2 := obj_free oR1 2
  have HZ := Lib.hid (And.intro oE (And.intro hq HO2))
  clear oE hq HO2 HO gR q1 qa oR oR1 cC k0 k1 k2
  go_wp2
  obtain ⟨oE, hqF, hOwn⟩ := HZ.out
  have c0' := obj_cell oE 0
  have c1' := obj_cell oE 1
  have c2' := obj_cell oE 2
  refine bodyPost_ret (v := .agg #[.slice o1 d.ws.length c1, .slice o2 d.ts.length c2, .slice o3 d.fs.length c3]) (by simp [results, Try.results26, go_sem, c0', c1', c2']) rfl ⟨o1, c1, o2, c2, o3, c3, ss, tt, rfl, ?_, hqF⟩
  exact ⟨own_low hOwn.ws hsz, own_low hOwn.ts hsz, own_low hOwn.fs hsz, hOwn.sl, hOwn.tl, fun i r v h1 h2 => own_low (hOwn.sh i r v h1 h2) hsz, fun i r v h1 h2 => own_low (hOwn.th i r v h1 h2) hsz, hOwn.wi, hOwn.ti⟩
end
end Go.Proofs.Ytnmcgleanpdlmaa

namespace Go.Proofs.Ytnmcgleanpdlmaa
open Go.RowKit
set_option linter.unusedVariables false
theorem longInfo : (Try.prog.info? 2).map (fun i => (i.zero, i.size, i.bytes)) = some (some (.int .i64 0), 1, 8) := by kernel_rfl
theorem flInfo : (Try.prog.info? 66).map (fun i => (i.zero, i.size, i.bytes)) = some (some (.agg #[.string ⟨#[]⟩, .int .i64 0, .int .i64 0, .int .i64 0]), 4, 40) := by kernel_rfl
theorem made_longs (n : Nat) : (madeCells #[.int .i64 0] (n * 1)).toList = flatL (List.replicate n 0) := by
  apply List.ext_getElem?
  intro j
  unfold madeCells flatL
  rw [Array.getElem?_toList, Array.getElem?_map, List.getElem?_map, List.getElem?_replicate]
  by_cases hj : j < n
  · have h1 : (Array.range (n * 1))[j]? = some j := by rw [Array.getElem?_range]; simp [hj]
    have h0 : j % (#[Value.int .i64 0] : Array Value).size = 0 := by show j % 1 = 0; omega
    rw [h1, if_pos hj]
    simp only [Option.map_some, h0]
    rfl
  · have h1 : (Array.range (n * 1))[j]? = none := by rw [Array.getElem?_range]; simp [hj]
    rw [h1, if_neg hj]
    rfl
theorem OwnD.tnK {K : List (Option TypeId)} {w w' : World} {base b : Nat} {wv tv fv : Value} {d : Dk} {ss tt : List Value} (h : OwnD w base wv tv fv d ss tt) (t : Tn K b w w') (hK : some 64 ∉ K ∧ some 59 ∉ K ∧ some 66 ∉ K ∧ some 102 ∉ K) : OwnD w' base wv tv fv d ss tt :=
  ⟨own_tnU h.ws t hK.1, own_tnU h.ts t hK.2.1, own_tnU h.fs t hK.2.2.1, h.sl, h.tl, fun i r v h1 h2 => own_tnU (h.sh i r v h1 h2) t hK.2.2.2, fun i r v h1 h2 => own_tnU (h.th i r v h1 h2) t hK.2.2.2, h.wi, h.ti⟩
/-- The same, where the fills' own row grew. -/
theorem OwnD.tnF {w w' : World} {base b : Nat} {wv tv fv : Value} {d : Dk} {ss tt : List Value} (h : OwnD w base wv tv fv d ss tt) (t : Tn [some 66] b w w') (hf : w'.ownsRow base 66 4 fv d.fs.length (flatF d.fs)) : OwnD w' base wv tv fv d ss tt :=
  ⟨own_tnU h.ws t (by decide), own_tnU h.ts t (by decide), hf, h.sl, h.tl, fun i r v h1 h2 => own_tnU (h.sh i r v h1 h2) t (by decide), fun i r v h1 h2 => own_tnU (h.th i r v h1 h2) t (by decide), h.wi, h.ti⟩
theorem flatF_app (A C : List Fl) : flatF A ++ flatF C = flatF (A ++ C) := by unfold flatF; rw [List.flatMap_append]
/-- Run's blocks: the row of what wells hold, the deck that it owns, all fills, the deck's box. -/
structure SrM (w : World) (DB g nn : Nat) (o1 o2 o3 oN : Option Addr) (an c1 bn c2 cn c3 m cN : Nat) (d : Dk) (ss tt : List Value) (AF : List Fl) (wr : World) (v : List Int) : Prop where
  row : RowJ wr w.heap.size g nn v
  own : OwnD wr w.heap.size (.slice o1 an c1) (.slice o2 bn c2) (.slice o3 cn c3) d ss tt
  app : wr.ownsRow w.heap.size 66 4 (.slice oN m cN) m (flatF AF)
  obj : wr.heap[DB]? = some (.cells #[.slice o1 an c1, .slice o2 bn c2, .slice o3 cn c3] 39 (0, 0))
  b : B w wr
section
variable {w wr w' : World} {DB g nn : Nat} {o1 o2 o3 oN : Option Addr} {an c1 bn c2 cn c3 m cN : Nat} {d : Dk} {ss tt : List Value} {AF : List Fl} {v v' : List Int}
theorem SrM.step (h : SrM w DB g nn o1 o2 o3 oN an c1 bn c2 cn c3 m cN d ss tt AF wr v) (t : Tn kH w.heap.size wr w') (r : RowJ w' w.heap.size g nn v') : SrM w DB g nn o1 o2 o3 oN an c1 bn c2 cn c3 m cN d ss tt AF w' v' :=
  ⟨r, h.own.tnK t (by decide), own_tnU h.app t (by decide), t.objc h.obj (by decide), t.toB h.b (Nat.le_refl _)⟩
theorem SrM.keep (h : SrM w DB g nn o1 o2 o3 oN an c1 bn c2 cn c3 m cN d ss tt AF wr v) (q : B wr w') : SrM w DB g nn o1 o2 o3 oN an c1 bn c2 cn c3 m cN d ss tt AF w' v :=
  h.step (q.tn _ _) (h.row.keep q)
end
def SRunRes (d : Dk) (F : List Fl) (L : List Opx) (w : World) (e : Ending) (w' : World) : Prop :=
  (∃ n : Nat, srunX d F L = .error n ∧ 1 ≤ n ∧ e = .returned (.tuple #[.slice none 0 0, .int .i64 (n : Int)]) ∧ B w w') ∨
  (∃ v g, srunX d F L = .ok v ∧ e = .returned (.tuple #[.slice (some ⟨g, 0, none⟩) (cntD d) (cntD d), .int .i64 0]) ∧ RowJ w' w.heap.size g (cntD d) v ∧ B w w')
section
variable {P : Bp} {n9 : Nat} {E : List Ent} {X : List Th}
set_option maxRecDepth 100000 in
set_option maxHeartbeats 4000000 in
theorem srun_any (d : Dk) (hd : P.d = d) (w : World) (h : BoardM P w n9 E X) (hf9 : d.fs.length ≤ 1000000) (fl : Value) (F : List Fl) (hF : IsFls w fl F) (hFI : FlsI F) (hFl : F.length ≤ 1000000) (lv : Value) (L : List Opx) (hL : IsOps w lv L) (hI : OpsI L) :
    Calls Try.prog 11 #[.pointer (some ⟨P.b, 0, none⟩), fl, lv] w (SRunRes d F L w) := by
  have hri : rightD d = true := hd ▸ h.right
  obtain ⟨_, _, pW, _⟩ := right_parts9 hri
  have hbw : ∀ x ∈ d.ws, wareB x := wares_in pW
  have h8 : d.ws.length ≤ 100 := by have := right_few hri; omega
  have hcs := cnt_small hbw h8
  have cD := ddeck_any w h (by rw [hd]; exact hf9)
  simp only [hd] at cD
  obtain ⟨i0, hi0, hz0, hz1, hz2⟩ := info_of longInfo
  obtain ⟨i1, hi1, hy0, hy1, hy2⟩ := info_of flInfo
  have hmade := made_longs (cntD d)
  have hcI : countW d.ws = ((cntD d : Nat) : Int) := by have := count_pos d.ws hbw; unfold cntD; omega
  have hnn : cntD d ≤ 10000 := by omega
  have hAF : ∀ f ∈ d.fs ++ F, I64 f.r ∧ I64 f.c := fun f hf => by
    rcases List.mem_append.1 hf with hf | hf
    · exact ((rightD_small hri).fi f hf).2
    · exact hFI f hf
  have hFin := fls_in hF
  obtain ⟨fo, fc, rfl⟩ := hF.form
  obtain ⟨lo, lc, rfl⟩ := hL.form
  obtain ⟨ln, hln⟩ : ∃ ln, L.length = ln := ⟨_, rfl⟩
  obtain ⟨fn, hfn⟩ : ∃ fn, F.length = fn := ⟨_, rfl⟩
  obtain ⟨R, hR⟩ : ∃ R, R = srunX d F L := ⟨_, rfl⟩
  unfold SRunRes
  rw [← hR]
  unfold srunX at hR
  rw [hln] at hL ⊢
  rw [hfn] at hF hFin hFl ⊢
  have HH := Lib.hid (And.intro hL (And.intro hI (And.intro hbw (And.intro h8 (And.intro hln (And.intro hAF hcs))))))
  have HR := Lib.hid hR
  clear h hL hI hbw h8 hln hAF hF hFI hR hri pW hcs
  go_enter Try.func11, Try.ntmps11
  go_wp2_with fail
  refine cD.mono ?_
  rintro e w2 ⟨o1, c1, o2, c2, o3, c3, ss, tt, rfl, hO, q2⟩
  have cC := wcount_any _ _ _ d (w2.alloc (.cells #[.slice o1 d.ws.length c1, .slice o2 d.ts.length c2, .slice o3 d.fs.length c3] 39)) (hO.dk.keepB ((B.refl _).alloc _ _)) HH.out.2.2.1 HH.out.2.2.2.1
  rw [hcI] at cC
  have hsz := q2.below.size
  obtain ⟨an, han⟩ : ∃ an, d.ws.length = an := ⟨_, rfl⟩
  obtain ⟨bn, hbn⟩ : ∃ bn, d.ts.length = bn := ⟨_, rfl⟩
  obtain ⟨cn, hcn⟩ : ∃ cn, d.fs.length = cn := ⟨_, rfl⟩
  have HO := Lib.hid (And.intro hO q2)
  rw [han, hbn, hcn] at HO cC ⊢
  rw [hcn] at hf9
  have oW := obj_new w2 (.cells #[.slice o1 an c1, .slice o2 bn c2, .slice o3 cn c3] 39)
  have qW : B w2 (w2.alloc (.cells #[.slice o1 an c1, .slice o2 bn c2, .slice o3 cn c3] 39)) := (B.refl _).alloc _ _
  clear hO q2 cD han hbn
  go_wp2_with fail
  refine cC.mono ?_
  rintro e w4 ⟨rfl, q4⟩
  have oW4 := q4.b.obj oW
  have qW4 := qW.trans q4.b
  clear cC qW oW q4
  generalize w2.heap.size = DB at *
  obtain ⟨nn, hnn'⟩ : ∃ nn, cntD d = nn := ⟨_, rfl⟩
  rw [hnn'] at hmade hnn ⊢
  have hb16 : i0.bytes * nn ≤ 281474976710656 := by rw [hz2]; omega
  have hbml : nn ≤ maxLen := by unfold maxLen; omega
  have k2 := obj_cell oW4 2
  have hs4 := (HO.out.2.trans qW4).below.size
  have HA := Lib.hid (And.intro hfn hcn)
  clear hfn hcn
  go_wp2_with (at_make; refine wpList_make_full _ rfl _ _ 43 rfl w4.heap.size 2 i0 _ 1 Try.underlying43 hi0 hz0 hz1 .i64 .i64 _ _ nn rfl rfl rfl rfl hb16 hbml (Nat.le_refl _) ?_; intro wm hrow hgrow; have hr2 : wm.ownsRow w4.heap.size 2 1 (.slice (some ⟨w4.heap.size, 0, none⟩) nn nn) nn (flatL (List.replicate nn 0)) := (by rw [← hmade]; exact hrow); have qm := (B.refl w4).grownBy hgrow (fun _ h => by cases h); replace k2 := qm.keep k2; clear hgrow hrow; have hOm := HO.out.1.tnK ((qW4.trans qm).tn [] 0) ⟨by simp, by simp, by simp, by simp⟩; have hFm := hFin.keepB ((HO.out.2.trans qW4).trans qm); have hbz := ((HO.out.2.trans qW4).trans qm).below.size; have hfs : wm.ownsRow w.heap.size 66 4 (.slice o3 cn c3) cn (flatF d.fs) := (by have := hOm.fs; rw [HA.out.2] at this; exact this); go_wp2_with (at_builtin; refine wpList_append_two rfl _ _ 37 rfl w.heap.size 66 i1 _ 4 40 Try.underlying37 hi1 hy0 hy1 hy2 rfl (by omega) (.slice o3 cn c3) cn (flatF d.fs) rfl hfs (.slice fo fn fc) rfl fn (flatF F) hFm (by rw [flatF_len, HA.out.1]) (flatF_one F) (by unfold maxLen; omega) (by omega) hbz ?_; intro oN cN w5 hown5 hold5 hgrow5; have t5 := (Tn.refl [some 66] w.heap.size wm).appended hfs hgrow5 (Nat.le_refl _) (by simp); have hM : SrM w DB w4.heap.size nn o1 o2 o3 oN an c1 bn c2 cn c3 (cn + fn) cN d ss tt (d.fs ++ F) w5 (List.replicate nn 0) := ⟨own_low (own_tnU hr2 t5 (by decide)) hs4, hOm.tnF t5 (by rw [HA.out.2]; exact hold5), (by rw [← flatF_app]; exact hown5), t5.objc (qm.obj oW4) (by decide), t5.toB ((HO.out.2.trans qW4).trans qm) (Nat.le_refl _)⟩; have HM := Lib.hid hM; clear hM t5 hown5 hold5 hgrow5 hfs hbz hFm hOm hr2 qm k2; go_wp2_with fail))
  have hAl : (d.fs ++ F).length = cn + fn := by rw [List.length_append, HA.out.1, HA.out.2]
  obtain ⟨AF, hAF'⟩ : ∃ AF, d.fs ++ F = AF := ⟨_, rfl⟩
  rw [hAF'] at HM hAl
  have hHR := HR.out
  rw [hAF', hnn'] at hHR
  have HI := Lib.hid (And.intro hHR (And.intro hnn' (And.intro (show ∀ f ∈ AF, I64 f.r ∧ I64 f.c from hAF' ▸ HH.out.2.2.2.2.2.1) hAl)))
  clear hHR hnn' hAl hAF' HR HA hFin hmade hs4 oW4 qW4 HO hi0 hz0 hz1 hz2 hi1 hy0 hy1 hy2 hb16 hbml hcI hsz
  generalize w4.heap.size = g at *
  obtain ⟨m, hm⟩ : ∃ m, cn + fn = m := ⟨_, rfl⟩
  have em : ((cn : Int) + (fn : Int)) = (m : Int) := by omega
  have hm2 : m ≤ 2000000 := by omega
  rw [hm] at HM HI
  try rw [hm]
  try rw [em]
  clear hm em
  have HM' := HM.out
  clear HM
  go_loopw [28] (fun iv wr => ∃ (j : Nat) (v : List Int), j ≤ m ∧ iv = .int .i64 j ∧ SrM w DB g nn o1 o2 o3 oN an c1 bn c2 cn c3 m cN d ss tt AF wr v ∧ FOk nn v ∧ fillsX d AF (List.replicate nn 0) = fillsX d (AF.drop j) v) (fun iv _ => m + 1 - (intOf iv).toNat)
  case atStart => exact ⟨0, _, Nat.zero_le _, rfl, HM', FOk.zero nn, rfl⟩
  case round =>
    obtain ⟨j, v, hj, rfl, hM, hF0, hrun⟩ := hrel
    obtain ⟨wl, rfl⟩ : ∃ wl : World, wl = wr := ⟨_, rfl⟩
    by_cases hl : j < m
    · have hlB : decide ((j : Int) < (m : Int)) = true := decide_eq_true (by omega)
      have hlN : decide (j < m) = true := decide_eq_true hl
      have hlI : (j : Int) < (m : Int) := by omega
      have hi0 : (0 : Int) ≤ (j : Int) := by omega
      have wk1 : IntKind.i64.wrap ((j : Int) + 1) = (j : Int) + 1 := by rw [IntKind.wrap_i64]; omega
      have hl' : j < AF.length := by rw [HI.out.2.2.2]; exact hl
      have hFls : IsFls wl (.slice oN m cN) AF := by
        have := hM.app
        rw [← HI.out.2.2.2] at this ⊢
        exact isFls_own this
      obtain ⟨a, cap, e1, _, _, hr⟩ := hFls.at_ hl'
      rw [HI.out.2.2.2] at e1
      obtain ⟨rfl, rfl⟩ : oN = some a ∧ cN = cap := by simpa using e1
      obtain ⟨f, hf⟩ : ∃ f, AF[j] = f := ⟨_, rfl⟩
      rw [hf] at hr
      have hgf : AF[j]? = some f := by rw [List.getElem?_eq_getElem hl', hf]
      have hfI := HI.out.2.2.1 f (List.mem_of_getElem? hgf)
      have hrn := fun v' => fillsX_ok (d := d) (v := v) (v' := v') hgf
      have hre := fun n => fillsX_err (d := d) (v := v) (n := n) hgf
      have hFo := fun v' hs => FOk.fill (d := d) (v := v) (v' := v') (f := f) (by rw [HI.out.2.1]; exact hF0) hs
      rw [HI.out.2.1] at hFo
      obtain ⟨N, R9, C, V⟩ := f
      obtain ⟨f0, f1, f2, f3⟩ := hr
      simp only at f0 f1 f2 f3 hfI
      have qb : B wl (wl.alloc (.cells #[.string N, .int .i64 R9, .int .i64 C, .int .i64 V] 66)) := (B.refl _).alloc _ _
      have hMb := hM.keep qb
      have cF := sfill_any _ _ _ d N R9 C V hfI w.heap.size g nn v _ hMb.own.dk HH.out.2.2.1 HH.out.2.2.2.1 HI.out.2.1.symm hMb.row
      have k0 := obj_cell hMb.obj 0
      have k1 := obj_cell hMb.obj 1
      have k2 := obj_cell hMb.obj 2
      have HZ := Lib.hid (And.intro hMb (And.intro hrun (And.intro hrn (And.intro hre (And.intro hFo (And.intro hl hM.b))))))
      have m0 := obj_cell hM.obj 0
      have m1 := obj_cell hM.obj 1
      have m2 := obj_cell hM.obj 2
      clear hM hF0 hrun hl hl' hFls e1 hf hgf hfI hrn hre hFo hMb qb hj
      go_wp2_with fail
      refine cF.mono ?_
      rintro e w5 (⟨n, hst, hn1, rfl, hT⟩ | ⟨v', hst, rfl, hR5, hT⟩)
      · have hnB : ((n : Int) != 0) = true := by simp; omega
        have HF := Lib.hid (And.intro hst (hT.toB HZ.out.1.b (Nat.le_refl _)))
        have HN := Lib.hid hn1
        clear hst hT cF f0 f1 f2 f3 k0 k1 k2 m0 m1 m2 hn1
        go_wp2
        try simp only [Exit.inBlock, Exit.then]
        go_ret2
        exact .inl ⟨n, by rw [HI.out.1, HZ.out.2.1, HZ.out.2.2.2.1 n HF.out.1], HN.out, rfl, HF.out.2⟩
      · have HF := Lib.hid (And.intro hst (HZ.out.1.step hT hR5))
        clear hst hT hR5 cF f0 f1 f2 f3 k0 k1 k2 m0 m1 m2
        go_wp2
        go_roundw
        case rel => exact ⟨j + 1, v', by have := HZ.out.2.2.2.2.2.1; omega, by go_num, HF.out.2, HZ.out.2.2.2.2.1 v' HF.out.1, by rw [HZ.out.2.1, HZ.out.2.2.1 v' HF.out.1]⟩
        case measure => have := HZ.out.2.2.2.2.2.1; simp [intOf]; omega
    · have hlB : decide ((j : Int) < (m : Int)) = false := decide_eq_false (by omega)
      have hlN : decide (j < m) = false := decide_eq_false hl
      rw [List.drop_eq_nil_of_le (by rw [HI.out.2.2.2]; omega), fillsX] at hrun
      have hG : R = movesX d L v := by rw [HI.out.1, hrun]
      have HG := Lib.hid hG
      have hV0 := hF0.v
      clear hrun hG hF0 hl hj
      go_wp2_with fail
      have HV := Lib.hid (And.intro hV0 hM)
      clear hV0 hM
      go_loopw [42] (fun iv wr => ∃ (j : Nat) (u : List Int), j ≤ ln ∧ iv = .int .i64 j ∧ SrM w DB g nn o1 o2 o3 oN an c1 bn c2 cn c3 m cN d ss tt AF wr u ∧ VOk nn u ∧ movesX d L v = movesX d (L.drop j) u) (fun iv _ => ln + 1 - (intOf iv).toNat)
      case atStart => exact ⟨0, v, Nat.zero_le _, rfl, HV.out.2, HV.out.1, rfl⟩
      case round =>
        obtain ⟨j, u, hj, rfl, hM, hF0, hrun⟩ := hrel
        obtain ⟨wl, rfl⟩ : ∃ wl : World, wl = wr := ⟨_, rfl⟩
        by_cases hl : j < ln
        · have hlB : decide ((j : Int) < (ln : Int)) = true := decide_eq_true (by omega)
          have hlN : decide (j < ln) = true := decide_eq_true hl
          have hlI : (j : Int) < (ln : Int) := by omega
          have hi0 : (0 : Int) ≤ (j : Int) := by omega
          have hl' : j < L.length := by rw [HH.out.2.2.2.2.1]; exact hl
          have hL0 := HH.out.1.keepB hM.b
          obtain ⟨a, cap, e1, e2, e3, hr⟩ := hL0.at_ hl'
          rw [HH.out.2.2.2.2.1] at e1 e2
          have wk1 : IntKind.i64.wrap ((j : Int) + 1) = (j : Int) + 1 := by rw [IntKind.wrap_i64]; unfold maxLen at e3; omega
          obtain ⟨rfl, rfl⟩ : lo = some a ∧ lc = cap := by simpa using e1
          obtain ⟨f, hf⟩ : ∃ f, L[j] = f := ⟨_, rfl⟩
          rw [hf] at hr
          have hgf : L[j]? = some f := by rw [List.getElem?_eq_getElem hl', hf]
          obtain ⟨hfs, hfd, _⟩ := HH.out.2.1 f (List.mem_of_getElem? hgf)
          have hrn := fun v' => movesX_ok (d := d) (v := u) (v' := v') hgf
          have hre := fun n => movesX_err (d := d) (v := u) (n := n) hgf
          have hFo := fun v' hs => (VOk.move (d := d) (v := u) (v' := v') (o := f) HH.out.2.2.1 (by rw [HI.out.2.1]; exact hF0) hs).1
          rw [HI.out.2.1] at hFo
          obtain ⟨⟨SN, SR, SC⟩, ⟨TN, TR, TC⟩, V, N, NW⟩ := f
          obtain ⟨f0, f1, f2, f3, f4, f5, f6, f7, f8⟩ := hr
          simp only at f0 f1 f2 f3 f4 f5 f6 f7 f8 hfs hfd
          have qb : B wl (wl.alloc (.cells #[.string SN, .int .i64 SR, .int .i64 SC, .string TN, .int .i64 TR, .int .i64 TC, .int .i64 V, .string N, .bool NW] 52)) := (B.refl _).alloc _ _
          have hMb := hM.keep qb
          have cF := smove_any _ _ _ d ⟨SN, SR, SC⟩ ⟨TN, TR, TC⟩ V N NW hfs hfd w.heap.size g nn u _ hMb.own.dk HH.out.2.2.1 HH.out.2.2.2.1 HI.out.2.1.symm hF0 hMb.row
          have k0 := obj_cell hMb.obj 0
          have k1 := obj_cell hMb.obj 1
          have k2 := obj_cell hMb.obj 2
          have HZ := Lib.hid (And.intro hMb (And.intro hrun (And.intro hrn (And.intro hre (And.intro hFo (And.intro hl hM.b))))))
          have m0 := obj_cell hM.obj 0
          have m1 := obj_cell hM.obj 1
          have m2 := obj_cell hM.obj 2
          clear hM hF0 hrun hl hl' hL0 e1 e2 e3 hf hgf hfs hfd hrn hre hFo hMb qb hj
          go_wp2_with fail
          refine cF.mono ?_
          rintro e w5 (⟨n, hst, hn1, rfl, hT⟩ | ⟨v', hst, rfl, hR5, hT⟩)
          · have hnB : ((n : Int) != 0) = true := by simp; omega
            have HF := Lib.hid (And.intro hst (hT.toB HZ.out.1.b (Nat.le_refl _)))
            have HN := Lib.hid hn1
            clear hst hT cF f0 f1 f2 f3 f4 f5 f6 f7 f8 k0 k1 k2 m0 m1 m2 hn1
            go_wp2
            try simp only [Exit.inBlock, Exit.then]
            go_ret2
            exact .inl ⟨n, by rw [HG.out, HZ.out.2.1, HZ.out.2.2.2.1 n HF.out.1], HN.out, rfl, HF.out.2⟩
          · have HF := Lib.hid (And.intro hst (HZ.out.1.step hT hR5))
            clear hst hT hR5 cF f0 f1 f2 f3 f4 f5 f6 f7 f8 k0 k1 k2 m0 m1 m2
            go_wp2
            go_roundw
            case rel => exact ⟨j + 1, v', by have := HZ.out.2.2.2.2.2.1; omega, by go_num, HF.out.2, HZ.out.2.2.2.2.1 v' HF.out.1, by rw [HZ.out.2.1, HZ.out.2.2.1 v' HF.out.1]⟩
            case measure => have := HZ.out.2.2.2.2.2.1; simp [intOf]; omega
        · have hlB : decide ((j : Int) < (ln : Int)) = false := decide_eq_false (by omega)
          have hlN : decide (j < ln) = false := decide_eq_false hl
          rw [List.drop_eq_nil_of_le (by rw [HH.out.2.2.2.2.1]; omega), movesX] at hrun
          have HZ := Lib.hid (And.intro hrun hM)
          clear hrun hM hF0 hl hj
          go_wp2
          try simp only [Exit.inBlock, Exit.then]
          go_ret2
          exact .inr ⟨u, g, by rw [HG.out, HZ.out.1], by rw [HI.out.2.1]; rfl, by rw [HI.out.2.1]; exact HZ.out.2.row, HZ.out.2.b⟩
end
end Go.Proofs.Ytnmcgleanpdlmaa
