/-
 Contracts and what they rest on.
-/
import Derived.Test.YthlileddhgglnaaGreatDoorChecked
import Derived.Lib.Hide
import Derived.KernelRfl
import Derived.Laws.Strings2
import Derived.Laws.Slices
import Derived.Test.YthlileddhgglnaaGreatDoorY16
namespace Go.Proofs.YthlileddhgglnaaGreatDoor
open Go.RowKit Go.Maps Go.WideMaps
set_option linter.unusedVariables false
theorem names_map (ws : List Wr) (n : ByteArray) : namedL (ws.map (·.n)) n = namedW ws n := by
 unfold namedL namedW
 rw [List.any_map]
 rfl
theorem apart_at {ok : Wr → Bool} {ws : List Wr} (h : apartW ok ws = true) {i : Nat} {r : Wr} (hr : ws[i]? = some r) : ok r = true ∧ namedW (ws.take i) r.n = false := by
 cases hx : (ok r && !namedW (ws.take i) r.n) with
 | false => rw [apart_no hr hx] at h; cases h
 | true =>
  simp only [Bool.and_eq_true, Bool.not_eq_true'] at hx
  exact hx
theorem right_parts9 {d : Dk} (h : rightD d = true) : d.ws.length ≤ 8 ∧ d.ts.length ≤ 4 ∧ apartW wareOk d.ws = true ∧ apartW tipOk d.ts = true := by
 unfold rightD at h
 simp only [Bool.and_eq_true, decide_eq_true_eq] at h
 exact ⟨h.1.1.1.1, h.1.1.1.2, h.1.1.2, h.1.2⟩
theorem wareOk_right {r : Wr} (h : wareOk r = true) : rightS r.l = true := by
 unfold wareOk at h
 simp only [Bool.and_eq_true] at h
 exact h.2
theorem tipOk_right {r : Wr} (h : tipOk r = true) : rightS r.l = true := by
 unfold tipOk at h
 simp only [Bool.and_eq_true] at h
 exact h.1.1.1.2
theorem take_snoc {α : Type} {l : List α} {i : Nat} {x : α} (h : l[i]? = some x) : l.take (i + 1) = l.take i ++ [x] := by
 rw [List.take_add_one, h]
 rfl
structure NewS (d : Dk) (lo hi b mw mt : Nat) (w2 w3 wr : World) (X : List Th) (nw nt : Nat) : Prop where
 g : G (fun i => i = mw ∨ i = mt) w3 wr
 len : X.length = nw + nt
 xw : ∀ (j : Nat) r, j < nw → d.ws[j]? = some r → ∃ x, X[j]? = some x ∧ x.i = j ∧ x.l = r.l
 xt : ∀ (j : Nat) r, j < nt → d.ts[j]? = some r → ∃ x, X[nw + j]? = some x ∧ x.i = j ∧ x.l = r.l
 wm : ThMap wr mw ((d.ws.take nw).map (·.n)) ((X.take nw).map (·.b))
 tm : ThMap wr mt ((d.ts.take nt).map (·.n)) ((X.drop nw).map (·.b))
 blt : ∀ x ∈ X, b < x.b ∧ x.b < wr.heap.size
 at_ : ∀ x ∈ X, ThAt lo hi [] wr x
 nil : ∀ x ∈ X, x.p = none
 bap : X.Pairwise (fun x y => x.b ≠ y.b)
section
variable {d : Dk} {lo hi b mw mt : Nat} {w2 w3 wr wn : World} {X : List Th} {nw nt i t m : Nat} {l : List Sec} {o : Option Addr} {c : Nat} {r : Wr}
theorem newS_pair (h : NewS d lo hi b mw mt w2 w3 wr X nw nt) (ht : wr.heap.size ≤ t) (x : Th) (hx : x.b = t) : (X ++ [x]).Pairwise (fun x y => x.b ≠ y.b) := by
 rw [List.pairwise_append]
 refine ⟨h.bap, List.pairwise_singleton _ _, fun a ha y hy => ?_⟩
 obtain rfl := List.mem_singleton.1 hy
 have := h.blt a ha
 omega
theorem NewS.addW (h : NewS d lo hi b mw mt w2 w3 wr X nw 0) (hr : d.ws[nw]? = some r) (ht : wr.heap.size ≤ t) (hb : b < t) (q : G (fun i => i = mw) wr wn) (htn : t < wn.heap.size) (hmw : mw < lo ∨ hi ≤ mw) (hmt : mw ≠ mt) (hmb : mw ≤ b)
  (ho : wn.heap[t]? = some (.cells #[.int .i64 (nw : Int), .slice o m c, .int .u32 0, .int .i32 0, .int .u32 0, .pointer none] 151 (0, 0))) (hs : Held (fun w => IsSecs w (.slice o m c) r.l) lo hi wn) (hR : rightS r.l = true)
  (hm : ThMap wn mw (((d.ws.take nw).map (·.n)) ++ [r.n]) (((X.take nw).map (·.b)) ++ [t])) : NewS d lo hi b mw mt w2 w3 wn (X ++ [⟨nw, r.l, t, none⟩]) (nw + 1) 0 := by
 have hl := h.len
 have e1 : X.take nw = X := List.take_of_length_le (by omega)
 have e2 : X.drop nw = [] := List.drop_eq_nil_of_le (by omega)
 have hx : ∀ z ∈ X ++ [(⟨nw, r.l, t, none⟩ : Th)], z ∈ X ∨ z = ⟨nw, r.l, t, none⟩ := fun z hz => by simpa using hz
 refine ⟨h.g.trans (q.mono (fun i _ hi => .inl hi)), by simp; omega, fun j r' hj hr' => ?_, fun j r' hj => by omega, ?_, ?_, fun z hz => ?_, fun z hz => ?_, fun z hz => ?_, newS_pair h ht _ rfl⟩
 ·by_cases e : j = nw
  ·subst e
   obtain rfl : r = r' := Option.some.inj (hr.symm.trans hr')
   exact ⟨⟨j, r.l, t, none⟩, by rw [List.getElem?_append_right (by omega), show j - X.length = 0 by omega]; rfl, rfl, rfl⟩
  ·obtain ⟨x, h1, h2⟩ := h.xw j r' (by omega) hr'
   exact ⟨x, by rw [List.getElem?_append_left (by omega)]; exact h1, h2⟩
 ·have e3 : (X ++ [(⟨nw, r.l, t, none⟩ : Th)]).take (nw + 1) = X ++ [⟨nw, r.l, t, none⟩] := List.take_of_length_le (by simp; omega)
  rw [take_snoc hr, e3, List.map_append, List.map_append]
  rw [e1] at hm
  exact hm
 ·have e3 : (X ++ [(⟨nw, r.l, t, none⟩ : Th)]).drop (nw + 1) = [] := List.drop_eq_nil_of_le (by simp; omega)
  rw [e3]
  have := h.tm
  rw [e2] at this
  exact this.g q (fun e => hmt e.symm)
 ·rcases hx z hz with hz | rfl
  ·have := h.blt z hz; have := q.size; omega
  ·exact ⟨hb, htn⟩
 ·rcases hx z hz with hz | rfl
  ·exact (h.at_ z hz).g q (fun i hi => by subst hi; have := h.blt z hz; omega)
  ·exact ⟨⟨o, m, c, ho, hs⟩, hR, fun p hp => by cases hp⟩
 ·rcases hx z hz with hz | rfl
  ·exact h.nil z hz
  ·rfl
theorem NewS.addT (h : NewS d lo hi b mw mt w2 w3 wr X nw nt) (hr : d.ts[nt]? = some r) (ht : wr.heap.size ≤ t) (hb : b < t) (q : G (fun i => i = mt) wr wn) (htn : t < wn.heap.size) (hmw : mt < lo ∨ hi ≤ mt) (hmt : mw ≠ mt) (hmb : mt ≤ b)
  (ho : wn.heap[t]? = some (.cells #[.int .i64 (nt : Int), .slice o m c, .int .u32 0, .int .i32 0, .int .u32 0, .pointer none] 151 (0, 0))) (hs : Held (fun w => IsSecs w (.slice o m c) r.l) lo hi wn) (hR : rightS r.l = true)
  (hm : ThMap wn mt (((d.ts.take nt).map (·.n)) ++ [r.n]) (((X.drop nw).map (·.b)) ++ [t])) : NewS d lo hi b mw mt w2 w3 wn (X ++ [⟨nt, r.l, t, none⟩]) nw (nt + 1) := by
 have hl := h.len
 have hx : ∀ z ∈ X ++ [(⟨nt, r.l, t, none⟩ : Th)], z ∈ X ∨ z = ⟨nt, r.l, t, none⟩ := fun z hz => by simpa using hz
 refine ⟨h.g.trans (q.mono (fun i _ hi => .inr hi)), by simp; omega, fun j r' hj hr' => ?_, fun j r' hj hr' => ?_, ?_, ?_, fun z hz => ?_, fun z hz => ?_, fun z hz => ?_, newS_pair h ht _ rfl⟩
 ·obtain ⟨x, h1, h2⟩ := h.xw j r' hj hr'
  exact ⟨x, by rw [List.getElem?_append_left (by omega)]; exact h1, h2⟩
 ·by_cases e : j = nt
  ·subst e
   obtain rfl : r = r' := Option.some.inj (hr.symm.trans hr')
   exact ⟨⟨j, r.l, t, none⟩, by rw [List.getElem?_append_right (by omega), show nw + j - X.length = 0 by omega]; rfl, rfl, rfl⟩
  ·obtain ⟨x, h1, h2⟩ := h.xt j r' (by omega) hr'
   exact ⟨x, by rw [List.getElem?_append_left (by omega)]; exact h1, h2⟩
 ·rw [List.take_append_of_le_length (by omega)]
  exact h.wm.g q hmt
 ·rw [take_snoc hr, List.drop_append_of_le_length (by omega), List.map_append, List.map_append]
  exact hm
 ·rcases hx z hz with hz | rfl
  ·have := h.blt z hz; have := q.size; omega
  ·exact ⟨hb, htn⟩
 ·rcases hx z hz with hz | rfl
  ·exact (h.at_ z hz).g q (fun i hi => by subst hi; have := h.blt z hz; omega)
  ·exact ⟨⟨o, m, c, ho, hs⟩, hR, fun p hp => by cases hp⟩
 ·rcases hx z hz with hz | rfl
  ·exact h.nil z hz
  ·rfl
end
end Go.Proofs.YthlileddhgglnaaGreatDoor
namespace Go.Proofs.YthlileddhgglnaaGreatDoor
open Go.RowKit Go.Maps Go.WideMaps
set_option linter.unusedVariables false
set_option maxRecDepth 100000 in
set_option maxHeartbeats 4000000 in
theorem dnew_yes (wv tv fv : Value) (d : Dk) (w : World) (h : IsDk w wv tv fv d) (hr : rightD d = true) (hzw : ∀ r ∈ d.ws, r.n.size ≤ maxLen) (hsI : ∀ r ∈ d.ws, I64 r.x ∧ I64 r.y) (hzt : ∀ r ∈ d.ts, r.n.size ≤ maxLen) (hzf : ∀ f ∈ d.fs, f.n.size ≤ maxLen ∧ I64 f.r ∧ I64 f.c) (hf9 : d.fs.length < 1000) :
  Calls Tryz.prog 17 #[.agg #[wv, tv, fv]] w fun e w' => ∃ (P : Bp) (X : List Th), e = .returned (.tuple #[.pointer (some ⟨P.b, 0, none⟩), .int .i64 0]) ∧ P.d = d ∧ BoardM P w' 0 [] X ∧ w.heap.size ≤ P.lo ∧ P.top = w'.heap.size ∧ B w w' := by
 obtain ⟨ao, ac, bo, bc, co, cc, rfl, rfl, rfl⟩ := h.forms
 obtain ⟨p8, p4, pW, pT⟩ := right_parts9 hr
 have q0 : B w (w.alloc (.cells #[.slice ao d.ws.length ac, .slice bo d.ts.length bc, .slice co d.fs.length cc] 26)) := (B.refl w).alloc _ _
 have hD0 := h.keepB q0
 have hs0 := q0.below.size
 have oD0 := obj_new w (.cells #[.slice ao d.ws.length ac, .slice bo d.ts.length bc, .slice co d.fs.length cc] 26)
 have cR := right9_any _ _ _ d _ hD0 hzw hsI hzt hzf hf9
 rw [hr] at cR
 have l8 : ∀ r ∈ d.ws, r.l.length ≤ 1000000 := fun r hr' => by
  obtain ⟨i, hi, e⟩ := List.getElem_of_mem hr'
  have := right_all (wareOk_right (apart_at pW (show d.ws[i]? = some r by rw [List.getElem?_eq_getElem hi, e])).1)
  omega
 have l4 : ∀ r ∈ d.ts, r.l.length ≤ 1000000 := fun r hr' => by
  obtain ⟨i, hi, e⟩ := List.getElem_of_mem hr'
  have := right_all (tipOk_right (apart_at pT (show d.ts[i]? = some r by rw [List.getElem?_eq_getElem hi, e])).1)
  omega
 have hmm := @run_makeMap Tryz.prog
 have hnot : ∀ (x : Bool) (w : World), (Op.unary .not (.bool x)).run Tryz.prog w = .ok (.bool (!x)) w := fun _ _ => rfl
 go_enter Tryz.func17, Tryz.ntmps17
 go_wp2_with fail
 generalize w.alloc (.cells #[.slice ao d.ws.length ac, .slice bo d.ts.length bc, .slice co d.fs.length cc] 26) = w0 at *
 refine cR.mono ?_
 rintro e w1 ⟨rfl, q1⟩
 have k0 := obj_cell (q1.obj oD0) 0
 have k1 := obj_cell (q1.obj oD0) 1
 have k2 := obj_cell (q1.obj oD0) 2
 have cC := copied_any _ _ _ d w1 (hD0.keepB q1) l8 l4 (by omega) (by omega) (by omega)
 have hwlo : w.heap.size ≤ w1.heap.size := Nat.le_trans hs0 q1.below.size
 have b1 := q0.trans q1
 clear q0 q1 hD0 oD0 cR hs0 h
 go_wp2_with fail
 refine cC.mono ?_
 rintro e w2 ⟨o1, c1, o2, c2, o3, c3, ss, tt, rfl, HO, q2⟩
 go_wp2_with fail
 refine (cnew_any CTab w2).mono ?_
 rintro e w3 ⟨c, bm, base, rfl, hC3, hbm, hb3, q3⟩
 subst hb3
 have q4 : B w3 (((w3.alloc (.map #[] 0)).alloc (.map #[] 0)).alloc (.cells #[.slice o1 d.ws.length c1, .slice o2 d.ts.length c2, .slice o3 d.fs.length c3, .pointer (some ⟨c, 0, none⟩), .map (some w3.heap.size), .map (some (w3.heap.size + 1))] 137)) := (((B.refl w3).map _ _).map _ _).alloc _ _
 have s4 : (w3.alloc (.map #[] 0)).heap.size = w3.heap.size + 1 := by simp
 have s4b : ((w3.alloc (.map #[] 0)).alloc (.map #[] 0)).heap.size = w3.heap.size + 2 := by simp
 have s4c : (((w3.alloc (.map #[] 0)).alloc (.map #[] 0)).alloc (.cells #[.slice o1 d.ws.length c1, .slice o2 d.ts.length c2, .slice o3 d.fs.length c3, .pointer (some ⟨c, 0, none⟩), .map (some w3.heap.size), .map (some (w3.heap.size + 1))] 137)).heap.size = w3.heap.size + 3 := by simp
 have oB : (((w3.alloc (.map #[] 0)).alloc (.map #[] 0)).alloc (.cells #[.slice o1 d.ws.length c1, .slice o2 d.ts.length c2, .slice o3 d.fs.length c3, .pointer (some ⟨c, 0, none⟩), .map (some w3.heap.size), .map (some (w3.heap.size + 1))] 137)).heap[w3.heap.size + 2]? = some (.cells #[.slice o1 d.ws.length c1, .slice o2 d.ts.length c2, .slice o3 d.fs.length c3, .pointer (some ⟨c, 0, none⟩), .map (some w3.heap.size), .map (some (w3.heap.size + 1))] 137 (0, 0)) := by rw [← s4b]; exact obj_new _ _
 have hM1 : ThMap (((w3.alloc (.map #[] 0)).alloc (.map #[] 0)).alloc (.cells #[.slice o1 d.ws.length c1, .slice o2 d.ts.length c2, .slice o3 d.fs.length c3, .pointer (some ⟨c, 0, none⟩), .map (some w3.heap.size), .map (some (w3.heap.size + 1))] 137)) w3.heap.size [] [] := ((ThMap.new w3).g (S := fun _ => False) (G.alloc (G.refl _ _) _) (fun h => h)).g (S := fun _ => False) (G.alloc (G.refl _ _) _) (fun h => h)
 have hM2 : ThMap (((w3.alloc (.map #[] 0)).alloc (.map #[] 0)).alloc (.cells #[.slice o1 d.ws.length c1, .slice o2 d.ts.length c2, .slice o3 d.fs.length c3, .pointer (some ⟨c, 0, none⟩), .map (some w3.heap.size), .map (some (w3.heap.size + 1))] 137)) (w3.heap.size + 1) [] [] := by
  have := (ThMap.new (w3.alloc (.map #[] 0))).g (S := fun _ => False) (G.alloc (G.refl _ _) (.cells #[.slice o1 d.ws.length c1, .slice o2 d.ts.length c2, .slice o3 d.fs.length c3, .pointer (some ⟨c, 0, none⟩), .map (some w3.heap.size), .map (some (w3.heap.size + 1))] 137)) (fun h => h)
  rw [s4] at this
  exact this
 have hC4 := CacheM.keepB hC3 q4
 have hcb := hC3.lb
 have hcl := hC3.lt
 have HC := Lib.hid hC4
 have HM := Lib.hid (And.intro hM1 hM2)
 have hoB := Lib.hid oB
 have b24 := q3.trans q4
 have b12 := b1.trans q2
 have hhi : w1.heap.size ≤ w2.heap.size := q2.below.size
 clear q3 q4 hC4 hM1 hM2 oB hC3 k0 k1 k2 cC b1 q2 s4
 go_wp2_with fail
 have oB := hoB.out
 clear hoB s4b
 generalize (((w3.alloc (.map #[] 0)).alloc (.map #[] 0)).alloc (.cells #[.slice o1 d.ws.length c1, .slice o2 d.ts.length c2, .slice o3 d.fs.length c3, .pointer (some ⟨c, 0, none⟩), .map (some w3.heap.size), .map (some (w3.heap.size + 1))] 137)) = W4 at *
 generalize hb : w3.heap.size + 2 = b at *
 generalize hmt : w3.heap.size + 1 = mt at *
 generalize hmw : w3.heap.size = mw at *
 generalize hlo : w1.heap.size = lo at *
 generalize hh' : w2.heap.size = hh at *
 obtain ⟨Wsz, hWsz⟩ : ∃ z, W4.heap.size = z := ⟨_, rfl⟩
 have hS0 : NewS d lo hh b mw mt w2 W4 W4 [] 0 0 := ⟨G.refl _ _, rfl, fun j r h => by omega, fun j r h => by omega, HM.out.1, HM.out.2, fun x h => (by cases h), fun x h => (by cases h), fun x h => (by cases h), List.Pairwise.nil⟩
 go_loopw [25] (fun iv wr => ∃ (i : Nat) (X : List Th), i ≤ d.ws.length ∧ iv = .int .i64 i ∧ NewS d lo hh b mw mt w2 W4 wr X i 0) (fun iv _ => d.ws.length + 1 - (intOf iv).toNat)
 case atStart => exact ⟨0, [], Nat.zero_le _, rfl, hS0⟩
 case round =>
 
  obtain ⟨i, X, hi, rfl, hS⟩ := hrel
  obtain ⟨wl, rfl⟩ : ∃ wl : World, wl = wr := ⟨_, rfl⟩
  have oBr := hS.g.obj (by show ¬ (b = mw ∨ b = mt); omega) oB
  have bwr : B w2 wl := hS.g.b b24 (fun i hi => by rcases hi with rfl | rfl <;> omega)
  by_cases hl : i < d.ws.length
  ·have hlB : decide ((i : Int) < (d.ws.length : Int)) = true := decide_eq_true (by omega)
   have hlN : decide (i < d.ws.length) = true := decide_eq_true hl
   have hlI : (i : Int) < (d.ws.length : Int) := by omega
   have hi0 : (0 : Int) ≤ (i : Int) := by omega
   have wk1 : IntKind.i64.wrap ((i : Int) + 1) = (i : Int) + 1 := by rw [IntKind.wrap_i64]; omega
   have HOr := HO.on (fun i _ h2 => bwr.below.block i h2)
   have hr : d.ws[i]? = some d.ws[i] := List.getElem?_eq_getElem (by omega)
   have hv : ss[i]? = some (ss[i]'(by have := HO.sl; omega)) := List.getElem?_eq_getElem _
   have hsec := (HO.heldW i _ _ hr hv).keepB bwr
   rw [hh'] at hsec
   obtain ⟨vo, vn, vc, hvv⟩ := hsec.now.form
   rw [hvv] at hv hsec
   clear hvv
   have hrow := HOr.ws
   obtain ⟨g, cp, hsl, hgk, hglt⟩ := hrow.form (by omega)
   simp only [Value.slice.injEq, true_and] at hsl
   obtain ⟨rfl, rfl⟩ := hsl
   have hrc := fun j (hj : j < 5) => (hrow.cellAt (i * 5 + j) (by omega)).trans (flatR_get d.ws ss i j _ _ hr hv hj)
   have y0 := hrc 0 (by omega)
   have y1 := hrc 1 (by omega)
   have y2 := hrc 2 (by omega)
   have y3 := hrc 3 (by omega)
   have y4 := hrc 4 (by omega)
   obtain ⟨pok, pap⟩ := apart_at pW hr
   have hR := wareOk_right pok
   rw [← names_map] at pap
   have hnz := hzw _ (List.mem_of_getElem? hr)
   generalize d.ws[i] = r at *
   obtain ⟨N, RX, RY, RZ, RL⟩ := r
   simp only [Rec.cells, List.getElem?_cons_zero, List.getElem?_cons_succ] at y0 y1 y2 y3 y4
   simp only at hR pap hnz hsec
   rw [Nat.add_zero] at y0
   have y0' : wl.cell? ⟨g, i * 5, none⟩ = some (.string N) := y0
   obtain ⟨D, hD, hDm, hDA, hDH⟩ := hS.wm
   obtain ⟨kk, hkk⟩ : ∃ kk, ((d.ws.take i).map (·.n)).length = kk := ⟨_, rfl⟩
   have hk8 : kk ≤ 8 := by rw [← hkk]; simp; omega
   rw [hkk] at hD
   have key := key9 N hnz
   have HK := Lib.hid (And.intro hkk (And.intro (show (((d.ws.take i).map (·.n)).length = ((X.take i).map (·.b)).length) by have := hS.len; simp; omega) (And.intro hDA (And.intro hDH (And.intro pap (And.intro hR (And.intro hsec (And.intro hr hl))))))))
   have HS := Lib.hid (And.intro hS bwr)
   have hgs := hS.g.size
   clear hS bwr hDA hDH pap hR hsec hr hkk hv HOr hrow hrc pok y0 hglt hgk hDm
   have s3 := obj_cell oBr 4
   have Gxs : wl.heap.size = wl.heap.size := rfl
   go_wp2_with fail
   have g0 : (wl.alloc (.cells #[.string N, .int .i64 RX, .int .i64 RY, .int .i64 RZ, .slice vo vn vc] 33)).cell? ⟨wl.heap.size, 0, none⟩ = some (.string N) := obj_cell (obj_new _ _) 0
   have g4 : (wl.alloc (.cells #[.string N, .int .i64 RX, .int .i64 RY, .int .i64 RZ, .slice vo vn vc] 33)).cell? ⟨wl.heap.size, 4, none⟩ = some (.slice vo vn vc) := obj_cell (obj_new _ _) 4
   have qx : B wl (wl.alloc (.cells #[.string N, .int .i64 RX, .int .i64 RY, .int .i64 RZ, .slice vo vn vc] 33)) := (B.refl _).alloc _ _
   have hDx := hD.alloc (.cells #[.string N, .int .i64 RX, .int .i64 RY, .int .i64 RZ, .slice vo vn vc] 33)
   have zx : (wl.alloc (.cells #[.string N, .int .i64 RX, .int .i64 RY, .int .i64 RZ, .slice vo vn vc] 33)).heap.size = wl.heap.size + 1 := by simp
   have hsx : Wsz ≤ wl.heap.size := Nat.le_trans (Nat.le_of_eq hWsz.symm) hgs
   replace s3 := qx.keep s3
   have HZx := Lib.hid zx
   clear Gxs hD y0' y1 y2 y3 y4 zx
   generalize hWx : wl.alloc (.cells #[.string N, .int .i64 RX, .int .i64 RY, .int .i64 RZ, .slice vo vn vc] 33) = Wx at *
   generalize hGx : wl.heap.size = Gx at *
   have cU := fun (w : World) (hE : w.ownsMap Tryz.prog 9 ptrElem mw kk D) => hE.store str_law Tryz.underlying135 (by unfold maxLen; omega) key (ptrElem_at Wx.heap.size)
   replace hDx : Wx.drew.ownsMap Tryz.prog 9 ptrElem mw kk D := hDx
   refine wp_region_noPanic ?_
   refine wp_region_gate (S := fun w' => B Wx w' ∧ w'.cell? ⟨b, 4, none⟩ = some (.map (some mw)) ∧ w'.cell? ⟨Gx, 0, none⟩ = some (.string N) ∧ w'.cell? ⟨Gx, 4, none⟩ = some (.slice vo vn vc) ∧ w'.ownsMap Tryz.prog 9 ptrElem mw kk D) 11 [(0, 3), (1, 3), (2, 3), (3, 0), (4, 3), (5, 0), (6, 3), (7, 3), (8, 0), (9, 3), (10, 2), (11, 4)] [0, 1, 2, 4, 0, 16, 0, 0, 128, 320, 512, 2047] [0, 1, 2, 4, 0, 16, 0, 0, 128, 320, 512, 1064] [0, 0, 0, 2056, 0, 2080, 0, 0, 3840, 0, 0, 0] (by kernel_rfl) (by kernel_rfl) (fun _ _ _ _ _ h => h) ?_ (fun hH => ?_)
   ·exact ⟨(B.refl _).drew, s3, g0, g4, hDx⟩
   refine wpSeqG_free (d := 30) (v := ?_) rfl rfl (by kernel_rfl) (fun w => ?_) ?_
   rotate_left
   ·go_simp <;> with_reducible rfl
   dsimp only [sZ, sS]
   refine wpSeqG_free (d := 31) (v := ?_) rfl rfl (by kernel_rfl) (fun w => ?_) ?_
   rotate_left
   ·go_simp <;> with_reducible rfl
   dsimp only [sZ, sS]
   refine wpSeqG_free (d := 32) (v := ?_) rfl rfl (by kernel_rfl) (fun w => ?_) ?_
   rotate_left
   ·go_simp <;> with_reducible rfl
   dsimp only [sZ, sS]
   refine wpSeqG_take (d := 33) (v := ?_) rfl rfl (by kernel_rfl) (fun w hS => ?_) ?_
   rotate_left
   ·go_simp <;> with_reducible rfl
   dsimp only [sZ, sS]
   refine wpSeqG_free (d := 34) (v := ?_) rfl rfl (by kernel_rfl) (fun w => ?_) ?_
   rotate_left
   ·go_simp <;> with_reducible rfl
   dsimp only [sZ, sS]
   refine wpSeqG_take (d := 35) (v := ?_) rfl rfl (by kernel_rfl) (fun w hS => ?_) ?_
   rotate_left
   ·go_simp <;> with_reducible rfl
   dsimp only [sZ, sS]
   refine wpSeqG_free (d := 36) (v := ?_) rfl rfl (by kernel_rfl) (fun w => ?_) ?_
   rotate_left
   ·go_simp <;> with_reducible rfl
   dsimp only [sZ, sS]
   refine wpSeqG_free (d := 37) (v := ?_) rfl rfl (by kernel_rfl) (fun w => ?_) ?_
   rotate_left
   ·go_simp <;> with_reducible rfl
   dsimp only [sZ, sS]
   refine wpSeqG_take (d := 38) (v := ?_) rfl rfl (by kernel_rfl) (fun w hS => ?_) ?_
   rotate_left
   ·go_simp <;> with_reducible rfl
   dsimp only [sZ, sS]
   refine wpSeqG_free (d := 39) (v := ?_) rfl rfl (by kernel_rfl) (fun w => ?_) ?_
   rotate_left
   ·go_simp <;> with_reducible rfl
   dsimp only [sZ, sS]
   refine wpSeqG_call rfl (by kernel_rfl) (fun K hK => ?_)
   go_simp
   refine hK.out _ _ ?_ (fun hH => ?_)
   ·exact ⟨hH.1.alloc _ _, ((B.refl _).alloc _ _).keep hH.2.1, ((B.refl _).alloc _ _).keep hH.2.2.1, ((B.refl _).alloc _ _).keep hH.2.2.2.1, hH.2.2.2.2.alloc _⟩
   clear hK
   refine wpSeqG_gate rfl (by kernel_rfl) (fun K hK => ?_)
   go_simp
   obtain ⟨w4, e4, hE4, ht4⟩ := cU _ hH.2.2.2.2
   rw [e4]
   go_simp
   refine hK.out _ _ ?_
   clear hK
   refine wpSeqG_done ?_
   refine NoPanic.normal ?_
   obtain ⟨hkk, hlen, hDA, hDH, pap, hR, hsec, hr, hl⟩ := HK.out
   obtain ⟨hS, bwr⟩ := HS.out
   have zx := HZx.out
   have ob := obj_new Wx.drew (.cells #[.int .i64 (i : Int), .slice vo vn vc, .int .u32 0, .int .i32 0, .int .u32 0, .pointer none] 151)
   replace ob : (Wx.drew.alloc (.cells #[.int .i64 (i : Int), .slice vo vn vc, .int .u32 0, .int .i32 0, .int .u32 0, .pointer none] 151)).heap[Wx.heap.size]? = _ := ob
   have gA := ht4.grown
   have gN : G (fun k => k = mw) wl w4 := ((qx.g (fun k => k = mw)).trans ((((B.refl Wx).drew).alloc _ _).g _)).grown gA (fun k hk => .inl (Option.some.inj hk).symm)
   have zt : Wx.heap.size ≠ mw := by omega
   have hz9 : Wx.heap.size < (Wx.drew.alloc (.cells #[.int .i64 (i : Int), .slice vo vn vc, .int .u32 0, .int .i32 0, .int .u32 0, .pointer none] 151)).heap.size := obj_lt ob
   have ob4 := (gA.block Wx.heap.size hz9 (fun e => zt (Option.some.inj e))).trans ob
   obtain ⟨hA4, hH4⟩ := th_put (b := Wx.heap.size) hDx.isMap hlen hDA hDH pap
   have hTM : ThMap w4 mw (((d.ws.take i).map (·.n)) ++ [N]) (((X.take i).map (·.b)) ++ [Wx.heap.size]) := ⟨_, by rw [List.length_append, hkk]; exact hE4, hE4.isMap, hA4, hH4⟩
   have hgs4 := gA.size
   have hN := hS.addW (r := ⟨N, RX, RY, RZ, RL⟩) hr (by omega) (by omega) gN (Nat.lt_of_lt_of_le hz9 hgs4) (by omega) (by omega) (by omega) ob4 (gN.held hsec (fun k hk1 hk2 hk3 => by omega)) hR hTM
   have HN := Lib.hid (And.intro hN hl)
   clear hN hTM hA4 hH4 ob4 hz9 gN gA ob hS bwr hDA hDH pap hR hsec hr hkk HK HS hE4 ht4 e4 hH cU hDx hgs4
   go_wp2
   go_roundw
   case rel => exact ⟨i + 1, _, by have := HN.out.2; omega, by go_num, HN.out.1⟩
   case measure => have := HN.out.2; simp [intOf]; omega
  ·have hlB : decide ((i : Int) < (d.ws.length : Int)) = false := decide_eq_false (by omega)
   have hlN : decide (i < d.ws.length) = false := decide_eq_false hl
   obtain rfl : i = d.ws.length := by omega
   have sT := obj_cell oBr 1
   have oBq := oBr
   go_wp2_with fail
   go_loopw [48] (fun iv wr => ∃ (i : Nat) (X : List Th), i ≤ d.ts.length ∧ iv = .int .i64 i ∧ NewS d lo hh b mw mt w2 W4 wr X d.ws.length i) (fun iv _ => d.ts.length + 1 - (intOf iv).toNat)
   case atStart => exact ⟨0, X, Nat.zero_le _, rfl, hS⟩
   case round =>
    clear hS X
    obtain ⟨i, X, hi, rfl, hS⟩ := hrel
    obtain ⟨wl, rfl⟩ : ∃ wl : World, wl = wr := ⟨_, rfl⟩
    have oBr := hS.g.obj (by show ¬ (b = mw ∨ b = mt); omega) oB
    have bwr : B w2 wl := hS.g.b b24 (fun i hi => by rcases hi with rfl | rfl <;> omega)
    by_cases hl : i < d.ts.length
    ·have hlB : decide ((i : Int) < (d.ts.length : Int)) = true := decide_eq_true (by omega)
     have hlN : decide (i < d.ts.length) = true := decide_eq_true hl
     have hlI : (i : Int) < (d.ts.length : Int) := by omega
     have hi0 : (0 : Int) ≤ (i : Int) := by omega
     have wk1 : IntKind.i64.wrap ((i : Int) + 1) = (i : Int) + 1 := by rw [IntKind.wrap_i64]; omega
     have HOr := HO.on (fun i _ h2 => bwr.below.block i h2)
     have hr : d.ts[i]? = some d.ts[i] := List.getElem?_eq_getElem (by omega)
     have hv : tt[i]? = some (tt[i]'(by have := HO.tl; omega)) := List.getElem?_eq_getElem _
     have hsec := (HO.heldT i _ _ hr hv).keepB bwr
     rw [hh'] at hsec
     obtain ⟨vo, vn, vc, hvv⟩ := hsec.now.form
     rw [hvv] at hv hsec
     clear hvv
     have hrow := HOr.ts
     obtain ⟨g, cp, hsl, hgk, hglt⟩ := hrow.form (by omega)
     simp only [Value.slice.injEq, true_and] at hsl
     obtain ⟨rfl, rfl⟩ := hsl
     have hrc := fun j (hj : j < 5) => (hrow.cellAt (i * 5 + j) (by omega)).trans (flatR_get d.ts tt i j _ _ hr hv hj)
     have y0 := hrc 0 (by omega)
     have y1 := hrc 1 (by omega)
     have y2 := hrc 2 (by omega)
     have y3 := hrc 3 (by omega)
     have y4 := hrc 4 (by omega)
     obtain ⟨pok, pap⟩ := apart_at pT hr
     have hR := tipOk_right pok
     rw [← names_map] at pap
     have hnz := hzt _ (List.mem_of_getElem? hr)
     generalize d.ts[i] = r at *
     obtain ⟨N, RX, RY, RZ, RL⟩ := r
     simp only [Rec.cells, List.getElem?_cons_zero, List.getElem?_cons_succ] at y0 y1 y2 y3 y4
     simp only at hR pap hnz hsec
     rw [Nat.add_zero] at y0
     have y0' : wl.cell? ⟨g, i * 5, none⟩ = some (.string N) := y0
     obtain ⟨D, hD, hDm, hDA, hDH⟩ := hS.tm
     obtain ⟨kk, hkk⟩ : ∃ kk, ((d.ts.take i).map (·.n)).length = kk := ⟨_, rfl⟩
     have hk8 : kk ≤ 8 := by rw [← hkk]; simp; omega
     rw [hkk] at hD
     have key := key9 N hnz
     have HK := Lib.hid (And.intro hkk (And.intro (show (((d.ts.take i).map (·.n)).length = ((X.drop d.ws.length).map (·.b)).length) by have := hS.len; simp; omega) (And.intro hDA (And.intro hDH (And.intro pap (And.intro hR (And.intro hsec (And.intro hr hl))))))))
     have HS := Lib.hid (And.intro hS bwr)
     have hgs := hS.g.size
     clear hS bwr hDA hDH pap hR hsec hr hkk hv HOr hrow hrc pok y0 hglt hgk hDm
     have s3 := obj_cell oBr 5
     have Gxs : wl.heap.size = wl.heap.size := rfl
     go_wp2_with fail
     have g0 : (wl.alloc (.cells #[.string N, .int .i64 RX, .int .i64 RY, .int .i64 RZ, .slice vo vn vc] 35)).cell? ⟨wl.heap.size, 0, none⟩ = some (.string N) := obj_cell (obj_new _ _) 0
     have g4 : (wl.alloc (.cells #[.string N, .int .i64 RX, .int .i64 RY, .int .i64 RZ, .slice vo vn vc] 35)).cell? ⟨wl.heap.size, 4, none⟩ = some (.slice vo vn vc) := obj_cell (obj_new _ _) 4
     have qx : B wl (wl.alloc (.cells #[.string N, .int .i64 RX, .int .i64 RY, .int .i64 RZ, .slice vo vn vc] 35)) := (B.refl _).alloc _ _
     have hDx := hD.alloc (.cells #[.string N, .int .i64 RX, .int .i64 RY, .int .i64 RZ, .slice vo vn vc] 35)
     have zx : (wl.alloc (.cells #[.string N, .int .i64 RX, .int .i64 RY, .int .i64 RZ, .slice vo vn vc] 35)).heap.size = wl.heap.size + 1 := by simp
     have hsx : Wsz ≤ wl.heap.size := Nat.le_trans (Nat.le_of_eq hWsz.symm) hgs
     replace s3 := qx.keep s3
     have HZx := Lib.hid zx
     clear Gxs hD y0' y1 y2 y3 y4 zx
     generalize hWx : wl.alloc (.cells #[.string N, .int .i64 RX, .int .i64 RY, .int .i64 RZ, .slice vo vn vc] 35) = Wx at *
     generalize hGx : wl.heap.size = Gx at *
     have cU := fun (w : World) (hE : w.ownsMap Tryz.prog 9 ptrElem mt kk D) => hE.store str_law Tryz.underlying135 (by unfold maxLen; omega) key (ptrElem_at Wx.heap.size)
     replace hDx : Wx.drew.ownsMap Tryz.prog 9 ptrElem mt kk D := hDx
     refine wp_region_noPanic ?_
     refine wp_region_gate (S := fun w' => B Wx w' ∧ w'.cell? ⟨b, 5, none⟩ = some (.map (some mt)) ∧ w'.cell? ⟨Gx, 0, none⟩ = some (.string N) ∧ w'.cell? ⟨Gx, 4, none⟩ = some (.slice vo vn vc) ∧ w'.ownsMap Tryz.prog 9 ptrElem mt kk D) 11 [(0, 3), (1, 3), (2, 3), (3, 0), (4, 3), (5, 0), (6, 3), (7, 3), (8, 0), (9, 3), (10, 2), (11, 4)] [0, 1, 2, 4, 0, 16, 0, 0, 128, 320, 512, 2047] [0, 1, 2, 4, 0, 16, 0, 0, 128, 320, 512, 1064] [0, 0, 0, 2056, 0, 2080, 0, 0, 3840, 0, 0, 0] (by kernel_rfl) (by kernel_rfl) (fun _ _ _ _ _ h => h) ?_ (fun hH => ?_)
     ·exact ⟨(B.refl _).drew, s3, g0, g4, hDx⟩
     refine wpSeqG_free (d := 53) (v := ?_) rfl rfl (by kernel_rfl) (fun w => ?_) ?_
     rotate_left
     ·go_simp <;> with_reducible rfl
     dsimp only [sZ, sS]
     refine wpSeqG_free (d := 54) (v := ?_) rfl rfl (by kernel_rfl) (fun w => ?_) ?_
     rotate_left
     ·go_simp <;> with_reducible rfl
     dsimp only [sZ, sS]
     refine wpSeqG_free (d := 55) (v := ?_) rfl rfl (by kernel_rfl) (fun w => ?_) ?_
     rotate_left
     ·go_simp <;> with_reducible rfl
     dsimp only [sZ, sS]
     refine wpSeqG_take (d := 56) (v := ?_) rfl rfl (by kernel_rfl) (fun w hS => ?_) ?_
     rotate_left
     ·go_simp <;> with_reducible rfl
     dsimp only [sZ, sS]
     refine wpSeqG_free (d := 57) (v := ?_) rfl rfl (by kernel_rfl) (fun w => ?_) ?_
     rotate_left
     ·go_simp <;> with_reducible rfl
     dsimp only [sZ, sS]
     refine wpSeqG_take (d := 58) (v := ?_) rfl rfl (by kernel_rfl) (fun w hS => ?_) ?_
     rotate_left
     ·go_simp <;> with_reducible rfl
     dsimp only [sZ, sS]
     refine wpSeqG_free (d := 59) (v := ?_) rfl rfl (by kernel_rfl) (fun w => ?_) ?_
     rotate_left
     ·go_simp <;> with_reducible rfl
     dsimp only [sZ, sS]
     refine wpSeqG_free (d := 60) (v := ?_) rfl rfl (by kernel_rfl) (fun w => ?_) ?_
     rotate_left
     ·go_simp <;> with_reducible rfl
     dsimp only [sZ, sS]
     refine wpSeqG_take (d := 61) (v := ?_) rfl rfl (by kernel_rfl) (fun w hS => ?_) ?_
     rotate_left
     ·go_simp <;> with_reducible rfl
     dsimp only [sZ, sS]
     refine wpSeqG_free (d := 62) (v := ?_) rfl rfl (by kernel_rfl) (fun w => ?_) ?_
     rotate_left
     ·go_simp <;> with_reducible rfl
     dsimp only [sZ, sS]
     refine wpSeqG_call rfl (by kernel_rfl) (fun K hK => ?_)
     go_simp
     refine hK.out _ _ ?_ (fun hH => ?_)
     ·exact ⟨hH.1.alloc _ _, ((B.refl _).alloc _ _).keep hH.2.1, ((B.refl _).alloc _ _).keep hH.2.2.1, ((B.refl _).alloc _ _).keep hH.2.2.2.1, hH.2.2.2.2.alloc _⟩
     clear hK
     refine wpSeqG_gate rfl (by kernel_rfl) (fun K hK => ?_)
     go_simp
     obtain ⟨w4, e4, hE4, ht4⟩ := cU _ hH.2.2.2.2
     rw [e4]
     go_simp
     refine hK.out _ _ ?_
     clear hK
     refine wpSeqG_done ?_
     refine NoPanic.normal ?_
     obtain ⟨hkk, hlen, hDA, hDH, pap, hR, hsec, hr, hl⟩ := HK.out
     obtain ⟨hS, bwr⟩ := HS.out
     have zx := HZx.out
     have ob := obj_new Wx.drew (.cells #[.int .i64 (i : Int), .slice vo vn vc, .int .u32 0, .int .i32 0, .int .u32 0, .pointer none] 151)
     replace ob : (Wx.drew.alloc (.cells #[.int .i64 (i : Int), .slice vo vn vc, .int .u32 0, .int .i32 0, .int .u32 0, .pointer none] 151)).heap[Wx.heap.size]? = _ := ob
     have gA := ht4.grown
     have gN : G (fun k => k = mt) wl w4 := ((qx.g (fun k => k = mt)).trans ((((B.refl Wx).drew).alloc _ _).g _)).grown gA (fun k hk => .inl (Option.some.inj hk).symm)
     have zt : Wx.heap.size ≠ mt := by omega
     have hz9 : Wx.heap.size < (Wx.drew.alloc (.cells #[.int .i64 (i : Int), .slice vo vn vc, .int .u32 0, .int .i32 0, .int .u32 0, .pointer none] 151)).heap.size := obj_lt ob
     have ob4 := (gA.block Wx.heap.size hz9 (fun e => zt (Option.some.inj e))).trans ob
     obtain ⟨hA4, hH4⟩ := th_put (b := Wx.heap.size) hDx.isMap hlen hDA hDH pap
     have hTM : ThMap w4 mt (((d.ts.take i).map (·.n)) ++ [N]) (((X.drop d.ws.length).map (·.b)) ++ [Wx.heap.size]) := ⟨_, by rw [List.length_append, hkk]; exact hE4, hE4.isMap, hA4, hH4⟩
     have hgs4 := gA.size
     have hN := hS.addT (r := ⟨N, RX, RY, RZ, RL⟩) hr (by omega) (by omega) gN (Nat.lt_of_lt_of_le hz9 hgs4) (by omega) (by omega) (by omega) ob4 (gN.held hsec (fun k hk1 hk2 hk3 => by omega)) hR hTM
     have HN := Lib.hid (And.intro hN hl)
     clear hN hTM hA4 hH4 ob4 hz9 gN gA ob hS bwr hDA hDH pap hR hsec hr hkk HK HS hE4 ht4 e4 hH cU hDx hgs4
     go_wp2
     go_roundw
     case rel => exact ⟨i + 1, _, by have := HN.out.2; omega, by go_num, HN.out.1⟩
     case measure => have := HN.out.2; simp [intOf]; omega
    ·have hlB : decide ((i : Int) < (d.ts.length : Int)) = false := decide_eq_false (by omega)
     have hlN : decide (i < d.ts.length) = false := decide_eq_false hl
     obtain rfl : i = d.ts.length := by omega
     have hN := hS
     obtain ⟨Xe, hXe⟩ : ∃ Xe : List Th, X = Xe := ⟨_, rfl⟩
     have hlen := hN.len
     have t1 : X.take d.ws.length ++ X.drop d.ws.length = X := List.take_append_drop _ _
     have hBM : BoardM ⟨b, lo, hh, c, bm, mw, mw, mt, wl.heap.size, .slice o1 d.ws.length c1, .slice o2 d.ts.length c2, .slice o3 d.fs.length c3, d, (X.take d.ws.length).map (·.b), (X.drop d.ws.length).map (·.b)⟩ wl 0 [] X := by
      have hgsz := hN.g.size
      refine ⟨oBr, ?_, hr, ?_, ?_, ?_, (show lo ≤ hh by omega), (show hh ≤ bm by omega), (show mw ≤ mw by omega), (show mw < mt by omega), (show mt < b by omega), (show b < wl.heap.size by omega), Nat.le_refl _,
       (show X.map (·.b) = (X.take d.ws.length).map (·.b) ++ (X.drop d.ws.length).map (·.b) by rw [← List.map_append, t1]), fun x hx => hN.blt x hx, hN.bap, fun e he => (by cases he), hN.at_, fun i r hr' => hN.xw i r (List.getElem?_eq_some_iff.1 hr').1 hr', fun i r hr' => hN.xt i r (List.getElem?_eq_some_iff.1 hr').1 hr',
       (show ((X.take d.ws.length).map (·.b)).length = d.ws.length by simp; omega), (show ((X.drop d.ws.length).map (·.b)).length = d.ts.length by simp; omega), ?_, Nat.le_refl _⟩
      ·have := HO.held.keepB bwr
       rw [hh'] at this
       exact this
      ·exact CacheM.apartG HC.out hN.g (fun i hi => by
        have hi' : i = mw ∨ i = mt := hi
        have h1 : i ≠ c := by omega
        have h2 : i ≠ bm := by omega
        exact ⟨h1, h2, fun e he => by cases he⟩)
      ·have := hN.wm
       rw [List.take_of_length_le (Nat.le_refl _)] at this
       exact this
      ·have := hN.tm
       rw [List.take_of_length_le (Nat.le_refl _)] at this
       exact this
      ·rw [List.filter_eq_nil_iff.2 (fun x hx => by rw [hN.nil x hx]; simp)]
       rfl
     have hBW := b12.trans bwr
     have HZ := Lib.hid (And.intro hBM hBW)
     clear hBM hN hS hXe
     go_wp2
     go_ret2
     refine ⟨_, ?_, ?_, ⟨X, HZ.out.1⟩, hwlo, rfl, HZ.out.2⟩
     ·rfl
     ·rfl
end Go.Proofs.YthlileddhgglnaaGreatDoor
namespace Go.Proofs.YthlileddhgglnaaGreatDoor
open Go.RowKit Go.Maps Go.WideMaps
set_option linter.unusedVariables false
set_option maxRecDepth 100000 in
set_option maxHeartbeats 4000000 in
theorem dnew_no (wv tv fv : Value) (d : Dk) (w : World) (h : IsDk w wv tv fv d) (hr : rightD d = false) (hzw : ∀ r ∈ d.ws, r.n.size ≤ maxLen) (hsI : ∀ r ∈ d.ws, I64 r.x ∧ I64 r.y) (hzt : ∀ r ∈ d.ts, r.n.size ≤ maxLen) (hzf : ∀ f ∈ d.fs, f.n.size ≤ maxLen ∧ I64 f.r ∧ I64 f.c) (hf9 : d.fs.length < 1000) :
  Calls Tryz.prog 17 #[.agg #[wv, tv, fv]] w fun e w' => e = .returned (.tuple #[.pointer none, .int .i64 20]) ∧ B w w' := by
 obtain ⟨ao, ac, bo, bc, co, cc, rfl, rfl, rfl⟩ := h.forms
 have q0 : B w (w.alloc (.cells #[.slice ao d.ws.length ac, .slice bo d.ts.length bc, .slice co d.fs.length cc] 26)) := (B.refl w).alloc _ _
 have hD0 := h.keepB q0
 have cR := right9_any _ _ _ d _ hD0 hzw hsI hzt hzf hf9
 rw [hr] at cR
 have hnot : ∀ (x : Bool) (w : World), (Op.unary .not (.bool x)).run Tryz.prog w = .ok (.bool (!x)) w := fun _ _ => rfl
 go_enter Tryz.func17, Tryz.ntmps17
 go_wp2_with fail
 generalize w.alloc (.cells #[.slice ao d.ws.length ac, .slice bo d.ts.length bc, .slice co d.fs.length cc] 26) = w0 at *
 refine cR.mono ?_
 rintro e w1 ⟨rfl, q1⟩
 have HZ := Lib.hid (q0.trans q1)
 clear cR hD0 q0 q1 h
 go_wp2
 go_ret2
 exact ⟨rfl, HZ.out⟩
section
variable {P : Bp} {n : Nat} {E : List Ent} {X : List Th}
set_option maxRecDepth 100000 in
theorem dtables_any (w : World) (h : BoardM P w n E X) : Calls Tryz.prog 68 #[.pointer (some ⟨P.b, 0, none⟩)] w fun e w' => e = .returned (.int .i64 E.length) ∧ w' = w := by
 have cB := cbuilt_any w h.cache
 have k3 := obj_cell h.obj 3
 clear h
 go_enter Tryz.func68, Tryz.ntmps68
 go_wp2_with (go_at_call 97; refine cB.mono ?_; rintro e w' ⟨rfl, rfl⟩)
 go_ret
 exact ⟨rfl, rfl⟩
theorem right_len {d : Dk} (h : rightD d = true) : (∀ r ∈ d.ws, r.l.length ≤ 1000000) ∧ ∀ r ∈ d.ts, r.l.length ≤ 1000000 := by
 obtain ⟨_, _, pW, pT⟩ := right_parts9 h
 refine ⟨fun r hr' => ?_, fun r hr' => ?_⟩
 ·obtain ⟨i, hi, e⟩ := List.getElem_of_mem hr'
  have := right_all (wareOk_right (apart_at pW (show d.ws[i]? = some r by rw [List.getElem?_eq_getElem hi, e])).1)
  omega
 ·obtain ⟨i, hi, e⟩ := List.getElem_of_mem hr'
  have := right_all (tipOk_right (apart_at pT (show d.ts[i]? = some r by rw [List.getElem?_eq_getElem hi, e])).1)
  omega
set_option maxRecDepth 100000 in
set_option maxHeartbeats 1600000 in
theorem ddeck_any (w : World) (h : BoardM P w n E X) (hf9 : P.d.fs.length ≤ 1000000) : Calls Tryz.prog 21 #[.pointer (some ⟨P.b, 0, none⟩)] w fun e w' => ∃ o1 c1 o2 c2 o3 c3 ss tt, e = .returned (.agg #[.slice o1 P.d.ws.length c1, .slice o2 P.d.ts.length c2, .slice o3 P.d.fs.length c3]) ∧
  OwnD w' w.heap.size (.slice o1 P.d.ws.length c1) (.slice o2 P.d.ts.length c2) (.slice o3 P.d.fs.length c3) P.d ss tt ∧ B w w' := by
 obtain ⟨l8, l4⟩ := right_len h.right
 obtain ⟨p8, p4, _, _⟩ := right_parts9 h.right
 have qa : B w (w.alloc (.cells #[.slice none 0 0, .slice none 0 0, .slice none 0 0] 26)) := (B.refl w).alloc _ _
 have oR := obj_new w (.cells #[.slice none 0 0, .slice none 0 0, .slice none 0 0] 26)
 have hM := h.keepB qa
 have oB := hM.obj
 have cC := copied_any P.wv P.tv P.fv P.d _ hM.dk.now l8 l4 (by omega) (by omega) hf9
 obtain ⟨ao, ac, bo, bc, co, cc, e1, e2, e3⟩ := hM.dk.now.forms
 rw [e1, e2, e3] at oB cC
 generalize P.d = d at *
 have k0 := obj_cell oB 0
 have k1 := obj_cell oB 1
 have k2 := obj_cell oB 2
 have hsz := qa.below.size
 clear oB hM h e1 e2 e3 l8 l4
 go_enter Tryz.func21, Tryz.ntmps21
 go_wp2_with fail
 generalize w.alloc (.cells #[.slice none 0 0, .slice none 0 0, .slice none 0 0] 26) = w0 at *
 refine cC.mono ?_
 rintro e w1 ⟨o1, c1, o2, c2, o3, c3, ss, tt, rfl, HO, q1⟩
 have oR1 := q1.obj oR
 have gR := g_three w1 w.heap.size (.slice o1 d.ws.length c1) (.slice o2 d.ts.length c2) (.slice o3 d.fs.length c3)
 have oE := obj_three oR1 (.slice o1 d.ws.length c1) (.slice o2 d.ts.length c2) (.slice o3 d.fs.length c3)
 have hR : w.heap.size < w0.heap.size := obj_lt oR
 have HO2 := HO.on (w' := ((w1.setCell ⟨w.heap.size, 0, none⟩ (.slice o1 d.ws.length c1)).setCell ⟨w.heap.size, 1, none⟩ (.slice o2 d.ts.length c2)).setCell ⟨w.heap.size, 2, none⟩ (.slice o3 d.fs.length c3)) (fun i h1 h2 => gR.block i h2 (fun e => by omega))
 have hq := b_three (b := w.heap.size) (qa.trans q1) (Nat.le_refl _) (.slice o1 d.ws.length c1) (.slice o2 d.ts.length c2) (.slice o3 d.fs.length c3)
 have y0 := obj_cell oR1 0
 have y1 := obj_cell oR1 1
 have y2 := obj_cell oR1 2
 have z0 := obj_free oR1 0
 have z1 := obj_free oR1 1
 have z2 := obj_free oR1 2
 have HZ := Lib.hid (And.intro oE (And.intro hq HO2))
 clear oE hq HO2 HO gR q1 qa oR oR1 cC k0 k1 k2
 go_wp2
 obtain ⟨oE, hqF, hOwn⟩ := HZ.out
 have c0' := obj_cell oE 0
 have c1' := obj_cell oE 1
 have c2' := obj_cell oE 2
 refine bodyPost_ret (v := .agg #[.slice o1 d.ws.length c1, .slice o2 d.ts.length c2, .slice o3 d.fs.length c3]) (by simp [results, Tryz.results21, go_sem, c0', c1', c2']) rfl ⟨o1, c1, o2, c2, o3, c3, ss, tt, rfl, ?_, hqF⟩
 exact ⟨own_low hOwn.ws hsz, own_low hOwn.ts hsz, own_low hOwn.fs hsz, hOwn.sl, hOwn.tl, fun i r v h1 h2 => own_low (hOwn.sh i r v h1 h2) hsz, fun i r v h1 h2 => own_low (hOwn.th i r v h1 h2) hsz, hOwn.wi, hOwn.ti⟩
end
end Go.Proofs.YthlileddhgglnaaGreatDoor
namespace Go.Proofs.YthlileddhgglnaaGreatDoor
open Go.RowKit
set_option linter.unusedVariables false
theorem wwithin_any (v e : Int) (w : World) : Calls Tryz.prog 121 #[.int .i64 v, .int .i64 e] w fun x w' => x = .returned (.bool (decide (0 ≤ v) && decide (v < e))) ∧ w = w' := by
 cases k1 : decide ((0 : Int) ≤ v)
 ·go_enter Tryz.func121, Tryz.ntmps121
  go_wp2
  go_ret
  exact ⟨by simp [*], rfl⟩
 ·cases k2 : decide (v < e)
  all_goals
   go_enter Tryz.func121, Tryz.ntmps121
   go_wp2
   go_ret
   exact ⟨by simp [*], rfl⟩
end Go.Proofs.YthlileddhgglnaaGreatDoor
namespace Go.Proofs.YthlileddhgglnaaGreatDoor
open Go.RowKit
set_option linter.unusedVariables false
theorem wsize_any (N : ByteArray) (X Y Z : Int) (sv : Value) (so : Option Addr) (sn sc : Nat) (hsv : sv = .slice so sn sc) (hb : 1 ≤ X ∧ X ≤ 8 ∧ 1 ≤ Y ∧ Y ≤ 12) (w : World) : Calls Tryz.prog 103 #[.agg #[.string N, .int .i64 X, .int .i64 Y, .int .i64 Z, sv]] w fun x w' => x = .returned (.int .i64 (X * Y)) ∧ Q w w' := by
 subst hsv
 obtain ⟨b1, b2, b3, b4⟩ := hb
 have hQ := (Q.refl w).alloc #[.string N, .int .i64 X, .int .i64 Y, .int .i64 Z, .slice so sn sc] 33
 have hxy := mul_small (a := X) (b := Y) (by omega) b2 (by omega) b4
 obtain ⟨P, hP⟩ : ∃ P, X * Y = P := ⟨_, rfl⟩
 rw [hP] at hxy ⊢
 have w1 : IntKind.i64.wrap (X * Y) = P := by rw [hP, IntKind.wrap_i64]; omega
 have k1 : decide (X < 1) = false := decide_eq_false (by omega)
 have k2 : decide ((8 : Int) < X) = false := decide_eq_false (by omega)
 have k3 : decide (Y < 1) = false := decide_eq_false (by omega)
 have k4 : decide ((12 : Int) < Y) = false := decide_eq_false (by omega)
 have HQ := Lib.hid hQ
 clear hP hxy b1 b2 b3 b4 hQ
 go_enter Tryz.func103, Tryz.ntmps103
 go_wp2
 go_ret
 exact ⟨rfl, HQ.out⟩
def hasB (N : ByteArray) (X Y : Int) (n : ByteArray) (r c : Int) : Bool := (N.toList == n.toList) && (decide (0 ≤ r) && decide (r < X)) && (decide (0 ≤ c) && decide (c < Y))
theorem whas_any (N : ByteArray) (X Y Z : Int) (sv : Value) (so : Option Addr) (sn sc : Nat) (hsv : sv = .slice so sn sc) (n : ByteArray) (r c : Int) (hX : I64 X) (hY : I64 Y) (hr : I64 r) (hc : I64 c) (w : World) : Calls Tryz.prog 104 #[.agg #[.string N, .int .i64 X, .int .i64 Y, .int .i64 Z, sv], .agg #[.string n, .int .i64 r, .int .i64 c]] w fun x w' => x = .returned (.bool (hasB N X Y n r c)) ∧ Q w w' := by
 subst hsv
 have hQ := ((Q.refl w).alloc #[.string N, .int .i64 X, .int .i64 Y, .int .i64 Z, .slice so sn sc] 33).alloc #[.string n, .int .i64 r, .int .i64 c] 39
 have cr := fun w => wwithin_any r X w
 have cc := fun w => wwithin_any c Y w
 have u1 : IntKind.i64.wrap X = X := by rw [IntKind.wrap_i64]; unfold I64 at hX; omega
 have u2 : IntKind.i64.wrap Y = Y := by rw [IntKind.wrap_i64]; unfold I64 at hY; omega
 have u3 : IntKind.i64.wrap r = r := by rw [IntKind.wrap_i64]; unfold I64 at hr; omega
 have u4 : IntKind.i64.wrap c = c := by rw [IntKind.wrap_i64]; unfold I64 at hc; omega
 have HQ := Lib.hid hQ
 clear hQ hX hY hr hc
 unfold hasB
 generalize (decide (0 ≤ r) && decide (r < X)) = b2 at *
 generalize (decide (0 ≤ c) && decide (c < Y)) = b3 at *
 cases hb : (N.toList == n.toList)
 ·go_enter Tryz.func104, Tryz.ntmps104
  go_wp2
  go_ret
  exact ⟨rfl, HQ.out⟩
 ·cases b2
  ·go_enter Tryz.func104, Tryz.ntmps104
   go_wp2_with fail
   refine (cr _).mono ?_
   rintro _ _ ⟨rfl, rfl⟩
   go_wp2
   go_ret
   exact ⟨rfl, HQ.out⟩
  ·go_enter Tryz.func104, Tryz.ntmps104
   go_wp2_with fail
   refine (cr _).mono ?_
   rintro _ _ ⟨rfl, rfl⟩
   go_wp2_with fail
   refine (cc _).mono ?_
   rintro _ _ ⟨rfl, rfl⟩
   go_wp2
   go_ret
   exact ⟨by cases b3 <;> rfl, HQ.out⟩
end Go.Proofs.YthlileddhgglnaaGreatDoor
namespace Go.Proofs.YthlileddhgglnaaGreatDoor
open Go.RowKit
set_option linter.unusedVariables false
def atW : List Wr → Int → Option (ByteArray × Int × Int)
 | [], _ => none
 | w :: ws, k => if k < 0 then none else if k < w.x * w.y then some (w.n, k / w.y, k % w.y) else atW ws (k - w.x * w.y)
def wellV : Option (ByteArray × Int × Int) → Value
 | none => .agg #[.string ⟨#[]⟩, .int .i64 0, .int .i64 0]
 | some (n, r, c) => .agg #[.string n, .int .i64 r, .int .i64 c]
theorem at_cons {ws : List Wr} {i : Nat} (hi : i < ws.length) (k : Int) : atW (ws.drop i) k = if k < 0 then none else if k < (ws[i]).x * (ws[i]).y then some ((ws[i]).n, k / (ws[i]).y, k % (ws[i]).y) else atW (ws.drop (i + 1)) (k - (ws[i]).x * (ws[i]).y) := by
 rw [List.drop_eq_getElem_cons hi]
 rfl
theorem at_neg {k : Int} (hk : k < 0) : ∀ ws : List Wr, atW ws k = none
 | [] => rfl
 | w :: ws => by rw [atW, if_pos hk]
set_option maxRecDepth 100000 in
set_option maxHeartbeats 2000000 in
theorem r8at_any (wv tv fv : Value) (d : Dk) (k : Int) (hk : I64 k) (w : World) (h : IsDk w wv tv fv d) (hb : ∀ x ∈ d.ws, wareB x) : Calls Tryz.prog 22 #[.agg #[wv, tv, fv], .int .i64 k] w fun e w' => e = .returned (.tuple #[wellV (atW d.ws k), .bool (atW d.ws k).isSome]) ∧ B w w' := by
 obtain ⟨ao, ac, bo, bc, co, cc, rfl, rfl, rfl⟩ := h.forms
 have hQ := ((B.refl w).alloc #[.slice ao d.ws.length ac, .slice bo d.ts.length bc, .slice co d.fs.length cc] 26).alloc #[.string ⟨#[]⟩, .int .i64 0, .int .i64 0] 39
 have hR := h.ws.keepB hQ
 obtain ⟨W, hW⟩ : ∃ W, (w.alloc (.cells #[.slice ao d.ws.length ac, .slice bo d.ts.length bc, .slice co d.fs.length cc] 26)).alloc (.cells #[.string ⟨#[]⟩, .int .i64 0, .int .i64 0] 39) = W := ⟨_, rfl⟩
 have e1 : (w.alloc (.cells #[.slice ao d.ws.length ac, .slice bo d.ts.length bc, .slice co d.fs.length cc] 26)).heap.size = w.heap.size + 1 := by simp
 have oD := ((B.refl _).alloc #[.string ⟨#[]⟩, .int .i64 0, .int .i64 0] 39).obj (obj_new w (.cells #[.slice ao d.ws.length ac, .slice bo d.ts.length bc, .slice co d.fs.length cc] 26))
 have oE := obj_new (w.alloc (.cells #[.slice ao d.ws.length ac, .slice bo d.ts.length bc, .slice co d.fs.length cc] 26)) (.cells #[.string ⟨#[]⟩, .int .i64 0, .int .i64 0] 39)
 rw [e1] at oE
 rw [hW] at hR hQ oD oE
 clear h e1
 obtain ⟨RR, hRR⟩ : ∃ RR, atW d.ws k = RR := ⟨_, rfl⟩
 rw [hRR]
 go_enter Tryz.func22, Tryz.ntmps22
 go_wp2_with fail
 try rw [hW]
 clear hW
 obtain ⟨H, hH⟩ : ∃ H, w.heap.size = H := ⟨_, rfl⟩
 obtain ⟨E, hE⟩ : ∃ E, w.heap.size + 1 = E := ⟨_, rfl⟩
 have hEg : w.heap.size ≤ E := by omega
 have hne : ¬ E = H := by omega
 have hne2 : ¬ H = E := by omega
 rw [hE] at oE ⊢
 rw [hH] at oD ⊢
 clear hE hH
 go_loopw [1, 6] (fun kv iv wr => ∃ (i : Nat) (K : Int), i ≤ d.ws.length ∧ iv = .int .i64 i ∧ kv = .int .i64 K ∧ I64 K ∧ RR = atW (d.ws.drop i) K ∧ B W wr) (fun _ iv _ => d.ws.length + 1 - (intOf iv).toNat)
 case atStart => exact ⟨0, k, Nat.zero_le _, rfl, rfl, hk, hRR.symm, B.refl _⟩
 case round =>
  obtain ⟨i, K, hi, rfl, rfl, hK, hRi, hBi⟩ := hrel
  obtain ⟨wo, rfl⟩ : ∃ wo : World, wo = wr := ⟨_, rfl⟩
  clear hRR hk
  have oD1 := hBi.obj oD
  have oE1 := hBi.obj oE
  have k0 : wo.cell? ⟨H, 0, none⟩ = some (.slice ao d.ws.length ac) := obj_cell oD1 0
  have B1 := hQ.trans hBi
  by_cases hgo : i < d.ws.length ∧ 0 ≤ K
  ·obtain ⟨hl, hK0⟩ := hgo
   have hlB : decide ((i : Int) < (d.ws.length : Int)) = true := decide_eq_true (by omega)
   have hlI : (i : Int) < (d.ws.length : Int) := by omega
   have hKB : decide ((0 : Int) ≤ K) = true := decide_eq_true hK0
   have hi0 : (0 : Int) ≤ (i : Int) := by omega
   have wk1 : IntKind.i64.wrap ((i : Int) + 1) = (i : Int) + 1 := by rw [IntKind.wrap_i64]; have := hR.len; omega
   obtain ⟨a, cap, e1, _, _, hr⟩ := (hR.keepB hBi).at_ hl
   obtain ⟨rfl, _, rfl⟩ : ao = some a ∧ True ∧ ac = cap := by simpa using e1
   have hbi := hb _ (List.getElem_mem hl)
   rw [at_cons hl, if_neg (by omega)] at hRi
   obtain ⟨F, hF⟩ : ∃ F, d.ws[i] = F := ⟨_, rfl⟩
   rw [hF] at hr hRi hbi
   obtain ⟨b1, b2, b3, b4⟩ := hbi
   obtain ⟨g1, g2, g3, g4, sv, g5, g6⟩ := hr
   obtain ⟨so, sc, rfl⟩ := secs_form g6
   obtain ⟨sn, hsn⟩ : ∃ sn, F.l.length = sn := ⟨_, rfl⟩
   rw [hsn] at g5 g6
   clear hsn
   obtain ⟨N, X, Y, Z, SL⟩ := F
   simp only at g1 g2 g3 g4 g5 hRi b1 b2 b3 b4
   have hxy := mul_small (a := X) (b := Y) (by omega) b2 (by omega) b4
   obtain ⟨P, hP⟩ : ∃ P, X * Y = P := ⟨_, rfl⟩
   rw [hP] at hxy hRi
   have w1 : IntKind.i64.wrap (X * Y) = P := by rw [hP, IntKind.wrap_i64]; omega
   have q1 := (B.refl wo).alloc #[.string N, .int .i64 X, .int .i64 Y, .int .i64 Z, .slice so sn sc] 33
   have oW := obj_new wo (.cells #[.string N, .int .i64 X, .int .i64 Y, .int .i64 Z, .slice so sn sc] 33)
   obtain ⟨W1, hW1⟩ : ∃ W1, wo.alloc (.cells #[.string N, .int .i64 X, .int .i64 Y, .int .i64 Z, .slice so sn sc] 33) = W1 := ⟨_, rfl⟩
   rw [hW1] at oW q1
   have oE2 := q1.obj oE1
   have hElt := obj_lt oE1
   have p0 : W1.cell? ⟨wo.heap.size, 0, none⟩ = some (.string N) := obj_cell oW 0
   have p1 : W1.cell? ⟨wo.heap.size, 1, none⟩ = some (.int .i64 X) := obj_cell oW 1
   have p2 : W1.cell? ⟨wo.heap.size, 2, none⟩ = some (.int .i64 Y) := obj_cell oW 2
   have HL := Lib.hid hl
   clear hF e1 g6 hb hi hl hR oD1 oE1
   by_cases hlt : K < P
   ·have hltB : decide (K < P) = true := decide_eq_true hlt
    rw [if_pos hlt] at hRi
    have y0 : ¬ Y = 0 := by omega
    have dv : IntKind.i64.wrap (K.tdiv Y) = K / Y := by
     rw [Int.tdiv_eq_ediv_of_nonneg hK0, IntKind.wrap_i64]
     have := Int.ediv_le_self Y hK0
     have := Int.ediv_nonneg hK0 (by omega : 0 ≤ Y)
     unfold I64 at hK
     omega
    have rv : IntKind.i64.wrap (K.tmod Y) = K % Y := by
     rw [Int.tmod_eq_emod_of_nonneg hK0, IntKind.wrap_i64]
     have := Int.emod_lt_of_pos K (by omega : 0 < Y)
     have := Int.emod_nonneg K (by omega : Y ≠ 0)
     omega
    have dv' : K.tdiv Y = K / Y := Int.tdiv_eq_ediv_of_nonneg hK0
    have rv' : K.tmod Y = K % Y := Int.tmod_eq_emod_of_nonneg hK0
    have r0 : W1.cell? ⟨E, 0, none⟩ = some (.string ⟨#[]⟩) := obj_cell oE2 0
    have r1 : W1.cell? ⟨E, 1, none⟩ = some (.int .i64 0) := obj_cell oE2 1
    have r2 : W1.cell? ⟨E, 2, none⟩ = some (.int .i64 0) := obj_cell oE2 2
    have f0 := obj_free oE2 0
    have f1 := obj_free oE2 1
    have f2 := obj_free oE2 2
    have hEw : ¬ E = wo.heap.size := by omega
    have hwE : ¬ wo.heap.size = E := by omega
    have oF := obj_three oE2 (.string N) (.int .i64 (K / Y)) (.int .i64 (K % Y))
    have hqF := b_three (B1.trans q1) hEg (.string N) (.int .i64 (K / Y)) (.int .i64 (K % Y))
    have HX := Lib.hid (And.intro hRi (And.intro oF hqF))
    clear hRi oF hqF hP hxy hlt oW oE2 q1 B1 hQ hBi oD oE
    rw [dv'] at dv
    rw [rv'] at rv
    generalize K / Y = QQ at *
    generalize K % Y = MM at *
    go_wp2_with fail
    try rw [hW1]
    generalize wo.heap.size = G at *
    have p0' : W1.drew.cell? ⟨G, 0, none⟩ = some (.string N) := p0
    have p2' : W1.drew.cell? ⟨G, 2, none⟩ = some (.int .i64 Y) := p2
    have r0' : W1.drew.cell? ⟨E, 0, none⟩ = some (.string ⟨#[]⟩) := r0
    have r1' : W1.drew.cell? ⟨E, 1, none⟩ = some (.int .i64 0) := r1
    have r2' : W1.drew.cell? ⟨E, 2, none⟩ = some (.int .i64 0) := r2
    have f0' : W1.drew.frozen? ⟨E, 0, none⟩ = false := f0
    have f1' : W1.drew.frozen? ⟨E, 1, none⟩ = false := f1
    have f2' : W1.drew.frozen? ⟨E, 2, none⟩ = false := f2
    go_region
    all_goals
     go_wp2
     obtain ⟨hRi, oF, hqF⟩ := HX.out
     have z0 := obj_cell oF 0
     have z1 := obj_cell oF 1
     have z2 := obj_cell oF 2
     exact bodyPost_ret (v := .tuple #[.agg #[.string N, .int .i64 QQ, .int .i64 MM], .bool true]) (by simp [results, Tryz.results22, go_sem, z0, z1, z2]) rfl ⟨by rw [hRi]; rfl, hqF.drew⟩
   ·have hltB : decide (K < P) = false := decide_eq_false hlt
    rw [if_neg hlt] at hRi
    have w2 : IntKind.i64.wrap (K - P) = K - P := by rw [IntKind.wrap_i64]; unfold I64 at hK; omega
    have hK2 : I64 (K - P) := by unfold I64 at hK ⊢; omega
    have HX := Lib.hid (And.intro hRi (And.intro hK2 (hBi.trans q1)))
    clear hRi hK2 hP hxy hlt oW oE2 q1 B1 hQ hBi oD oE hK
    go_wp2
    go_roundw
    case rel =>
     obtain ⟨h1, h2, h3⟩ := HX.out
     have hl := HL.out
     exact ⟨i + 1, K - P, by omega, by go_num, rfl, h2, h1, h3⟩
    case measure => have := HL.out; simp [intOf]; omega
  ·have hnone : RR = none := by
    rw [hRi]
    by_cases hl : i < d.ws.length
    ·exact at_neg (by omega) _
    ·rw [List.drop_eq_nil_of_le (by omega)]; rfl
   have r0 : wo.cell? ⟨E, 0, none⟩ = some (.string ⟨#[]⟩) := obj_cell oE1 0
   have r1 : wo.cell? ⟨E, 1, none⟩ = some (.int .i64 0) := obj_cell oE1 1
   have r2 : wo.cell? ⟨E, 2, none⟩ = some (.int .i64 0) := obj_cell oE1 2
   have f0 := obj_free oE1 0
   have f1 := obj_free oE1 1
   have f2 := obj_free oE1 2
   have oF := obj_three oE1 (.string ⟨#[]⟩) (.int .i64 0) (.int .i64 0)
   have hqF := b_three B1 hEg (.string ⟨#[]⟩) (.int .i64 0) (.int .i64 0)
   have HX := Lib.hid (And.intro hnone (And.intro oF hqF))
   have hor : (decide ((i : Int) < (d.ws.length : Int)) = false ∧ decide (i < d.ws.length) = false) ∨ (decide ((i : Int) < (d.ws.length : Int)) = true ∧ decide (i < d.ws.length) = true ∧ decide ((0 : Int) ≤ K) = false) := by
    by_cases hl : i < d.ws.length
    ·exact .inr ⟨decide_eq_true (by omega), decide_eq_true hl, decide_eq_false (by omega)⟩
    ·exact .inl ⟨decide_eq_false (by omega), decide_eq_false hl⟩
   clear hRi hnone oF hqF hgo hR hb hK hi oD oE oD1 oE1 B1 hQ hBi
   rcases hor with ⟨hA, hB⟩ | ⟨hA, hA', hB⟩
   all_goals
    go_wp2
    obtain ⟨hnone, oF, hqF⟩ := HX.out
    have z0 := obj_cell oF 0
    have z1 := obj_cell oF 1
    have z2 := obj_cell oF 2
    exact bodyPost_ret (v := .tuple #[.agg #[.string ⟨#[]⟩, .int .i64 0, .int .i64 0], .bool false]) (by simp [results, Tryz.results22, go_sem, z0, z1, z2]) rfl ⟨by rw [hnone]; rfl, hqF⟩
end Go.Proofs.YthlileddhgglnaaGreatDoor
