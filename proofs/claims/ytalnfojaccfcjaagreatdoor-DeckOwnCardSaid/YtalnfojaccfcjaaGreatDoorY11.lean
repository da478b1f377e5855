/-
 Contracts and what they rest on.
-/
import Derived.DeepKeys4
import Derived.Lib.MinMax
import Derived.Test.YtalnfojaccfcjaaGreatDoorY10
namespace Go.Proofs.YtalnfojaccfcjaaGreatDoor
open Go.RowKit
set_option linter.unusedVariables false
section
variable {P : Bp} {n : Nat} {E : List Ent} {X : List Th}
structure Asked (P : Bp) (n : Nat) (E : List Ent) (x : Th) (sl : Value) (w w' : World) (e0 : Ent) (E' : List Ent) : Prop where
 obj : w'.heap[x.b]? = some (.cells #[.int .i64 x.i, sl, .int .u32 0, .int .i32 1, .int .u32 0, e0.p] 169 (0, 0))
 mem : e0 ∈ E'
 l : e0.l = x.l
 E : E' = E ∨ (∀ e ∈ E, e.l ≠ x.l) ∧ w.heap.size ≤ e0.b ∧ E' = E ++ [e0]
 cache : CacheC CTab w' P.c P.bm P.base (n + 1) E'
 g : G (fun i => i = P.c ∨ i = P.bm ∨ i = x.b) w w'
theorem cache_thing {w w' : World} {x : Th} (hC : CacheC CTab w P.c P.bm P.base n E) (hb : P.base ≤ x.b) (hE : ∀ e ∈ E, x.b < e.b) (q : G (fun i => i = x.b) w w') : CacheC CTab w' P.c P.bm P.base n E :=
 CacheM.apartG hC q (fun i hi => by
  subst hi
  have h1 := hC.lt
  have h2 := hC.lb
  refine ⟨by omega, by omega, fun e he => ?_⟩
  have h3 := hE e he
  have h4 := (hC.ents e he).ord
  exact ⟨by omega, by omega⟩)
set_option maxRecDepth 100000 in
set_option maxHeartbeats 1600000 in
theorem asked_any (W0 w : World) (x : Th) (sl : Value) (hW : B W0 w) (hp : Pow10 W0) (hbm : W0.heap.size ≤ P.bm) (hC : CacheC CTab w P.c P.bm P.base n E) (hn : n < 1000000) (hE : E.length < 1000000) (hb : P.base ≤ x.b) (hEb : ∀ e ∈ E, x.b < e.b) (hv : IsSecs w sl x.l) (hr : rightS x.l = true)
  (ho : w.heap[x.b]? = some (.cells #[.int .i64 x.i, sl, .int .u32 0, .int .i32 1, .int .u32 0, .pointer none] 169 (0, 0))) (tB xB : Nat) (ht : w.cell? ⟨tB, 0, none⟩ = some (.pointer (some ⟨P.c, 0, none⟩))) (hx : w.cell? ⟨xB, 0, none⟩ = some (.pointer (some ⟨x.b, 0, none⟩))) :
  Calls Tryz.prog 118 #[.pointer (some ⟨tB, 0, none⟩), .pointer (some ⟨xB, 0, none⟩)] w fun e w' => e = .returned (.tuple #[]) ∧ ∃ e0 E', Asked P n E x sl w w' e0 E' := by
 have hlt := obj_lt ho
 have hcb := hC.lt
 have hbb := hC.lb
 have cT : ∀ w', B w w' → w'.heap.size = w.heap.size → Calls Tryz.prog 119 #[.pointer (some ⟨P.c, 0, none⟩), sl] w' fun e w'' => ∃ (p : Nat) (e0 : Ent) (E' : List Ent), e = .returned (.tuple #[.pointer (some ⟨p, 0, none⟩), .int .i64 0]) ∧ e0.p = .pointer (some ⟨p, 0, none⟩) ∧ e0 ∈ E' ∧ e0.l = x.l ∧
   (E' = E ∨ (∀ e ∈ E, e.l ≠ x.l) ∧ w.heap.size ≤ e0.b ∧ E' = E ++ [e0]) ∧ CacheC CTab w'' P.c P.bm P.base (n + 1) E' ∧ G (CS P.c P.bm) w w'' := fun w' q hs => by
  refine (ctable_yes (BB := W0.heap.size) ofN_code w' sl x.l (CacheM.keepB hC q) hn hE (hv.keepB q) hr (hp.on (hW.trans q).below) hbm).mono ?_
  rintro e w'' ⟨E', e0, rfl, h1, h2, h3, h4, h5⟩
  obtain ⟨p, hpp, _, _⟩ := (h4.ents e0 h1).tab.at_
  exact ⟨p, e0, E', by rw [hpp], hpp, h1, h2, by rw [← hs]; exact h3, h4, (q.g _).trans h5⟩
 have o0 := ho
 have oc1 := obj_cell ho 1
 have noX : ¬ CS P.c P.bm x.b := by rintro (h | h) <;> omega
 have nX : ¬ xB = P.c ∧ ¬ xB = P.bm := by
  refine ⟨fun e => ?_, fun e => ?_⟩
  ·subst e
   rw [obj_cell hC.obj] at hx
   cases hx
  ·subst e
   obtain ⟨D, ⟨es, cl, hm, _⟩, _⟩ := hC.map
   rw [obj_map hm] at hx
   cases hx
 have nT : ¬ tB = P.c ∧ ¬ tB = P.bm := by
  refine ⟨fun e => ?_, fun e => ?_⟩
  ·subst e
   rw [obj_cell hC.obj] at ht
   cases ht
  ·subst e
   obtain ⟨D, ⟨es, cl, hm, _⟩, _⟩ := hC.map
   rw [obj_map hm] at ht
   cases ht
 have ntB : ¬ CS P.c P.bm tB := by rintro (h | h); exact nT.1 h; exact nT.2 h
 have nxB : ¬ CS P.c P.bm xB := by rintro (h | h); exact nX.1 h; exact nX.2 h
 obtain ⟨so, sm, sc, rfl⟩ := hv.form
 have HE := Lib.hid hEb
 have HC := Lib.hid hC
 go_enter Tryz.func118, Tryz.ntmps118
 clear hC hv hr hp hW hbm hE hEb
 go_wp2_with fail
 refine wp_region_noPanic ?_
 refine wp_region_gate (S := fun w' => w'.cell? ⟨xB, 0, none⟩ = some (.pointer (some ⟨x.b, 0, none⟩)) ∧ w'.cell? ⟨tB, 0, none⟩ = some (.pointer (some ⟨P.c, 0, none⟩)) ∧ w'.cell? ⟨x.b, 1, none⟩ = some (.slice so sm sc)) 12 [(0, 0), (1, 0), (2, 0), (3, 3), (4, 3), (5, 0), (6, 2), (7, 3), (8, 3), (9, 3), (10, 3), (11, 3), (12, 4)] [0, 0, 0, 4, 8, 16, 34, 64, 128, 128, 511, 1535, 2559] [0, 0, 0, 4, 8, 16, 34, 64, 128, 128, 1, 1024, 2304] [7169, 8130, 8188, 0, 0, 8160, 0, 0, 0, 0, 0, 0, 0] (by kernel_rfl) (by kernel_rfl) (fun _ _ _ _ _ h => h) ?_ (fun hH => ?_)
 ·exact ⟨(B.refl w).drew.keep hx, (B.refl w).drew.keep ht, (B.refl w).drew.keep oc1⟩
 refine wpSeqG_take (d := 3) (v := ?_) rfl rfl (by kernel_rfl) (fun w hS => ?_) ?_
 rotate_left
 ·go_simp <;> with_reducible rfl
 dsimp only [sZ, sS]
 refine wpSeqG_take (d := 4) (v := ?_) rfl rfl (by kernel_rfl) (fun w hS => ?_) ?_
 rotate_left
 ·go_simp <;> with_reducible rfl
 dsimp only [sZ, sS]
 refine wpSeqG_take (d := 5) (v := ?_) rfl rfl (by kernel_rfl) (fun w hS => ?_) ?_
 rotate_left
 ·go_simp <;> with_reducible rfl
 dsimp only [sZ, sS]
 refine wpSeqG_free (d := 6) (v := ?_) rfl rfl (by kernel_rfl) (fun w => ?_) ?_
 rotate_left
 ·go_simp <;> with_reducible rfl
 dsimp only [sZ, sS]
 refine wpSeqG_free (d := 7) (v := ?_) rfl rfl (by kernel_rfl) (fun w => ?_) ?_
 rotate_left
 ·go_simp <;> with_reducible rfl
 dsimp only [sZ, sS]
 refine wpSeqG_take (d := 8) (v := ?_) rfl rfl (by kernel_rfl) (fun w hS => ?_) ?_
 rotate_left
 ·go_simp <;> with_reducible rfl
 dsimp only [sZ, sS]
 refine wpSeqG_call rfl (by kernel_rfl) (fun K hK => ?_)
 go_simp
 (with_reducible refine (cT _ ((B.refl w).drew) rfl).mono ?_)
 rintro e w1 ⟨p, e0, E', rfl, hpp, hm, hl, hEE, hC1, hg⟩
 have o1 := hg.obj noX o0
 have y5 := obj_cell o1 5
 have f5 := obj_free o1 5
 refine hK.out _ _ ?_ (fun hH => ?_)
 ·exact ⟨hg.keep (p := ⟨xB, 0, none⟩) nxB hx, hg.keep (p := ⟨tB, 0, none⟩) ntB ht, obj_cell o1 1⟩
 clear hK
 refine wpSeqG_free (d := 2) (v := ?_) rfl rfl (by kernel_rfl) (fun w => ?_) ?_
 rotate_left
 ·go_simp <;> with_reducible rfl
 dsimp only [sZ, sS]
 refine wpSeqG_free (d := 10) (v := ?_) rfl rfl (by kernel_rfl) (fun w => ?_) ?_
 rotate_left
 ·go_simp <;> with_reducible rfl
 dsimp only [sZ, sS]
 refine wpSeqG_free (d := 11) (v := ?_) rfl rfl (by kernel_rfl) (fun w => ?_) ?_
 rotate_left
 ·go_simp <;> with_reducible rfl
 dsimp only [sZ, sS]
 refine wpSeqG_free (d := 12) (v := ?_) rfl rfl (by kernel_rfl) (fun w => ?_) ?_
 rotate_left
 ·go_simp <;> with_reducible rfl
 dsimp only [sZ, sS]
 refine wpSeqG_free (d := 13) (v := ?_) rfl rfl (by kernel_rfl) (fun w => ?_) ?_
 rotate_left
 ·go_simp <;> with_reducible rfl
 dsimp only [sZ, sS]
 refine wpSeqG_gate rfl (by kernel_rfl) (fun K hK => ?_)
 go_simp
 refine hK.out _ _ ?_
 clear hK
 refine wpSeqG_done ?_
 refine NoPanic.normal ?_
 all_goals
  have o2 := obj_set o1 5 (.pointer (some ⟨p, 0, none⟩))
  have g2 := one_own w1 x.b 5 (.pointer (some ⟨p, 0, none⟩))
  have hC2 := cache_thing hC1 hb (fun e he => by
   rcases hEE with rfl | ⟨_, h9, rfl⟩
   ·exact HE.out e he
   ·rcases List.mem_append.1 he with he | he
    ·exact HE.out e he
    ·obtain rfl := List.mem_singleton.1 he
     omega) g2
  have HZ := Lib.hid (show Asked P n E x (.slice so sm sc) w (w1.setCell ⟨x.b, 5, none⟩ (.pointer (some ⟨p, 0, none⟩))) e0 E' from ⟨by rw [o2, hpp]; rfl, hm, hl, hEE, hC2, (hg.mono (fun i _ h => by rcases h with h | h; exact .inl h; exact .inr (.inl h))).trans (g2.mono (fun i _ h => .inr (.inr h)))⟩)
  go_wp2
  go_end0
  exact ⟨rfl, e0, E', HZ.out⟩
end
end Go.Proofs.YtalnfojaccfcjaaGreatDoor
namespace Go.Proofs.YtalnfojaccfcjaaGreatDoor
open Go.RowKit
set_option linter.unusedVariables false
def Ext (B0 : Nat) (E E' : List Ent) (l : List Sec) (e0 : Ent) : Prop := e0 ∈ E' ∧ e0.l = l ∧ (E' = E ∨ (∀ e ∈ E, e.l ≠ l) ∧ B0 ≤ e0.b ∧ E' = E ++ [e0])
theorem Ext.shapes {B0 : Nat} {E E' : List Ent} {l : List Sec} {e0 : Ent} (h : Ext B0 E E' l e0) : E'.map (·.l) = addSh (E.map (·.l)) l := by
 obtain ⟨h1, rfl, h3⟩ := h
 unfold addSh
 rcases h3 with rfl | ⟨h4, _, rfl⟩
 ·rw [if_pos]
  rw [List.any_eq_true]
  exact ⟨e0.l, List.mem_map.2 ⟨e0, h1, rfl⟩, by simp⟩
 ·rw [if_neg]
  ·simp
  ·rw [List.any_eq_true]
   rintro ⟨y, hy, hd⟩
   obtain ⟨e, he, rfl⟩ := List.mem_map.1 hy
   exact h4 e he (of_decide_eq_true hd)
theorem Ext.more {B0 : Nat} {E E' : List Ent} {l : List Sec} {e0 : Ent} (h : Ext B0 E E' l e0) : ∀ e ∈ E, e ∈ E' := fun e he => by
 rcases h.2.2 with rfl | ⟨_, _, rfl⟩
 ·exact he
 ·exact List.mem_append_left _ he
section
variable {P : Bp} {n : Nat} {E : List Ent} {X : List Th}
theorem BoardM.Sx {w : World} (h : BoardM P w n E X) {x : Th} (hx : x ∈ X) : ∀ i, (i = P.c ∨ i = P.bm ∨ i = x.b) → P.S i := fun i hi => by
 rcases hi with h1 | h1 | rfl
 ·exact .inl h1
 ·exact .inr (.inl h1)
 ·refine .inr (.inr ?_)
  rw [← h.bX]
  exact List.mem_map.2 ⟨x, hx, rfl⟩
set_option maxRecDepth 100000 in
set_option maxHeartbeats 1600000 in
theorem thtab_any (W0 w : World) (hW : B W0 w) (hp : Pow10 W0) (hbm : W0.heap.size ≤ P.bm) (h : BoardM P w n E X) (k : Nat) (x : Th) (hx : X[k]? = some x) :
  Calls Tryz.prog 85 #[.pointer (some ⟨x.b, 0, none⟩), .pointer (some ⟨P.c, 0, none⟩)] w fun r w' => ∃ (p : Nat) (e0 : Ent) (n' : Nat) (E' : List Ent) (X' : List Th), r = .returned (.pointer (some ⟨p, 0, none⟩)) ∧ e0.p = .pointer (some ⟨p, 0, none⟩) ∧
   Ext w.heap.size E E' x.l e0 ∧ BoardM P w' n' E' X' ∧ G P.S w w' := by
 have hxm := List.mem_of_getElem? hx
 have hT := h.things x hxm
 have hxb := h.blt x hxm
 have hn := h.n12
 have hfew := h.few
 have htop := h.top
 have h1 := h.cache.lt
 have h2 := h.cache.lb
 have h4 := h.bamw
 have h5 := h.mwmt
 have h6 := h.mtb
 have qa : B w ((w.alloc (.cells #[.pointer (some ⟨x.b, 0, none⟩)] 156)).alloc (.cells #[.pointer (some ⟨P.c, 0, none⟩)] 151)) := ((B.refl w).alloc _ _).alloc _ _
 have hM := h.keepB qa
 have a0 : ((w.alloc (.cells #[.pointer (some ⟨x.b, 0, none⟩)] 156)).alloc (.cells #[.pointer (some ⟨P.c, 0, none⟩)] 151)).cell? ⟨w.heap.size, 0, none⟩ = some (.pointer (some ⟨x.b, 0, none⟩)) := obj_cell (obj_past (obj_new w _) _) 0
 have a1 : ((w.alloc (.cells #[.pointer (some ⟨x.b, 0, none⟩)] 156)).alloc (.cells #[.pointer (some ⟨P.c, 0, none⟩)] 151)).cell? ⟨w.heap.size + 1, 0, none⟩ = some (.pointer (some ⟨P.c, 0, none⟩)) := by
  have := obj_new (w.alloc (.cells #[.pointer (some ⟨x.b, 0, none⟩)] 156)) (.cells #[.pointer (some ⟨P.c, 0, none⟩)] 151)
  have s1 : (w.alloc (.cells #[.pointer (some ⟨x.b, 0, none⟩)] 156)).heap.size = w.heap.size + 1 := by simp
  rw [s1] at this
  exact obj_cell this 0
 obtain ⟨o, m, c, hob, hsec⟩ := (hM.things x hxm).obj
 have hxlt : x.b < w.heap.size := by omega
 go_enter Tryz.func85, Tryz.ntmps85
 go_wp2_with fail
 generalize (w.alloc (.cells #[.pointer (some ⟨x.b, 0, none⟩)] 156)).alloc (.cells #[.pointer (some ⟨P.c, 0, none⟩)] 151) = w2 at *
 have hin : ∀ args w, (callFunc 118 args).run Tryz.prog w = .ok (.enter 118 args) w := enters_of Tryz.func118 (by kernel_rfl) rfl
 cases hxp : x.p with
 | some p =>
  obtain ⟨e0, he, hep, hel⟩ := hT.made p hxp
  obtain ⟨pb, hpb, _, _⟩ := (h.cache.ents e0 he).tab.at_
  have hpp : p = .pointer (some ⟨pb, 0, none⟩) := hep ▸ hpb
  have ob2 : w2.heap[x.b]? = some (.cells #[.int .i64 x.i, .slice o m c, .int .u32 1, .int .i32 0, .int .u32 0, .pointer (some ⟨pb, 0, none⟩)] 169 (0, 0)) := by
   rw [hob]; unfold Th.cells; rw [hxp, hpp]
  have d0 := obj_cell ob2 2
  have d5 := obj_cell ob2 5
  have HZ := Lib.hid (And.intro (show Ext w.heap.size E E x.l e0 from ⟨he, hel, .inl rfl⟩) (And.intro hM (qa.g P.S)))
  have HP := Lib.hid hpb
  clear hpp hpb hep hel he hM hob hsec hT h ob2 hxp hx hxm
  go_wp2_with (go_at_call 117; refine (do_done x.b 2 _ _ d0).mono ?_; rintro e w3 ⟨rfl, rfl⟩)
  go_ret
  exact ⟨pb, e0, n, E, X, rfl, HP.out, HZ.out.1, HZ.out.2.1, HZ.out.2.2⟩
 | none =>
  have ob2 : w2.heap[x.b]? = some (.cells #[.int .i64 x.i, .slice o m c, .int .u32 0, .int .i32 0, .int .u32 0, .pointer none] 169 (0, 0)) := by
   rw [hob]; unfold Th.cells; rw [hxp]
  have gs := one_own w2 x.b 3 (.int .i32 1)
  have ob3 := obj_set ob2 3 (.int .i32 1)
  have entb : ∀ e ∈ E, x.b < e.b := fun e he => by have := h.ents e he; omega
  have hC3 := cache_thing hM.cache (by omega) entb gs
  have sec3 := (gs.held hsec (fun i _ h9 e => by have := h.hibm; omega)).now
  have nA : ¬ w.heap.size = x.b := by omega
  have nB : ¬ w.heap.size + 1 = x.b := by omega
  have hA := asked_any (P := P) W0 (w2.setCell ⟨x.b, 3, none⟩ (.int .i32 1)) x (.slice o m c) ((hW.trans qa).setCell (p := ⟨x.b, 3, none⟩) (by show W0.heap.size ≤ x.b; omega) _) hp hbm hC3 (by omega) (by omega) (by omega) entb sec3 hT.right (by simpa using ob3) (w.heap.size + 1) w.heap.size (gs.keep nB a1) (gs.keep nA a0)
  have hD := do11_first x.b 2 #[.pointer (some ⟨w.heap.size + 1, 0, none⟩), .pointer (some ⟨w.heap.size, 0, none⟩)] _ w2 (obj_cell ob2 2) (obj_cell ob2 3) (obj_free ob2 3) hA (fun w' ⟨e0, E', h9⟩ => by
   refine ⟨?_, ?_, obj_free h9.obj 2, obj_free h9.obj 3⟩
   ·rw [obj_cell h9.obj]; rfl
   ·rw [obj_cell h9.obj]; rfl)
  have hEnd : ∀ w8 e0 E', Asked P n E x (.slice o m c) (w2.setCell ⟨x.b, 3, none⟩ (.int .i32 1)) w8 e0 E' → ∃ p, e0.p = .pointer (some ⟨p, 0, none⟩) ∧ ((w8.drew.setCell ⟨x.b, 2, none⟩ (.int .u32 1)).setCell ⟨x.b, 3, none⟩ (.int .i32 0)).cell? ⟨x.b, 5, none⟩ = some (.pointer (some ⟨p, 0, none⟩)) ∧
    ((w8.drew.setCell ⟨x.b, 2, none⟩ (.int .u32 1)).setCell ⟨x.b, 3, none⟩ (.int .i32 0)).cell? ⟨w.heap.size, 0, none⟩ = some (.pointer (some ⟨x.b, 0, none⟩)) ∧
    Ext w.heap.size E E' x.l e0 ∧ BoardM P ((w8.drew.setCell ⟨x.b, 2, none⟩ (.int .u32 1)).setCell ⟨x.b, 3, none⟩ (.int .i32 0)) (n + 1) E' (X.set k { x with p := some e0.p }) ∧ G P.S w ((w8.drew.setCell ⟨x.b, 2, none⟩ (.int .u32 1)).setCell ⟨x.b, 3, none⟩ (.int .i32 0)) := by
   intro w8 e0 E' hk
   obtain ⟨pb, hpb, _, _⟩ := (hk.cache.ents e0 hk.mem).tab.at_
   have o8 : w8.drew.heap[x.b]? = _ := hk.obj
   have o9 := obj_set (obj_set o8 2 (.int .u32 1)) 3 (.int .i32 0)
   have g89 : G (fun i => i = x.b) w8 ((w8.drew.setCell ⟨x.b, 2, none⟩ (.int .u32 1)).setCell ⟨x.b, 3, none⟩ (.int .i32 0)) := G.setCell (S := fun i => i = x.b) (p := ⟨x.b, 3, none⟩) (G.setCell (S := fun i => i = x.b) (p := ⟨x.b, 2, none⟩) (G.refl _ _).drew (.inl rfl) _) (.inl rfl) _
   have s3 : (w2.setCell ⟨x.b, 3, none⟩ (.int .i32 1)).heap.size = w2.heap.size := by simp [World.setCell]
   have qs := qa.below.size
   have gall : G (fun i => i = P.c ∨ i = P.bm ∨ i = x.b) w2 ((w8.drew.setCell ⟨x.b, 2, none⟩ (.int .u32 1)).setCell ⟨x.b, 3, none⟩ (.int .i32 0)) := ((gs.mono (fun _ _ h => .inr (.inr h))).trans hk.g).trans (g89.mono (fun _ _ h => .inr (.inr h)))
   have hEb : ∀ e ∈ E', x.b < e.b := fun e he => by
    rcases hk.E with h9 | ⟨_, h9, h10⟩
    ·rw [h9] at he; exact entb e he
    ·rw [h10] at he
     rcases List.mem_append.1 he with he | he
     ·exact entb e he
     ·obtain rfl := List.mem_singleton.1 he
      omega
   have hC9 := cache_thing hk.cache (by omega) hEb g89
   have o9' : ((w8.drew.setCell ⟨x.b, 2, none⟩ (.int .u32 1)).setCell ⟨x.b, 3, none⟩ (.int .i32 0)).heap[x.b]? = some (.cells #[.int .i64 x.i, .slice o m c, .int .u32 1, .int .i32 0, .int .u32 0, e0.p] 169 (0, 0)) := by simpa using o9
   have hE9 : E' = E ∨ (∀ e ∈ E, e.l ≠ x.l) ∧ w2.heap.size ≤ e0.b ∧ E' = E ++ [e0] := by
    rcases hk.E with h9 | ⟨h9, h10, h11⟩
    ·exact .inl h9
    ·exact .inr ⟨h9, by omega, h11⟩
   refine ⟨pb, hpb, ?_, gall.keep (p := ⟨w.heap.size, 0, none⟩) (by rintro (h9 | h9 | h9) <;> simp only at h9 <;> omega) a0, ⟨hk.mem, hk.l, ?_⟩, hM.made hx hxp gall o9' hsec hC9 hk.mem hk.l hE9, (qa.g P.S).trans (gall.mono (fun i _ hi => h.Sx hxm i hi))⟩
   ·rw [obj_cell o9', ← hpb]; rfl
   ·rcases hE9 with h9 | ⟨h9, h10, h11⟩
    ·exact .inl h9
    ·exact .inr ⟨h9, by omega, h11⟩
  have HE := Lib.hid hEnd
  clear hEnd hA hC3 sec3 entb gs ob3 ob2 hxp hM hob hsec hT h hx hxm
  go_wp2_with (go_at_call 117; refine hD.mono ?_; rintro e w9 ⟨rfl, w8, ⟨e0, E', hm⟩, rfl⟩; obtain ⟨pb, hpb, y5, yA, y1, y2, y3⟩ := HE.out w8 e0 E' hm; have Y1 := Lib.hid (And.intro hpb (And.intro y1 (And.intro y2 y3))); clear hpb y1 y2 y3 hm; generalize (w8.drew.setCell ⟨x.b, 2, none⟩ (.int .u32 1)).setCell ⟨x.b, 3, none⟩ (.int .i32 0) = w9 at *)
  go_ret
  exact ⟨pb, e0, n + 1, E', _, rfl, Y1.out.1, Y1.out.2.1, Y1.out.2.2.1, Y1.out.2.2.2⟩
end
end Go.Proofs.YtalnfojaccfcjaaGreatDoor
namespace Go.Proofs.YtalnfojaccfcjaaGreatDoor
open Go.RowKit
theorem IsDk.forms {w : World} {wv tv fv : Value} {d : Dk} (h : IsDk w wv tv fv d) : ∃ ao ac bo bc co cc, wv = .slice ao d.ws.length ac ∧ tv = .slice bo d.ts.length bc ∧ fv = .slice co d.fs.length cc := by
 obtain ⟨ao, ac, h1⟩ := h.ws.form
 obtain ⟨bo, bc, h2⟩ := h.ts.form
 obtain ⟨co, cc, h3⟩ := h.fs.form
 exact ⟨ao, ac, bo, bc, co, cc, h1, h2, h3⟩
theorem named_yes {ws : List Wr} {s : ByteArray} {i : Nat} (hi : i < ws.length) (h : ((ws[i]).n.toList == s.toList) = true) : namedW ws s = true := List.any_eq_true.2 ⟨_, List.getElem_mem hi, h⟩
theorem named_no {ws : List Wr} {s : ByteArray} (h : ∀ i (hi : i < ws.length), ((ws[i]).n.toList == s.toList) = false) : namedW ws s = false := by
 refine List.any_eq_false.2 fun x hx => ?_
 obtain ⟨i, hi, rfl⟩ := List.getElem_of_mem hx
 rw [h i hi]
 decide
end Go.Proofs.YtalnfojaccfcjaaGreatDoor
namespace Go.Proofs.YtalnfojaccfcjaaGreatDoor
open Go.RowKit
set_option linter.unusedVariables false
set_option maxRecDepth 100000 in
set_option maxHeartbeats 4000000 in
theorem copied_any (wv tv fv : Value) (d : Dk) (w : World) (h : IsDk w wv tv fv d) (hw100 : ∀ r ∈ d.ws, r.l.length ≤ 1000000) (ht100 : ∀ r ∈ d.ts, r.l.length ≤ 1000000) (hw9 : d.ws.length ≤ 1000000) (ht9 : d.ts.length ≤ 1000000) (hf9 : d.fs.length ≤ 1000000) :
  Calls Tryz.prog 79 #[.agg #[wv, tv, fv]] w fun e w' => ∃ o1 c1 o2 c2 o3 c3 ss tt, e = .returned (.agg #[.slice o1 d.ws.length c1, .slice o2 d.ts.length c2, .slice o3 d.fs.length c3]) ∧ OwnD w' w.heap.size (.slice o1 d.ws.length c1) (.slice o2 d.ts.length c2) (.slice o3 d.fs.length c3) d ss tt ∧ B w w' := by
 obtain ⟨ao, ac, bo, bc, co, cc, rfl, rfl, rfl⟩ := h.forms
 obtain ⟨vsw, hvw1, hvw2, hvw3⟩ := recs_vs h.ws
 obtain ⟨vst, hvt1, hvt2, hvt3⟩ := recs_vs h.ts
 have hwi : ∀ r ∈ d.ws, ∀ s ∈ r.l, s.I := fun r hr => by
  obtain ⟨i, hi, e⟩ := List.getElem_of_mem hr
  have := hvw2 i r _ (by rw [List.getElem?_eq_getElem hi, e]) (List.getElem?_eq_getElem (by omega))
  exact secs_I this
 have hti : ∀ r ∈ d.ts, ∀ s ∈ r.l, s.I := fun r hr => by
  obtain ⟨i, hi, e⟩ := List.getElem_of_mem hr
  have := hvt2 i r _ (by rw [List.getElem?_eq_getElem hi, e]) (List.getElem?_eq_getElem (by omega))
  exact secs_I this
 have hone1 := vs_one hvw1 hvw2
 have hone2 := vs_one hvt1 hvt2
 have hfs := h.fs
 obtain ⟨XW, hXW⟩ : ∃ XW, flatR d.ws vsw = XW := ⟨_, rfl⟩
 obtain ⟨XT, hXT⟩ : ∃ XT, flatR d.ts vst = XT := ⟨_, rfl⟩
 obtain ⟨XF, hXF⟩ : ∃ XF, flatF d.fs = XF := ⟨_, rfl⟩
 have qa : B w ((w.alloc (.cells #[.slice ao d.ws.length ac, .slice bo d.ts.length bc, .slice co d.fs.length cc] 26)).alloc (.cells #[.slice none 0 0, .slice none 0 0, .slice none 0 0] 26)) := ((B.refl w).alloc _ _).alloc _ _
 have oD : ((w.alloc (.cells #[.slice ao d.ws.length ac, .slice bo d.ts.length bc, .slice co d.fs.length cc] 26)).alloc (.cells #[.slice none 0 0, .slice none 0 0, .slice none 0 0] 26)).heap[w.heap.size]? = some (.cells #[.slice ao d.ws.length ac, .slice bo d.ts.length bc, .slice co d.fs.length cc] 26 (0, 0)) := obj_past (obj_new w _) _
 have oR : ((w.alloc (.cells #[.slice ao d.ws.length ac, .slice bo d.ts.length bc, .slice co d.fs.length cc] 26)).alloc (.cells #[.slice none 0 0, .slice none 0 0, .slice none 0 0] 26)).heap[w.heap.size + 1]? = some (.cells #[.slice none 0 0, .slice none 0 0, .slice none 0 0] 26 (0, 0)) := by
  have := obj_new (w.alloc (.cells #[.slice ao d.ws.length ac, .slice bo d.ts.length bc, .slice co d.fs.length cc] 26)) (.cells #[.slice none 0 0, .slice none 0 0, .slice none 0 0] 26)
  simpa using this
 have hsz : ((w.alloc (.cells #[.slice ao d.ws.length ac, .slice bo d.ts.length bc, .slice co d.fs.length cc] 26)).alloc (.cells #[.slice none 0 0, .slice none 0 0, .slice none 0 0] 26)).heap.size = w.heap.size + 2 := by simp
 go_enter Tryz.func79, Tryz.ntmps79
 go_wp2_with fail
 generalize ((w.alloc (.cells #[.slice ao d.ws.length ac, .slice bo d.ts.length bc, .slice co d.fs.length cc] 26)).alloc (.cells #[.slice none 0 0, .slice none 0 0, .slice none 0 0] 26)) = U0 at *
 generalize hD : w.heap.size = D at *
 generalize hR : D + 1 = R at *
 obtain ⟨nw, hnw⟩ : ∃ nw, d.ws.length = nw := ⟨_, rfl⟩
 obtain ⟨nt, hnt⟩ : ∃ nt, d.ts.length = nt := ⟨_, rfl⟩
 obtain ⟨nf, hnf⟩ : ∃ nf, d.fs.length = nf := ⟨_, rfl⟩
 rw [hnw, hnt, hnf] at oD
 have cW := fun w' (q : B U0 w') => lware_any (.slice ao d.ws.length ac) d.ws vsw w' (hvw3.keepB (qa.trans q)) hvw1 hone1 hw9
 have cT := fun w' (q : B U0 w') => ltip_any (.slice bo d.ts.length bc) d.ts vst w' (hvt3.keepB (qa.trans q)) hvt1 hone2 ht9
 have cF := fun w' (q : B U0 w') => lfill_any (.slice co d.fs.length cc) d.fs w' (hfs.keepB (qa.trans q)) hf9
 rw [hnw, hXW] at cW
 rw [hnt, hXT] at cT
 rw [hnf, hXF] at cF
 obtain ⟨k, hkk⟩ : ∃ k, U0.heap.size = k := ⟨_, rfl⟩
 have hk : k ≤ U0.heap.size := Nat.le_of_eq hkk.symm
 have hwk : D ≤ k := by omega
 have hRk : R < k := by omega
 have HE := Lib.hid (And.intro hwi (And.intro hti (And.intro hvw1 (And.intro hvt1 (And.intro hvw2 hvt2)))))
 rw [hnw, hnt, hnf]
 have HN := Lib.hid (And.intro hnw (And.intro hnt (And.intro hnf (And.intro hXW (And.intro hXT (And.intro hXF (And.intro hw9 (And.intro ht9 hf9))))))))
 have k0 : U0.cell? ⟨D, 0, none⟩ = some (.slice ao nw ac) := obj_cell (w := U0) oD 0
 have k1 : U0.cell? ⟨D, 1, none⟩ = some (.slice bo nt bc) := obj_cell (w := U0) oD 1
 have k2 : U0.cell? ⟨D, 2, none⟩ = some (.slice co nf cc) := obj_cell (w := U0) oD 2
 replace oR : U0.heap[R]? = some (.cells #[.slice none 0 0, .slice none 0 0, .slice none 0 0] 26 (0, 0)) := oR
 have b0 : B w U0 := qa
 clear hvw3 hvt3 hone1 hone2 hfs h hwi hti hvw1 hvt1 hvw2 hvt2 hw9 ht9 hf9 hnw hnt hnf hXW hXT hXF qa oD hsz
 refine wp_region_noPanic ?_
 refine wp_region_slots [(0, 6), (1, 7), (2, 8), (3, 9), (4, 10), (5, 11), (6, 12), (7, 13), (8, 14), (9, 15), (10, 3)] [(11, 2)] [0, 1, 2, 0, 8, 20, 0, 64, 160, 292, 0, 2047] [0, 1, 2, 0, 8, 16, 0, 64, 128, 292, 0, 1536] [0, 1, 3, 0, 8, 31, 0, 64, 255, 511, 0, 2047] 2047 [(fun v _ => v = .pointer (some ⟨D, 0, none⟩)), (fun v _ => v = .slice ao nw ac), (OwnV k 33 5 nw XW), (fun v _ => v = .pointer (some ⟨D, 1, none⟩)), (fun v _ => v = .slice bo nt bc), (OwnV k 35 5 nt XT), (fun v _ => v = .pointer (some ⟨D, 2, none⟩)), (fun v _ => v = .slice co nf cc), (OwnV k 41 4 nf XF), (OwnA k nw nt nf XW XT XF), (BoxV k)] (by kernel_rfl) (by kernel_rfl) (fun _ _ _ _ h => h) ⟨slot_val _, slot_val _, slot_own _ _ _ _ _, slot_val _, slot_val _, slot_own _ _ _ _ _, slot_val _, slot_val _, slot_own _ _ _ _ _, slot_owna _ _ _ _ _ _ _, slot_box _, trivial⟩ ⟨?_, ?_, ?_, ?_, ?_, ?_, ?_, ?_, ?_, ?_, ?_, trivial⟩ ?_
 ·intro f w' hf hB
  clear hf
  refine slot_op rfl (fun _ => rfl) (fun T hT K hK => ?_)
  simp only [putsL, List.set_cons_zero, List.set_cons_succ] at hT
  subst hT
  go_simp
  exact hK.out _ _ rfl (B.refl _)
 ·intro f w' hf hB
  have h0 := hf (0, 6) (by simp) (by rfl)
  clear hf
  have e0 : f 0 = _ := h0
  have kk := hB.keep k0
  refine slot_op rfl (fun _ => rfl) (fun T hT K hK => ?_)
  simp only [putsL, List.set_cons_zero, List.set_cons_succ, e0] at hT
  subst hT
  go_simp
  exact hK.out _ _ rfl (B.refl _)
 ·intro f w' hf hB
  have h1 := hf (1, 7) (by simp) (by rfl)
  clear hf
  have e1 : f 1 = _ := h1
  refine slot_op rfl (fun _ => rfl) (fun T hT K hK => ?_)
  simp only [putsL, List.set_cons_zero, List.set_cons_succ, e1] at hT
  subst hT
  go_simp
  (with_reducible refine (cW _ hB).mono ?_)
  rintro e w2 ⟨o, c, rfl, hown, q⟩
  exact hK.out _ _ ⟨o, c, rfl, own_low hown (Nat.le_trans hk (hB.below.size))⟩ q
 ·intro f w' hf hB
  clear hf
  refine slot_op rfl (fun _ => rfl) (fun T hT K hK => ?_)
  simp only [putsL, List.set_cons_zero, List.set_cons_succ] at hT
  subst hT
  go_simp
  exact hK.out _ _ rfl (B.refl _)
 ·intro f w' hf hB
  have h3 := hf (3, 9) (by simp) (by rfl)
  clear hf
  have e3 : f 3 = _ := h3
  have kk := hB.keep k1
  refine slot_op rfl (fun _ => rfl) (fun T hT K hK => ?_)
  simp only [putsL, List.set_cons_zero, List.set_cons_succ, e3] at hT
  subst hT
  go_simp
  exact hK.out _ _ rfl (B.refl _)
 ·intro f w' hf hB
  have h4 := hf (4, 10) (by simp) (by rfl)
  clear hf
  have e4 : f 4 = _ := h4
  refine slot_op rfl (fun _ => rfl) (fun T hT K hK => ?_)
  simp only [putsL, List.set_cons_zero, List.set_cons_succ, e4] at hT
  subst hT
  go_simp
  (with_reducible refine (cT _ hB).mono ?_)
  rintro e w2 ⟨o, c, rfl, hown, q⟩
  exact hK.out _ _ ⟨o, c, rfl, own_low hown (Nat.le_trans hk (hB.below.size))⟩ q
 ·intro f w' hf hB
  clear hf
  refine slot_op rfl (fun _ => rfl) (fun T hT K hK => ?_)
  simp only [putsL, List.set_cons_zero, List.set_cons_succ] at hT
  subst hT
  go_simp
  exact hK.out _ _ rfl (B.refl _)
 ·intro f w' hf hB
  have h6 := hf (6, 12) (by simp) (by rfl)
  clear hf
  have e6 : f 6 = _ := h6
  have kk := hB.keep k2
  refine slot_op rfl (fun _ => rfl) (fun T hT K hK => ?_)
  simp only [putsL, List.set_cons_zero, List.set_cons_succ, e6] at hT
  subst hT
  go_simp
  exact hK.out _ _ rfl (B.refl _)
 ·intro f w' hf hB
  have h7 := hf (7, 13) (by simp) (by rfl)
  clear hf
  have e7 : f 7 = _ := h7
  refine slot_op rfl (fun _ => rfl) (fun T hT K hK => ?_)
  simp only [putsL, List.set_cons_zero, List.set_cons_succ, e7] at hT
  subst hT
  go_simp
  (with_reducible refine (cF _ hB).mono ?_)
  rintro e w2 ⟨o, c, rfl, hown, q⟩
  exact hK.out _ _ ⟨o, c, rfl, own_low hown (Nat.le_trans hk (hB.below.size))⟩ q
 ·intro f w' hf hB
  have h2 := hf (2, 8) (by simp) (by rfl)
  have h5 := hf (5, 11) (by simp) (by rfl)
  have h8 := hf (8, 14) (by simp) (by rfl)
  clear hf
  obtain ⟨o1, c1, e2, r1⟩ := h2
  obtain ⟨o2, c2, e5, r2⟩ := h5
  obtain ⟨o3, c3, e8, r3⟩ := h8
  refine slot_op rfl (fun _ => rfl) (fun T hT K hK => ?_)
  simp only [putsL, List.set_cons_zero, List.set_cons_succ, e2, e5, e8] at hT
  subst hT
  go_simp
  exact hK.out _ _ ⟨o1, c1, o2, c2, o3, c3, rfl, r1, r2, r3⟩ (B.refl _)
 ·intro f w' hf hB
  clear hf
  refine slot_op rfl (fun _ => rfl) (fun T hT K hK => ?_)
  simp only [putsL, List.set_cons_zero, List.set_cons_succ] at hT
  subst hT
  go_simp
  exact hK.out _ _ ⟨_, rfl, obj_new _ _, Nat.le_trans hk hB.below.size⟩ ((B.refl _).alloc _ _)
 ·intro f w' hf hB T hT
  have h9 := hf (9, 15) (by simp)
  have h10 := hf (10, 3) (by simp)
  obtain ⟨o1, c1, o2, c2, o3, c3, e9, r1, r2, r3⟩ := h9
  obtain ⟨C, e10, oC, hkC⟩ := h10
  clear hf
  simp only [putsL, List.set_cons_zero, List.set_cons_succ, e9, e10] at hT
  subst hT
  have y0 := obj_cell oC 0
  have y1 := obj_cell oC 1
  have y2 := obj_cell oC 2
  have z0 := obj_free oC 0
  have z1 := obj_free oC 1
  have z2 := obj_free oC 2
  refine wpSeq_call rfl (by kernel_rfl) (fun K hK => ?_)
  go_simp
  refine hK.out _ _ trivial (fun _ => ?_)
  clear hK
  refine wpSeq_done ?_
  refine NoPanic.normal ?_
  have oC2 := obj_three oC (.slice o1 nw c1) (.slice o2 nt c2) (.slice o3 nf c3)
  have g2 := g_three w' C (.slice o1 nw c1) (.slice o2 nt c2) (.slice o3 nf c3)
  have s1 := own_objG r1 oC (by decide) g2
  have s2 := own_objG r2 oC (by decide) g2
  have s3 := own_objG r3 oC (by decide) g2
  have b2 := g2.b hB (fun i hi => by subst hi; rw [hkk]; exact hkC)
  have oR2 := b2.obj oR
  have HK := hkC
  clear r1 r2 r3 oC g2 y0 y1 y2 z0 z1 z2 hB e9 e10 k0 k1 k2 hkC
  generalize ((w'.setCell ⟨C, 0, none⟩ (.slice o1 nw c1)).setCell ⟨C, 1, none⟩ (.slice o2 nt c2)).setCell ⟨C, 2, none⟩ (.slice o3 nf c3) = W1 at *
  obtain ⟨hwi, hti, hvw1, hvt1, hvw2, hvt2⟩ := HE.out
  obtain ⟨hnw, hnt, hnf, hXW, hXT, hXF, hw9, ht9, hf9⟩ := HN.out
  have bw1 : B w W1 := b0.trans b2
  have hkC : k ≤ C := HK
  have yC0 := obj_cell oC2 0
  rw [← hXW] at s1
  clear HE HN cW cT cF hXW b0 b2 hkk oR HK
  go_wp2_with fail
  go_loopw [19] (fun iv wr => ∃ (i : Nat) (ss : List Value), i ≤ nw ∧ iv = .int .i64 i ∧ LpAt d.ws w wr W1 k C nw (.slice o1 nw c1) 33 i ss) (fun iv _ => nw + 1 - (intOf iv).toNat)
  case atStart => exact ⟨0, vsw, Nat.zero_le _, rfl, LpAt.start hvw1 hvw2 bw1 s1⟩
  case round =>
   obtain ⟨i, ss, hi, rfl, hLp⟩ := hrel
   obtain ⟨wl, rfl⟩ : ∃ wl : World, wl = wr := ⟨_, rfl⟩
   have oCl := hLp.g.obj (fun h => h.2 rfl) oC2
   have yC := obj_cell oCl 0
   by_cases hl : i < nw
   ·have hlB : decide ((i : Int) < (nw : Int)) = true := decide_eq_true (by omega)
    have hlN : decide (i < nw) = true := decide_eq_true hl
    have hlI : (i : Int) < (nw : Int) := by omega
    have hi0 : (0 : Int) ≤ (i : Int) := by omega
    have wk1 : IntKind.i64.wrap ((i : Int) + 1) = (i : Int) + 1 := by rw [IntKind.wrap_i64]; omega
    obtain ⟨r, u, hr, hu, hyc⟩ := hLp.at_ hnw hl
    have hrow := hLp.row
    obtain ⟨g, cp, hsl, hgk, hglt⟩ := hrow.form (by omega)
    simp only [Value.slice.injEq, true_and] at hsl
    obtain ⟨rfl, rfl⟩ := hsl
    have yc : wl.cell? ⟨g, i * 5 + 4, none⟩ = some u := hyc g rfl
    have hsu : IsSecs wl u r.l := hLp.old_at hr hu
    obtain ⟨uo, uc, rfl⟩ := hsu.formL
    obtain ⟨un, hun⟩ : ∃ un, r.l.length = un := ⟨_, rfl⟩
    have cl := fun w' (q : B wl w') => lsec_any (.slice uo r.l.length uc) r.l w' (hsu.keepB q) (hw100 r (List.mem_of_getElem? hr))
    rw [hun] at cl yc hu
    have qd : B wl wl.drew := (B.refl wl).drew
    have hgC : ¬ g = C := fun e => by
     subst e
     exact farF2 oCl hrow (by decide) rfl
    have hgC' : ¬ C = g := fun e => hgC e.symm
    have hkl : k ≤ wl.heap.size := by have := obj_lt oCl; omega
    have HP := Lib.hid hLp
    have HN := Lib.hid (And.intro hun (And.intro hr hu))
    have HI := Lib.hid (And.intro hl hkl)
    clear hLp hyc hsu hun hr hu hrow hgk hglt hl hkl
    go_wp2_with fail
    refine wp_region_noPanic ?_
    refine wp_region_gate (S := fun w' => w'.cell? ⟨C, 0, none⟩ = some (.slice (some ⟨g, 0, none⟩) nw c1) ∧ w'.cell? ⟨g, i * 5 + 4, none⟩ = some (.slice uo un uc) ∧ B wl w') 12 [(0, 3), (1, 0), (2, 3), (3, 3), (4, 0), (5, 3), (6, 3), (7, 3), (8, 0), (9, 2), (10, 3), (11, 3), (12, 4)] [0, 1, 0, 0, 8, 0, 48, 64, 128, 256, 1023, 2047, 3071] [0, 1, 0, 0, 8, 0, 48, 64, 128, 256, 6, 1024, 2560] [0, 7170, 0, 0, 8144, 0, 0, 0, 7936, 0, 0, 0, 0] (by kernel_rfl) (by kernel_rfl) (fun _ _ _ _ _ h => h) ?_ (fun hH => ?_)
    ·exact ⟨qd.keep yC, qd.keep yc, qd⟩
    refine wpSeqG_free (d := 22) (v := ?_) rfl rfl (by kernel_rfl) (fun w => ?_) ?_
    rotate_left
    ·go_simp <;> with_reducible rfl
    dsimp only [sZ, sS]
    refine wpSeqG_take (d := 23) (v := ?_) rfl rfl (by kernel_rfl) (fun w hS => ?_) ?_
    rotate_left
    ·go_simp <;> with_reducible rfl
    dsimp only [sZ, sS]
    refine wpSeqG_free (d := 24) (v := ?_) rfl rfl (by kernel_rfl) (fun w => ?_) ?_
    rotate_left
    ·go_simp <;> with_reducible rfl
    dsimp only [sZ, sS]
    refine wpSeqG_free (d := 25) (v := ?_) rfl rfl (by kernel_rfl) (fun w => ?_) ?_
    rotate_left
    ·go_simp <;> with_reducible rfl
    dsimp only [sZ, sS]
    refine wpSeqG_take (d := 26) (v := ?_) rfl rfl (by kernel_rfl) (fun w hS => ?_) ?_
    rotate_left
    ·go_simp <;> with_reducible rfl
    dsimp only [sZ, sS]
    refine wpSeqG_free (d := 27) (v := ?_) rfl rfl (by kernel_rfl) (fun w => ?_) ?_
    rotate_left
    ·go_simp <;> with_reducible rfl
    dsimp only [sZ, sS]
    refine wpSeqG_free (d := 28) (v := ?_) rfl rfl (by kernel_rfl) (fun w => ?_) ?_
    rotate_left
    ·go_simp <;> with_reducible rfl
    dsimp only [sZ, sS]
    refine wpSeqG_free (d := 29) (v := ?_) rfl rfl (by kernel_rfl) (fun w => ?_) ?_
    rotate_left
    ·go_simp <;> with_reducible rfl
    dsimp only [sZ, sS]
    refine wpSeqG_take (d := 30) (v := ?_) rfl rfl (by kernel_rfl) (fun w hS => ?_) ?_
    rotate_left
    ·go_simp <;> with_reducible rfl
    dsimp only [sZ, sS]
    refine wpSeqG_call rfl (by kernel_rfl) (fun K hK => ?_)
    go_simp
    (with_reducible refine (cl _ hH.2.2).mono ?_)
    rintro e w2 ⟨o9, c9, rfl, hown9, hq⟩
    refine hK.out _ _ ?_ (fun hH => ?_)
    ·exact ⟨hq.keep hH.1, hq.keep hH.2.1, hH.2.2.trans hq⟩
    clear hK
    refine wpSeqG_free (d := 32) (v := ?_) rfl rfl (by kernel_rfl) (fun w => ?_) ?_
    rotate_left
    ·go_simp <;> with_reducible rfl
    dsimp only [sZ, sS]
    refine wpSeqG_free (d := 33) (v := ?_) rfl rfl (by kernel_rfl) (fun w => ?_) ?_
    rotate_left
    ·go_simp <;> with_reducible rfl
    dsimp only [sZ, sS]
    refine wpSeqG_gate rfl (by kernel_rfl) (fun K hK => ?_)
    have yy := hH.2.1
    have zz := (own_keepBx HP.out.row hH.2.2).frozenAt (i * 5 + 4)
    go_simp
    refine hK.out _ _ ?_
    clear hK
    refine wpSeqG_done ?_
    refine NoPanic.normal ?_
    all_goals
     obtain ⟨hun, hr, hu⟩ := HN.out
     have hG := HP.out.next hnw HI.out.2 hr hu HI.out.1 hH.2.2 hown9 hun (by decide) hgC (by rw [hD]; exact hwk)
     have HZ := Lib.hid (And.intro hG HI.out.1)
     clear hG HP HN HI hH hown9 hun hr hu
     generalize (w2.setCell ⟨g, i * 5 + 4, none⟩ (.slice o9 un c9)) = w9 at *
     go_wp2
     go_roundw
     case rel => exact ⟨i + 1, _, by have := HZ.out.2; omega, by go_num, HZ.out.1⟩
     case measure => have := HZ.out.2; simp [intOf]; omega
   ·have hlB : decide ((i : Int) < (nw : Int)) = false := decide_eq_false (by omega)
    have hlN : decide (i < nw) = false := decide_eq_false hl
    obtain rfl : nw = i := by omega
    have oR3 := hLp.g.obj (fun h => by have := h.1; omega) oR2
    have HT := Lib.hid (And.intro hLp.row (And.intro hLp.len (And.intro (fun (j : Nat) (r : Rec) (u : Value) (h1 : d.ws[j]? = some r) (h2 : ss[j]? = some u) => hLp.new j r u (by have := (List.getElem?_eq_some_iff.1 h1).1; omega) h1 h2) (hLp.own (by decide) s3))))
    replace s2 : wl.ownsRow k 35 5 (.slice o2 nt c2) nt (flatR d.ts vst) := hLp.own (by decide) (by rw [hXT]; exact s2)
    have bw2 := hLp.bw
    have oC3 := oCl
    have yC1 := obj_cell oCl 1
    clear hLp s3 s1 bw1 oC2 oR2 oCl yC yC0 hvw1 hvw2
    obtain ⟨W2, rfl⟩ : ∃ W2 : World, W2 = wl := ⟨_, rfl⟩
    obtain ⟨ssw, rfl⟩ : ∃ s, s = ss := ⟨_, rfl⟩
    go_wp2_with fail
    clear hlB hlN hl hi
    go_loopw [38] (fun iv wr => ∃ (i : Nat) (ss : List Value), i ≤ nt ∧ iv = .int .i64 i ∧ LpAt d.ts w wr W2 k C nt (.slice o2 nt c2) 35 i ss) (fun iv _ => nt + 1 - (intOf iv).toNat)
    case atStart => exact ⟨0, vst, Nat.zero_le _, rfl, LpAt.start hvt1 hvt2 bw2 s2⟩
    case round =>
     obtain ⟨i, ss, hi, rfl, hLp⟩ := hrel
     obtain ⟨wl, rfl⟩ : ∃ wl : World, wl = wr := ⟨_, rfl⟩
     have oCl := hLp.g.obj (fun h => h.2 rfl) oC3
     have yC := obj_cell oCl 1
     by_cases hl : i < nt
     ·have hlB : decide ((i : Int) < (nt : Int)) = true := decide_eq_true (by omega)
      have hlN : decide (i < nt) = true := decide_eq_true hl
      have hlI : (i : Int) < (nt : Int) := by omega
      have hi0 : (0 : Int) ≤ (i : Int) := by omega
      have wk1 : IntKind.i64.wrap ((i : Int) + 1) = (i : Int) + 1 := by rw [IntKind.wrap_i64]; omega
      obtain ⟨r, u, hr, hu, hyc⟩ := hLp.at_ hnt hl
      have hrow := hLp.row
      obtain ⟨g, cp, hsl, hgk, hglt⟩ := hrow.form (by omega)
      simp only [Value.slice.injEq, true_and] at hsl
      obtain ⟨rfl, rfl⟩ := hsl
      have yc : wl.cell? ⟨g, i * 5 + 4, none⟩ = some u := hyc g rfl
      have hsu : IsSecs wl u r.l := hLp.old_at hr hu
      obtain ⟨uo, uc, rfl⟩ := hsu.formL
      obtain ⟨un, hun⟩ : ∃ un, r.l.length = un := ⟨_, rfl⟩
      have cl := fun w' (q : B wl w') => lsec_any (.slice uo r.l.length uc) r.l w' (hsu.keepB q) (ht100 r (List.mem_of_getElem? hr))
      rw [hun] at cl yc hu
      have qd : B wl wl.drew := (B.refl wl).drew
      have hgC : ¬ g = C := fun e => by
       subst e
       exact farF2 oCl hrow (by decide) rfl
      have hgC' : ¬ C = g := fun e => hgC e.symm
      have hkl : k ≤ wl.heap.size := by have := obj_lt oCl; omega
      have HP := Lib.hid hLp
      have HN := Lib.hid (And.intro hun (And.intro hr hu))
      have HI := Lib.hid (And.intro hl hkl)
      clear hLp hyc hsu hun hr hu hrow hgk hglt hl hkl
      go_wp2_with fail
      refine wp_region_noPanic ?_
      refine wp_region_gate (S := fun w' => w'.cell? ⟨C, 1, none⟩ = some (.slice (some ⟨g, 0, none⟩) nt c2) ∧ w'.cell? ⟨g, i * 5 + 4, none⟩ = some (.slice uo un uc) ∧ B wl w') 12 [(0, 3), (1, 0), (2, 3), (3, 3), (4, 0), (5, 3), (6, 3), (7, 3), (8, 0), (9, 2), (10, 3), (11, 3), (12, 4)] [0, 1, 0, 0, 8, 0, 48, 64, 128, 256, 1023, 2047, 3071] [0, 1, 0, 0, 8, 0, 48, 64, 128, 256, 6, 1024, 2560] [0, 7170, 0, 0, 8144, 0, 0, 0, 7936, 0, 0, 0, 0] (by kernel_rfl) (by kernel_rfl) (fun _ _ _ _ _ h => h) ?_ (fun hH => ?_)
      ·exact ⟨qd.keep yC, qd.keep yc, qd⟩
      refine wpSeqG_free (d := 41) (v := ?_) rfl rfl (by kernel_rfl) (fun w => ?_) ?_
      rotate_left
      ·go_simp <;> with_reducible rfl
      dsimp only [sZ, sS]
      refine wpSeqG_take (d := 42) (v := ?_) rfl rfl (by kernel_rfl) (fun w hS => ?_) ?_
      rotate_left
      ·go_simp <;> with_reducible rfl
      dsimp only [sZ, sS]
      refine wpSeqG_free (d := 43) (v := ?_) rfl rfl (by kernel_rfl) (fun w => ?_) ?_
      rotate_left
      ·go_simp <;> with_reducible rfl
      dsimp only [sZ, sS]
      refine wpSeqG_free (d := 44) (v := ?_) rfl rfl (by kernel_rfl) (fun w => ?_) ?_
      rotate_left
      ·go_simp <;> with_reducible rfl
      dsimp only [sZ, sS]
      refine wpSeqG_take (d := 45) (v := ?_) rfl rfl (by kernel_rfl) (fun w hS => ?_) ?_
      rotate_left
      ·go_simp <;> with_reducible rfl
      dsimp only [sZ, sS]
      refine wpSeqG_free (d := 46) (v := ?_) rfl rfl (by kernel_rfl) (fun w => ?_) ?_
      rotate_left
      ·go_simp <;> with_reducible rfl
      dsimp only [sZ, sS]
      refine wpSeqG_free (d := 47) (v := ?_) rfl rfl (by kernel_rfl) (fun w => ?_) ?_
      rotate_left
      ·go_simp <;> with_reducible rfl
      dsimp only [sZ, sS]
      refine wpSeqG_free (d := 48) (v := ?_) rfl rfl (by kernel_rfl) (fun w => ?_) ?_
      rotate_left
      ·go_simp <;> with_reducible rfl
      dsimp only [sZ, sS]
      refine wpSeqG_take (d := 49) (v := ?_) rfl rfl (by kernel_rfl) (fun w hS => ?_) ?_
      rotate_left
      ·go_simp <;> with_reducible rfl
      dsimp only [sZ, sS]
      refine wpSeqG_call rfl (by kernel_rfl) (fun K hK => ?_)
      go_simp
      (with_reducible refine (cl _ hH.2.2).mono ?_)
      rintro e w2 ⟨o9, c9, rfl, hown9, hq⟩
      refine hK.out _ _ ?_ (fun hH => ?_)
      ·exact ⟨hq.keep hH.1, hq.keep hH.2.1, hH.2.2.trans hq⟩
      clear hK
      refine wpSeqG_free (d := 51) (v := ?_) rfl rfl (by kernel_rfl) (fun w => ?_) ?_
      rotate_left
      ·go_simp <;> with_reducible rfl
      dsimp only [sZ, sS]
      refine wpSeqG_free (d := 52) (v := ?_) rfl rfl (by kernel_rfl) (fun w => ?_) ?_
      rotate_left
      ·go_simp <;> with_reducible rfl
      dsimp only [sZ, sS]
      refine wpSeqG_gate rfl (by kernel_rfl) (fun K hK => ?_)
      have yy := hH.2.1
      have zz := (own_keepBx HP.out.row hH.2.2).frozenAt (i * 5 + 4)
      go_simp
      refine hK.out _ _ ?_
      clear hK
      refine wpSeqG_done ?_
      refine NoPanic.normal ?_
      all_goals
       obtain ⟨hun, hr, hu⟩ := HN.out
       have hG := HP.out.next hnt HI.out.2 hr hu HI.out.1 hH.2.2 hown9 hun (by decide) hgC (by rw [hD]; exact hwk)
       have HZ := Lib.hid (And.intro hG HI.out.1)
       clear hG HP HN HI hH hown9 hun hr hu
       generalize (w2.setCell ⟨g, i * 5 + 4, none⟩ (.slice o9 un c9)) = w9 at *
       go_wp2
       go_roundw
       case rel => exact ⟨i + 1, _, by have := HZ.out.2; omega, by go_num, HZ.out.1⟩
       case measure => have := HZ.out.2; simp [intOf]; omega
     ·have hlB : decide ((i : Int) < (nt : Int)) = false := decide_eq_false (by omega)
      have hlN : decide (i < nt) = false := decide_eq_false hl
      obtain rfl : nt = i := by omega
      have oR4 := hLp.g.obj (fun h => by have := h.1; omega) oR3
      obtain ⟨t1, tl1, tn, t3⟩ := HT.out
      have hCR : ¬ C = R := by omega
      have hRC : ¬ R = C := by omega
      have gR := g_three wl R (.slice o1 nw c1) (.slice o2 nt c2) (.slice o3 nf c3)
      have oE := obj_three oR4 (.slice o1 nw c1) (.slice o2 nt c2) (.slice o3 nf c3)
      have hOwn : OwnD (((wl.setCell ⟨R, 0, none⟩ (.slice o1 nw c1)).setCell ⟨R, 1, none⟩ (.slice o2 nt c2)).setCell ⟨R, 2, none⟩ (.slice o3 nf c3)) k (.slice o1 nw c1) (.slice o2 nt c2) (.slice o3 nf c3) d ssw ss :=
       ⟨by rw [hnw]; exact own_objG (hLp.own (by decide) t1) oR4 (by decide) gR, by rw [hnt]; exact own_objG hLp.row oR4 (by decide) gR, by rw [hnf, hXF]; exact own_objG (hLp.own (by decide) t3) oR4 (by decide) gR, tl1, hLp.len,
        fun i r v h1 h2 => own_objG (hLp.own (by decide) (tn i r v h1 h2)) oR4 (by decide) gR, fun i r v h1 h2 => own_objG (hLp.new i r v (by have := (List.getElem?_eq_some_iff.1 h1).1; omega) h1 h2) oR4 (by decide) gR, hwi, hti⟩
      have hqF := b_three (b := R) hLp.bw (by rw [hD]; omega) (.slice o1 nw c1) (.slice o2 nt c2) (.slice o3 nf c3)
      have HZ := Lib.hid (And.intro oE (And.intro hqF hOwn))
      have HM := Lib.hid (And.intro hnw (And.intro hnt hnf))
      have y0 := obj_cell oCl 0
      have y1 := obj_cell oCl 1
      have y2 := obj_cell oCl 2
      have e0 := obj_free oR4 0
      have e1 := obj_free oR4 1
      have e2 := obj_free oR4 2
      have r0 := obj_cell oR4 0
      have r1 := obj_cell oR4 1
      have r2 := obj_cell oR4 2
      clear oE hqF hOwn hLp HT t1 tl1 tn t3 gR oR4 oCl oC3 oR3 hwi hti hvt1 hvt2 hnt hnf hXT hXF s2 hnw
      go_wp2
      obtain ⟨oE, hqF, hOwn⟩ := HZ.out
      have c0' := obj_cell oE 0
      have c1' := obj_cell oE 1
      have c2' := obj_cell oE 2
      refine bodyPost_ret (v := .agg #[.slice o1 nw c1, .slice o2 nt c2, .slice o3 nf c3]) (by simp [results, Tryz.results79, go_sem, c0', c1', c2']) rfl ⟨o1, c1, o2, c2, o3, c3, ssw, ss, by rw [HM.out.1, HM.out.2.1, HM.out.2.2], ?_, hqF⟩
      rw [HM.out.1, HM.out.2.1, HM.out.2.2]
      have hwk' : w.heap.size ≤ k := by rw [hD]; exact hwk
      exact ⟨own_low hOwn.ws hwk', own_low hOwn.ts hwk', own_low hOwn.fs hwk', hOwn.sl, hOwn.tl, fun i r v h1 h2 => own_low (hOwn.sh i r v h1 h2) hwk', fun i r v h1 h2 => own_low (hOwn.th i r v h1 h2) hwk', hOwn.wi, hOwn.ti⟩
end Go.Proofs.YtalnfojaccfcjaaGreatDoor
namespace Go.Proofs.YtalnfojaccfcjaaGreatDoor
open Go.RowKit Go.Maps Go.WideMaps
set_option linter.unusedVariables false
theorem laid9 : laidOutB Tryz.prog = true := by kernel_rfl
theorem wideWell : (match Tryz.prog.underlying 39 with | some (.array _ _) | some (.struct _) => true | _ => false) = true := by rw [Tryz.underlying39]
set_option maxRecDepth 100000 in
theorem wellKeyed : Keyed Tryz.prog 39 := Keyed.of_law (deep_law_laid laid9 (m := 3) (by omega) (of_decide_eq_true (by kernel_rfl)) (by kernel_rfl) wideWell)
def wkey (n : ByteArray) (r c : Int) : Lit := .string (keyBytes [.string n.data.toList, .int .i64 r, .int .i64 c])
theorem wf_i64 {r : Int} (h : I64 r) : (Lit.int .i64 r).wf = true := by
 unfold I64 at h
 simp [Lit.wf, IntKind.min, IntKind.max, IntKind.signed, IntKind.bits]
 omega
theorem keyT : Tryz.prog.keyType 39 = true := by kernel_rfl
theorem cells3 : Tryz.prog.cellsOf 39 = 3 := by kernel_rfl
theorem cellsS : Tryz.prog.cellsOf 9 = 1 := by kernel_rfl
theorem cellsI1 : Tryz.prog.cellsOf 3 = 1 := by kernel_rfl
theorem key_well (n : ByteArray) (r c : Int) (hn : n.size ≤ maxLen) (hr : I64 r) (hc : I64 c) : keyOf Tryz.prog 39 (.agg #[.string n, .int .i64 r, .int .i64 c]) = some (wkey n r c) := by
 have wr := wf_i64 hr
 have wc := wf_i64 hc
 have e : Tryz.prog.keyLits (Tryz.prog.types.size + 1) 39 [.string n, .int .i64 r, .int .i64 c] = some [.string n.data.toList, .int .i64 r, .int .i64 c] := by
  obtain ⟨m, hm⟩ : ∃ m, Tryz.prog.types.size = m + 1 := ⟨Tryz.prog.types.size - 1, by have : 0 < Tryz.prog.types.size := of_decide_eq_true (by kernel_rfl); omega⟩
  rw [hm]
  simp [Program.keyLits, Tryz.underlying39, Tryz.underlying9, Tryz.underlying3, cells3, cellsS, cellsI1, hn, wr, wc]
 unfold keyOf
 rw [Tryz.underlying39]
 simp only [keyT]
 simp [Value.formed, Tryz.underlying39, cells3, Value.cells, wkey]
 exact ⟨_, by simpa using e, rfl⟩
theorem wkey_inj {n n' : ByteArray} {r c r' c' : Int} (hn : n.size ≤ maxLen) (hr : I64 r) (hc : I64 c) (hn' : n'.size ≤ maxLen) (hr' : I64 r') (hc' : I64 c') (h : wkey n r c = wkey n' r' c') : n = n' ∧ r = r' ∧ c = c' := by
 have := wellKeyed.inj (key_well n r c hn hr hc) (h ▸ key_well n' r' c' hn' hr' hc')
 simpa using this
end Go.Proofs.YtalnfojaccfcjaaGreatDoor
