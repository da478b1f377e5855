/-
 Contracts and what they rest on.
-/
import Derived.Test.YtalnfojaccfcjaaGreatDoorChecked
import Derived.OwnWalk
import Derived.Laws.StructEq
import Derived.Deep.QuietTactic
import Derived.BigQuiet
import Derived.Lib.MinMax
import Derived.Laws.Strings2
import Derived.Laws.Slices
import Derived.KernelRfl
import Derived.Test.YtalnfojaccfcjaaGreatDoorY19
namespace Go.Proofs.YtalnfojaccfcjaaGreatDoor
open Go.RowKit Go.Maps Go.WideMaps
set_option linter.unusedVariables false
section
variable {P : Bp} {m9 : Nat} {E : List Ent} {X : List Th}
theorem BoardM.notS {w : World} (h : BoardM P w m9 E X) : ¬ P.S P.b := fun hs => by
 have h1 := h.cache.lt
 have h2 := h.cache.lb
 have h4 := h.bamw
 have h5 := h.mwmt
 have h6 := h.mtb
 rcases h.inS _ hs with h9 | h9 | ⟨x, hx, h9⟩
 ·omega
 ·omega
 ·have := h.blt x hx; omega
theorem BoardM.keepA {S : Nat → Prop} {w w' : World} (h : BoardM P w m9 E X) (q : G S w w') (hS : ∀ i, S i → P.top ≤ i ∧ ∀ e ∈ E, i < e.b ∨ e.hi ≤ i) : BoardM P w' m9 E X := by
 have h1 := h.cache.lt
 have h2 := h.cache.lb
 have h3 := h.hibm
 have h4 := h.bamw
 have h5 := h.mwmt
 have h6 := h.mtb
 have h7 := h.btop
 have h8 := h.lohi
 have no : ∀ i, i < P.top → ¬ S i := fun i hi hs => by have := (hS i hs).1; omega
 exact ⟨q.obj (no _ (by omega)) h.obj, q.held h.dk (fun i h1 h9 => no i (by omega)), h.right, CacheM.apartG h.cache q (fun i hi => by
   have hh := (hS i hi).1
   refine ⟨by omega, by omega, fun e he => ?_⟩
   have h9 := (hS i hi).2 e he
   obtain ⟨y1, y2, y3⟩ := CacheM.his h.cache e he
   exact ⟨by omega, by omega⟩),
  h.wm.g q (no _ (by omega)), h.tm.g q (no _ (by omega)), h.lohi, h.hibm, h.bamw, h.mwmt, h.mtb, h.btop, Nat.le_trans h.top q.size, h.bX, h.blt, h.bap, h.ents,
  fun x hx => (h.things x hx).g q (fun i hi => by have := (hS i hi).1; have := h.blt x hx; omega), h.xw, h.xt, h.wl, h.tl, h.cnt, h.few⟩
theorem BoardM.newS {w : World} (h : BoardM P w m9 E X) {i : Nat} (hi : w.heap.size ≤ i) : ¬ P.S i := fun hs => by
 have := h.sLow i hs
 have := h.top
 omega
set_option maxRecDepth 100000 in
set_option maxHeartbeats 2000000 in
theorem dtip_no (w : World) (h : BoardM P w m9 E X) (n : ByteArray) (hns : n.size ≤ maxLen) (hno : namedL (P.d.ts.map (·.n)) n = false) :
  Calls Tryz.prog 36 #[.pointer (some ⟨P.b, 0, none⟩), .string n] w fun e w' => e = .returned (.tuple #[.agg #[.string ⟨#[]⟩, .int .i64 0, .int .i64 0, .int .i64 0, .slice none 0 0], .pointer none, .int .i64 28]) ∧ BoardM P w' m9 E X ∧ B w w' := by
 have qa : B w (w.alloc (.cells #[.string ⟨#[]⟩, .int .i64 0, .int .i64 0, .int .i64 0, .slice none 0 0] 35)) := (B.refl w).alloc _ _
 have hM := h.keepB qa
 have hL := look_thk hns hM.tm (v := .pointer none) (fun u ps hu => by rw [thD_no _ _ _ hno] at hu; exact ptrElem_nil hu)
 rw [hno] at hL
 have k5 := obj_cell hM.obj 5
 have HZ := Lib.hid (And.intro hM qa)
 have hnot : ∀ (x : Bool) (w : World), (Op.unary .not (.bool x)).run Tryz.prog w = .ok (.bool (!x)) w := fun _ _ => rfl
 clear hM h qa
 generalize P.b = b at *
 go_enter Tryz.func36, Tryz.ntmps36
 go_wp2
 obtain ⟨z1, z2⟩ := HZ.out
 refine bodyPost_ret (v := .tuple #[.agg #[.string ⟨#[]⟩, .int .i64 0, .int .i64 0, .int .i64 0, .slice none 0 0], .pointer none, .int .i64 28]) (by simp [results, Tryz.results36, go_sem]) rfl ⟨rfl, z1, z2⟩
set_option maxRecDepth 100000 in
set_option maxHeartbeats 2000000 in
theorem dtip_yes (W0 w : World) (hW : B W0 w) (hp : Pow10 W0) (hbm : W0.heap.size ≤ P.bm) (h : BoardM P w m9 E X) (n : ByteArray) (hns : n.size ≤ maxLen) (hyes : namedL (P.d.ts.map (·.n)) n = true) :
  Calls Tryz.prog 36 #[.pointer (some ⟨P.b, 0, none⟩), .string n] w fun e w' => ∃ (i : Nat) (rc : Wr) (p : Nat) (e0 : Ent) (n' : Nat) (E' : List Ent) (X' : List Th) (o9 : Option Addr) (c9 : Nat), P.d.ts[i]? = some rc ∧ rc.n = n ∧
   e = .returned (.tuple #[.agg #[.string rc.n, .int .i64 rc.x, .int .i64 rc.y, .int .i64 rc.z, .slice o9 rc.l.length c9], .pointer (some ⟨p, 0, none⟩), .int .i64 0]) ∧ IsSecs w' (.slice o9 rc.l.length c9) rc.l ∧ e0.p = .pointer (some ⟨p, 0, none⟩) ∧ Ext w.heap.size E E' rc.l e0 ∧ BoardM P w' n' E' X' ∧ G P.S w w' := by
 have qa : B w (w.alloc (.cells #[.string ⟨#[]⟩, .int .i64 0, .int .i64 0, .int .i64 0, .slice none 0 0] 35)) := (B.refl w).alloc _ _
 have oR := obj_new w (.cells #[.string ⟨#[]⟩, .int .i64 0, .int .i64 0, .int .i64 0, .slice none 0 0] 35)
 have hM := h.keepB qa
 obtain ⟨_, p4, _, pT⟩ := right_parts9 h.right
 obtain ⟨i, rc, xb, hi, hrn, hxb, htd⟩ := named_at pT hyes P.bt h.tl
 obtain ⟨x, hx, hxi, hxl⟩ := h.xt i rc hi
 have hil := (List.getElem?_eq_some_iff.1 hi).1
 have hxbb : x.b = xb := by
  have e := congrArg (fun l => l[P.d.ws.length + i]?) h.bX
  simp only [List.getElem?_map, hx] at e
  rw [List.getElem?_append_right (by rw [h.wl]; omega), h.wl, Nat.add_sub_cancel_left, hxb] at e
  exact Option.some.inj e
 have hL := look_thk hns hM.tm (v := .pointer (some ⟨xb, 0, none⟩)) (fun u ps hu => by rw [htd] at hu; exact ptrElem_lit hu)
 rw [hyes] at hL
 have oB := hM.obj
 obtain ⟨so, sm, sc, hox, _⟩ := (hM.things x (List.mem_of_getElem? hx)).obj
 have x0 : (w.alloc (.cells #[.string ⟨#[]⟩, .int .i64 0, .int .i64 0, .int .i64 0, .slice none 0 0] 35)).cell? ⟨xb, 0, none⟩ = some (.int .i64 (i : Int)) := by
  rw [← hxbb, obj_cell hox]
  unfold Th.cells
  rw [← hxi]
  split <;> rfl
 obtain ⟨a, tc, ht, _, _, hrec⟩ := hM.dk.now.ts.at_ hil
 have hrc2 : P.d.ts[i] = rc := by rw [List.getElem?_eq_getElem hil] at hi; exact Option.some.inj hi
 rw [hrc2] at hrec
 rw [ht] at oB
 have hnR0 := h.newS (Nat.le_refl _)
 have hnS := fun i (hi : w.heap.size ≤ i) => h.newS hi
 have hRtop := h.top
 have hEhi : ∀ e ∈ E, e.hi ≤ w.heap.size := fun e he => (CacheM.his h.cache e he).2.2
 have HEH := Lib.hid (And.intro hnS (And.intro hRtop hEhi))
 clear hnS hRtop hEhi
 obtain ⟨tn, htn⟩ : ∃ tn, P.d.ts.length = tn := ⟨_, rfl⟩
 rw [htn] at oB hil
 have k1 := obj_cell oB 1
 have k5 := obj_cell oB 5
 have k3' := obj_cell oB 3
 have hlen : rc.l.length ≤ 1000000 := (right_len h.right).2 rc (List.mem_of_getElem? hi)
 obtain ⟨t0, t1, t2, t3, sv, t4, hsv⟩ := hrec
 obtain ⟨N, RX, RY, RZ, RL⟩ := rc
 simp only at t0 t1 t2 t3 hsv hlen hxl
 obtain ⟨vo, vc, rfl⟩ := hsv.formL
 have HJ := Lib.hid (secs_I hsv)
 have hsz : (w.alloc (.cells #[.string ⟨#[]⟩, .int .i64 0, .int .i64 0, .int .i64 0, .slice none 0 0] 35)).heap.size = w.heap.size + 1 := by simp
 have HS := Lib.hid (And.intro hM (And.intro qa (And.intro oR (And.intro hsv (And.intro hi (And.intro hrn (And.intro hlen hx)))))))
 have hnot : ∀ (x : Bool) (w : World), (Op.unary .not (.bool x)).run Tryz.prog w = .ok (.bool (!x)) w := fun _ _ => rfl
 have hi0 : (0 : Int) ≤ (i : Int) := by omega
 have hiI : (i : Int) < (tn : Int) := by omega
 have HW := Lib.hid (And.intro hW (And.intro hp (And.intro hbm hxl)))
 clear hM qa oR oB h hx hxi hox htd hxb hsv hi hrn hrc2 hlen pT ht hW hp hbm htn
 generalize hb9 : P.b = b at *
 go_enter Tryz.func36, Tryz.ntmps36
 go_wp2_with fail
 have HSZ := Lib.hid hsz
 clear hsz hL k5
 generalize w.alloc (.cells #[.string ⟨#[]⟩, .int .i64 0, .int .i64 0, .int .i64 0, .slice none 0 0] 35) = w1 at *
 generalize hRw : w.heap.size = R at *
 have qd : B w1 w1.drew := (B.refl _).drew
 obtain ⟨vn, hvn⟩ : ∃ vn, RL.length = vn := ⟨_, rfl⟩
 rw [hvn] at t4
 refine wp_region_noPanic ?_
 refine wp_region_gate (S := fun w' => w'.cell? (⟨b, 1, none⟩) = some (.slice (some a) tn tc) ∧ w'.cell? (⟨xb, 0, none⟩) = some (.int .i64 (i : Int)) ∧ w'.cell? (a.add (i * 5)) = some (.string N) ∧ w'.cell? (⟨(a.add (i * 5)).block, (a.add (i * 5)).off + 1, none⟩) = some (.int .i64 RX) ∧ w'.cell? (⟨(a.add (i * 5)).block, (a.add (i * 5)).off + 2, none⟩) = some (.int .i64 RY) ∧ w'.cell? (⟨(a.add (i * 5)).block, (a.add (i * 5)).off + 3, none⟩) = some (.int .i64 RZ) ∧ w'.cell? (⟨(a.add (i * 5)).block, (a.add (i * 5)).off + 4, none⟩) = some (.slice vo vn vc) ∧ B w1 w') 12 [(0, 3), (1, 3), (2, 3), (3, 3), (4, 0), (5, 3), (6, 3), (7, 3), (8, 0), (9, 3), (10, 0), (11, 2), (12, 4)] [0, 1, 2, 4, 8, 0, 32, 64, 128, 272, 512, 0, 4095] [0, 1, 2, 4, 8, 0, 32, 64, 128, 272, 512, 0, 3072] [0, 0, 0, 0, 5648, 0, 0, 0, 5888, 0, 5120, 0, 0] (by kernel_rfl) (by kernel_rfl) (fun _ _ _ _ _ h => h) ?_ (fun hH => ?_)
 ·exact ⟨qd.keep k1, qd.keep x0, qd.keep t0, qd.keep t1, qd.keep t2, qd.keep t3, qd.keep t4, qd⟩
 refine wpSeqG_free (d := 22) (v := ?_) rfl rfl (by kernel_rfl) (fun w => ?_) ?_
 rotate_left
 ·go_simp <;> with_reducible rfl
 dsimp only [sZ, sS]
 refine wpSeqG_free (d := 23) (v := ?_) rfl rfl (by kernel_rfl) (fun w => ?_) ?_
 rotate_left
 ·go_simp <;> with_reducible rfl
 dsimp only [sZ, sS]
 refine wpSeqG_free (d := 24) (v := ?_) rfl rfl (by kernel_rfl) (fun w => ?_) ?_
 rotate_left
 ·go_simp <;> with_reducible rfl
 dsimp only [sZ, sS]
 refine wpSeqG_free (d := 25) (v := ?_) rfl rfl (by kernel_rfl) (fun w => ?_) ?_
 rotate_left
 ·go_simp <;> with_reducible rfl
 dsimp only [sZ, sS]
 refine wpSeqG_take (d := 26) (v := ?_) rfl rfl (by kernel_rfl) (fun w hS => ?_) ?_
 rotate_left
 ·go_simp <;> with_reducible rfl
 dsimp only [sZ, sS]
 refine wpSeqG_free (d := 27) (v := ?_) rfl rfl (by kernel_rfl) (fun w => ?_) ?_
 rotate_left
 ·go_simp <;> with_reducible rfl
 dsimp only [sZ, sS]
 refine wpSeqG_free (d := 28) (v := ?_) rfl rfl (by kernel_rfl) (fun w => ?_) ?_
 rotate_left
 ·go_simp <;> with_reducible rfl
 dsimp only [sZ, sS]
 refine wpSeqG_free (d := 29) (v := ?_) rfl rfl (by kernel_rfl) (fun w => ?_) ?_
 rotate_left
 ·go_simp <;> with_reducible rfl
 dsimp only [sZ, sS]
 refine wpSeqG_take (d := 30) (v := ?_) rfl rfl (by kernel_rfl) (fun w hS => ?_) ?_
 rotate_left
 ·go_simp <;> with_reducible rfl
 dsimp only [sZ, sS]
 refine wpSeqG_free (d := 31) (v := ?_) rfl rfl (by kernel_rfl) (fun w => ?_) ?_
 rotate_left
 ·go_simp <;> with_reducible rfl
 dsimp only [sZ, sS]
 refine wpSeqG_take (d := 32) (v := ?_) rfl rfl (by kernel_rfl) (fun w hS => ?_) ?_
 rotate_left
 ·go_simp <;> with_reducible rfl
 dsimp only [sZ, sS]
 refine wpSeqG_call rfl (by kernel_rfl) (fun K hK => ?_)
 go_simp
 refine hK.out _ _ ?_ (fun hH => ?_)
 ·exact ⟨((B.refl _).alloc _ _).keep (hH.1), ((B.refl _).alloc _ _).keep (hH.2.1), ((B.refl _).alloc _ _).keep (hH.2.2.1), ((B.refl _).alloc _ _).keep (hH.2.2.2.1), ((B.refl _).alloc _ _).keep (hH.2.2.2.2.1), ((B.refl _).alloc _ _).keep (hH.2.2.2.2.2.1), ((B.refl _).alloc _ _).keep (hH.2.2.2.2.2.2.1), hH.2.2.2.2.2.2.2.alloc _ _⟩
 clear hK
 refine wpSeqG_gate rfl (by kernel_rfl) (fun K hK => ?_)
 go_simp
 refine hK.out _ _ ?_
 clear hK
 refine wpSeqG_done ?_
 refine NoPanic.normal ?_
 have oT : ((w1.alloc (.cells #[.string N, .int .i64 RX, .int .i64 RY, .int .i64 RZ, .slice vo vn vc] 35)).drew).heap[w1.heap.size]? = some (.cells #[.string N, .int .i64 RX, .int .i64 RY, .int .i64 RZ, .slice vo vn vc] 35 (0, 0)) := obj_new w1 _
 have q12 : B w1 ((w1.alloc (.cells #[.string N, .int .i64 RX, .int .i64 RY, .int .i64 RZ, .slice vo vn vc] 35)).drew) := ((B.refl w1).alloc _ _).drew
 have hsz2 : ((w1.alloc (.cells #[.string N, .int .i64 RX, .int .i64 RY, .int .i64 RZ, .slice vo vn vc] 35)).drew).heap.size = w1.heap.size + 1 := by simp
 clear hH k1 x0 t0 t1 t2 t3 t4 qd
 generalize (w1.alloc (.cells #[.string N, .int .i64 RX, .int .i64 RY, .int .i64 RZ, .slice vo vn vc] 35)).drew = w2 at *
 obtain ⟨hM, qa, oR, hsv, hi, hrn, hlen, hx⟩ := HS.out
 have hsz := HSZ.out
 have hnT := hM.newS (Nat.le_refl w1.heap.size)
 have y4 := obj_cell oT 4
 have cl := lsec_any (.slice vo RL.length vc) RL w2 (hsv.keepB q12) hlen
 rw [hvn] at cl
 generalize hT9 : w1.heap.size = T9 at *
 have HM := Lib.hid (And.intro hM (And.intro qa (And.intro oR (And.intro hx (And.intro hnT (And.intro oT (And.intro q12 (And.intro hsz hsz2))))))))
 have HI := Lib.hid (And.intro hi hrn)
 clear hM qa oR hsv hi hrn hlen hx hnT oT q12 HS HSZ hsz hsz2
 go_wp2_with fail
 refine cl.mono ?_
 rintro e w3 ⟨o9, c9, rfl, hown9, q3⟩
 obtain ⟨hM, qa, oR, hx, hnT, oT, q12, hsz, hsz2⟩ := HM.out
 have oT3 := q3.obj oT
 have g4 := one_own w3 T9 4 (.slice o9 vn c9)
 have q14 : B w1 (w3.setCell ⟨T9, 4, none⟩ (.slice o9 vn c9)) := (q12.trans q3).setCell (p := ⟨T9, 4, none⟩) (by rw [hT9]; exact Nat.le_refl _) _
 have hM4 := hM.keepB q14
 have own4 := own_objG hown9 oT3 (by decide) g4
 have oT6 : (w3.setCell ⟨T9, 4, none⟩ (.slice o9 vn c9)).heap[T9]? = some (.cells #[.string N, .int .i64 RX, .int .i64 RY, .int .i64 RZ, .slice o9 vn c9] 35 (0, 0)) := by simpa using obj_set oT3 4 (.slice o9 vn c9)
 have oR6 := q14.obj oR
 have y4' := obj_cell oT3 4
 have HQ := Lib.hid (And.intro hsz hsz2)
 have z4 := obj_free oT3 4
 have hs14 := q14.below.size
 have hI4 : ∀ s ∈ RL, s.I := secs_I (isSecs_own (l := RL) (by rw [hvn]; exact own4) (by
  intro s hs
  exact (HJ.out s hs)))
 have HY := Lib.hid (And.intro hM4 (And.intro own4 (And.intro oT6 (And.intro oR6 (And.intro q14 (And.intro hs14 hI4))))))
 clear hM hx oT q12 oT3 g4 q14 hM4 own4 oT6 oR6 oR qa hown9 q3 hs14 cl hI4 hsz hsz2
 go_wp2_with fail
 clear y4' z4
 obtain ⟨hM4, own4, oT6, oR6, q14, hs14, hI4⟩ := HY.out
 have qa := HM.out.2.1
 have hx := HM.out.2.2.2.1
 generalize w3.setCell ⟨T9, 4, none⟩ (.slice o9 vn c9) = w4 at *
 obtain ⟨hW, hp, hbm, hxl⟩ := HW.out
 have q04 := qa.trans q14
 have cT : ∀ w', B w4 w' → Calls Tryz.prog 85 #[.pointer (some ⟨xb, 0, none⟩), .pointer (some ⟨P.c, 0, none⟩)] w' fun r w'' => ∃ (p : Nat) (e0 : Ent) (n' : Nat) (E' : List Ent) (X' : List Th), r = .returned (.pointer (some ⟨p, 0, none⟩)) ∧ e0.p = .pointer (some ⟨p, 0, none⟩) ∧
   Ext w4.heap.size E E' x.l e0 ∧ BoardM P w'' n' E' X' ∧ G P.S w4 w'' := fun w' q => by
  have := thtab_any W0 w' ((hW.trans q04).trans q) hp hbm (hM4.keepB q) (P.d.ws.length + i) x hx
  rw [hxbb] at this
  exact this.mono fun e w'' ⟨p, e0, n', E', X', h1, h2, h3, h4, h5⟩ => ⟨p, e0, n', E', X', h1, h2, h3.low q.below.size, h4, (q.g _).trans h5⟩
 rw [hxl] at cT
 have m0 := obj_cell oT6 0
 have m1 := obj_cell oT6 1
 have m2 := obj_cell oT6 2
 have m3 := obj_cell oT6 3
 have m4 := obj_cell oT6 4
 have k3 := obj_cell hM4.obj 3
 rw [hb9] at k3
 have qd6 : B w4 w4.drew := (B.refl _).drew
 have hnR : ¬ P.S R := hnR0
 have HV := Lib.hid (And.intro hM4 (And.intro own4 (And.intro q04 hI4)))
 clear hM4 own4 q04 qa hx q14 hW hp hbm HY HM HW hs14 hI4
 refine wp_region_noPanic ?_
 refine wp_region_gate (S := fun w' => w'.cell? ⟨T9, 0, none⟩ = some (.string N) ∧ w'.cell? ⟨T9, 1, none⟩ = some (.int .i64 RX) ∧ w'.cell? ⟨T9, 2, none⟩ = some (.int .i64 RY) ∧ w'.cell? ⟨T9, 3, none⟩ = some (.int .i64 RZ) ∧ w'.cell? ⟨T9, 4, none⟩ = some (.slice o9 vn c9) ∧ w'.cell? ⟨b, 3, none⟩ = some (.pointer (some ⟨P.c, 0, none⟩))) 7 [(0, 0), (1, 3), (2, 3), (3, 3), (4, 3), (5, 0), (6, 2), (7, 4), (8, 3), (9, 3)] [0, 0, 0, 4, 8, 16, 34, 65, 255, 511] [0, 0, 0, 4, 8, 16, 34, 1, 64, 0] [897, 0, 0, 0, 0, 992, 0, 0, 0, 0] (by kernel_rfl) (by kernel_rfl) (fun _ _ _ _ _ h => h) ?_ (fun hH => ?_)
 ·exact ⟨qd6.keep m0, qd6.keep m1, qd6.keep m2, qd6.keep m3, qd6.keep m4, qd6.keep k3⟩
 refine wpSeqG_take (d := 37) (v := ?_) rfl rfl (by kernel_rfl) (fun w hS => ?_) ?_
 rotate_left
 ·go_simp <;> with_reducible rfl
 dsimp only [sZ, sS]
 refine wpSeqG_free (d := 38) (v := ?_) rfl rfl (by kernel_rfl) (fun w => ?_) ?_
 rotate_left
 ·go_simp <;> with_reducible rfl
 dsimp only [sZ, sS]
 refine wpSeqG_free (d := 39) (v := ?_) rfl rfl (by kernel_rfl) (fun w => ?_) ?_
 rotate_left
 ·go_simp <;> with_reducible rfl
 dsimp only [sZ, sS]
 refine wpSeqG_free (d := 40) (v := ?_) rfl rfl (by kernel_rfl) (fun w => ?_) ?_
 rotate_left
 ·go_simp <;> with_reducible rfl
 dsimp only [sZ, sS]
 refine wpSeqG_free (d := 41) (v := ?_) rfl rfl (by kernel_rfl) (fun w => ?_) ?_
 rotate_left
 ·go_simp <;> with_reducible rfl
 dsimp only [sZ, sS]
 refine wpSeqG_take (d := 42) (v := ?_) rfl rfl (by kernel_rfl) (fun w hS => ?_) ?_
 rotate_left
 ·go_simp <;> with_reducible rfl
 dsimp only [sZ, sS]
 refine wpSeqG_call rfl (by kernel_rfl) (fun K hK => ?_)
 go_simp
 (with_reducible refine (cT _ qd6).mono ?_)
 rintro e w7 ⟨p, e0, n', E', X', rfl, hpp, hE, hM7, hg⟩
 have oT7 := hg.obj hnT oT6
 have oR7 := hg.obj hnR oR6
 have oB7 := hM7.obj
 have r0 := obj_cell oR7 0
 have r1 := obj_cell oR7 1
 have r2 := obj_cell oR7 2
 have r3 := obj_cell oR7 3
 have r4 := obj_cell oR7 4
 have f0 := obj_free oR7 0
 have f1 := obj_free oR7 1
 have f2 := obj_free oR7 2
 have f3 := obj_free oR7 3
 have f4 := obj_free oR7 4
 refine hK.out _ _ ?_ (fun hH => ?_)
 ·exact ⟨obj_cell oT7 0, obj_cell oT7 1, obj_cell oT7 2, obj_cell oT7 3, obj_cell oT7 4, by rw [← hb9]; exact obj_cell oB7 3⟩
 clear hK
 refine wpSeqG_gate rfl (by kernel_rfl) (fun K hK => ?_)
 go_simp
 refine hK.out _ _ ?_
 clear hK
 refine wpSeqG_free (d := 5) (v := ?_) rfl rfl (by kernel_rfl) (fun w => ?_) ?_
 rotate_left
 ·go_simp <;> with_reducible rfl
 dsimp only [sZ, sS]
 refine wpSeqG_free (d := 6) (v := ?_) rfl rfl (by kernel_rfl) (fun w => ?_) ?_
 rotate_left
 ·go_simp <;> with_reducible rfl
 dsimp only [sZ, sS]
 refine wpSeqG_done ?_
 refine NoPanic.normal ?_
 all_goals
  obtain ⟨hM4, own4, q04, hI4⟩ := HV.out
  have oR8 := obj_five oR7 (.string N) (.int .i64 RX) (.int .i64 RY) (.int .i64 RZ) (.slice o9 vn c9)
  have g8 : G (fun i => i = R) w7 (((((w7.setCell ⟨R, 0, none⟩ (.string N)).setCell ⟨R, 1, none⟩ (.int .i64 RX)).setCell ⟨R, 2, none⟩ (.int .i64 RY)).setCell ⟨R, 3, none⟩ (.int .i64 RZ)).setCell ⟨R, 4, none⟩ (.slice o9 vn c9)) := G.setCell (S := fun i => i = R) (p := ⟨R, 4, none⟩) (G.setCell (S := fun i => i = R) (p := ⟨R, 3, none⟩) (G.setCell (S := fun i => i = R) (p := ⟨R, 2, none⟩) (G.setCell (S := fun i => i = R) (p := ⟨R, 1, none⟩) (G.setCell (S := fun i => i = R) (p := ⟨R, 0, none⟩) (G.refl _ _) (.inl rfl) _) (.inl rfl) _) (.inl rfl) _) (.inl rfl) _) (.inl rfl) _
  have hR4 : R < w4.heap.size := obj_lt oR6
  obtain ⟨hnS, hRtop, hEhi⟩ := HEH.out
  have hM8 := hM7.keepA g8 (fun i hi => by
   subst hi
   refine ⟨hRtop, fun e he => ?_⟩
   rcases hE.2.2 with h9 | ⟨_, h9, h10⟩
   ·rw [h9] at he
    exact .inr (hEhi e he)
   ·rw [h10] at he
    rcases List.mem_append.1 he with he | he
    ·exact .inr (hEhi e he)
    ·obtain rfl := List.mem_singleton.1 he
     exact .inl (by omega))
  have own7 := own_on own4 (fun i h1 h2 => hg.block i h2 (hnS i (by have := HQ.out; omega)))
  have own8 := own_on own7 (fun i h1 h2 => g8.block i h2 (by have := HQ.out; omega))
  have sec8 := isSecs_own (l := RL) (by rw [hvn]; exact own8) hI4
  have hG8 := G.then_ ((q04.g P.S).trans hg) g8 (fun i hi => .inr (by subst hi; exact Nat.le_of_eq hRw))
  have hE8 := hE.low q04.below.size
  have c0' := obj_cell oR8 0
  have c1' := obj_cell oR8 1
  have c2' := obj_cell oR8 2
  have c3' := obj_cell oR8 3
  have c4' := obj_cell oR8 4
  have HZ := Lib.hid (And.intro hM8 (And.intro sec8 (And.intro hG8 (And.intro hE8 hpp))))
  clear hM8 own7 own8 sec8 hG8 hE8 hpp g8 oR8 oR7 oT7 oB7 hg hE hM7 hM4 own4 q04 hI4 hnS hRtop hEhi oR6 oT6
  generalize ((((w7.setCell ⟨R, 0, none⟩ (.string N)).setCell ⟨R, 1, none⟩ (.int .i64 RX)).setCell ⟨R, 2, none⟩ (.int .i64 RY)).setCell ⟨R, 3, none⟩ (.int .i64 RZ)).setCell ⟨R, 4, none⟩ (.slice o9 vn c9) = w8 at *
  go_wp2
  obtain ⟨z1, z2, z3, z4, z5⟩ := HZ.out
  refine bodyPost_ret (v := .tuple #[.agg #[.string N, .int .i64 RX, .int .i64 RY, .int .i64 RZ, .slice o9 vn c9], .pointer (some ⟨p, 0, none⟩), .int .i64 0]) (by simp [results, Tryz.results36, go_sem, c0', c1', c2', c3', c4']) rfl ⟨i, ⟨N, RX, RY, RZ, RL⟩, p, e0, n', E', X', o9, c9, HI.out.1, HI.out.2, by rw [← hvn], by rw [hvn]; exact z2, z5, ?_, z1, ?_⟩
  ·rw [← hRw] at *; exact z4
  ·exact z3
end
end Go.Proofs.YtalnfojaccfcjaaGreatDoor
namespace Go.Proofs.YtalnfojaccfcjaaGreatDoor
open Go.RowKit
set_option linter.unusedVariables false
theorem nameS_sz {n : ByteArray} (h : nameS n = true) : n.size ≤ 16 := by
 unfold nameS at h
 have h16 := of_decide_eq_true (Bool.and_eq_true_iff.1 (Bool.and_eq_true_iff.1 (Bool.and_eq_true_iff.1 h).1).1).2
 omega
theorem indexC_has : ∀ (ws : List Wr) (K : Int) (n : ByteArray) (r c : Int), (indexC ws K n r c).isSome = true → ∃ w ∈ ws, hasB w.n w.x w.y n r c = true
 | [], _, _, _, _, h => by cases h
 | w :: ws, K, n, r, c, h => by
  rw [indexC] at h
  split at h
  ·rename_i hh
   exact ⟨w, List.mem_cons_self .., hh⟩
  ·obtain ⟨v, hv, e⟩ := indexC_has ws _ n r c h
   exact ⟨v, List.mem_cons_of_mem _ hv, e⟩
structure Small (d : Dk) : Prop where
 wn : ∀ r ∈ d.ws, r.n.size ≤ maxLen
 wi : ∀ r ∈ d.ws, I64 r.x ∧ I64 r.y
 tn : ∀ r ∈ d.ts, r.n.size ≤ maxLen
 fi : ∀ f ∈ d.fs, f.n.size ≤ maxLen ∧ I64 f.r ∧ I64 f.c
theorem rightD_small {d : Dk} (h : rightD d = true) : Small d := by
 obtain ⟨_, _, pW, pT⟩ := right_parts9 h
 have hw : ∀ r ∈ d.ws, nameS r.n = true ∧ (1 ≤ r.x ∧ r.x ≤ 8) ∧ (1 ≤ r.y ∧ r.y ≤ 12) := fun r hr => by
  obtain ⟨i, hi⟩ := List.getElem?_of_mem hr
  have := (apart_at pW hi).1
  unfold wareOk at this
  simp only [Bool.and_eq_true, inB, decide_eq_true_eq] at this
  exact ⟨this.1.1.1.1, this.1.1.1.2, this.1.1.2⟩
 have ht : ∀ r ∈ d.ts, nameS r.n = true := fun r hr => by
  obtain ⟨i, hi⟩ := List.getElem?_of_mem hr
  have := (apart_at pT hi).1
  unfold tipOk at this
  simp only [Bool.and_eq_true] at this
  exact this.1.1.1.1
 refine ⟨fun r hr => ?_, fun r hr => ?_, fun r hr => ?_, fun f hf => ?_⟩
 ·have := nameS_sz (hw r hr).1; unfold maxLen; omega
 ·obtain ⟨_, h1, h2⟩ := hw r hr; unfold I64; omega
 ·have := nameS_sz (ht r hr); unfold maxLen; omega
 ·obtain ⟨i, hi⟩ := List.getElem?_of_mem hf
  obtain ⟨⟨k, hk, _⟩, _⟩ := right_fill h hi
  obtain ⟨w, hwm, hb⟩ := indexC_has d.ws 0 f.n f.r f.c (by rw [hk]; rfl)
  obtain ⟨h1, h2, h3, h4⟩ := hasB_in hb
  obtain ⟨hn, hx, hy⟩ := hw w hwm
  unfold hasB at hb
  simp only [Bool.and_eq_true, beq_iff_eq] at hb
  have e : w.n = f.n := ba_eq hb.1.1
  have := nameS_sz hn
  rw [e] at this
  unfold maxLen I64
  omega
theorem fillsF_len (ws : List Wr) : ∀ (l : List Nat) (i : Nat), (fillsF ws i l).length ≤ l.length
 | [], _ => by simp [fillsF]
 | x :: l, i => by
  have ih := fillsF_len ws l (i + 1)
  unfold fillsF
  split
  ·simp; omega
  ·split
   ·simp; omega
   ·simp; omega
theorem dnew_right (wv tv fv : Value) (d : Dk) (w : World) (h : IsDk w wv tv fv d) (hr : rightD d = true) (hf9 : d.fs.length < 1000) :
  Calls Tryz.prog 24 #[.agg #[wv, tv, fv]] w fun e w' => ∃ (P : Bp) (X : List Th), e = .returned (.tuple #[.pointer (some ⟨P.b, 0, none⟩), .int .i64 0]) ∧ P.d = d ∧ BoardM P w' 0 [] X ∧ w.heap.size ≤ P.lo ∧ P.top = w'.heap.size ∧ B w w' :=
 have s := rightD_small hr
 dnew_yes wv tv fv d w h hr s.wn s.wi s.tn s.fi hf9
theorem BoardM.low {P : Bp} {w : World} {m9 : Nat} {E : List Ent} {X : List Th} (h : BoardM P w m9 E X) : P.lo ≤ P.bm ∧ ∀ i, P.S i → P.lo ≤ i := by
 have h1 := h.lohi
 have h2 := h.hibm
 refine ⟨by omega, fun i hi => ?_⟩
 have := (h.sLow i hi).1
 omega
end Go.Proofs.YtalnfojaccfcjaaGreatDoor
namespace Go.Proofs.YtalnfojaccfcjaaGreatDoor
open Go.RowKit
set_option linter.unusedVariables false
def kd11 : Dk := seatD 0 1 0 1 [7]
theorem kd_right : rightD kd11 = true := seat_right (by decide) (by decide) (by decide) (by decide) [7]
theorem kd_idx : indexC kd11.ws 0 namePlate 0 0 = some 0 := by kernel_rfl
theorem kd_no : indexC kd11.ws 0 ⟨#[112, 108, 97, 116]⟩ 0 0 = none := by kernel_rfl
theorem kd_start : ∃ l, startD kd11 = (60001, 60001) :: l ∧ 2 < l.length + 1 := ⟨[(0, 0), (0, 0), (0, 0)], by kernel_rfl, by decide⟩
theorem kd_shape {i : Nat} {rc : Wr} (h : kd11.ws[i]? = some rc) (hn : rc.n = namePlate) : rc.l = shapeOf 0 := by
 match i with
 | 0 => obtain rfl := Option.some.inj h; rfl
 | 1 => obtain rfl := Option.some.inj h; exact absurd (congrArg (fun b : ByteArray => b.size) hn) (by decide)
 | n + 2 => simp [kd11, seatD, wares7] at h
theorem kd_height : hsumI (shapeOf 0) (shapeOf 0).length = 10000 := by decide
def bad11 : Dk := ⟨[], [⟨⟨#[]⟩, 0, 0, 0, []⟩], []⟩
theorem bad_no : rightD bad11 = false := by kernel_rfl
set_option maxRecDepth 100000 in
set_option maxHeartbeats 4000000 in
theorem known11_any (w : World) (hp : Pow10 w) : Calls Tryz.prog 23 #[] w fun e w' => e = .returned (.bool true) ∧ B w w' := by
 have q0 : B w (w.alloc (.cells #[.int .u32 7] 95)) := (B.refl w).alloc _ _
 have o0 := obj_new w (.cells #[.int .u32 7] 95)
 have hU : IsU32s (w.alloc (.cells #[.int .u32 7] 95)) (.slice (some ⟨w.heap.size, 0, none⟩) 1 1) [7] := ⟨some ⟨w.heap.size, 0, none⟩, 1, rfl, by decide, fun i x h => by
  match i with
  | 0 =>
   obtain rfl : 7 = x := by simpa using h
   exact ⟨by decide, w.heap.size, 0, rfl, by rw [obj_cell o0]; rfl⟩
  | n + 1 => simp at h⟩
 have cD := deck_any 0 1 0 1 _ [7] (by decide) (by decide) (by decide) (by decide) (by decide) _ hU
 go_enter Tryz.func23, Tryz.ntmps23
 go_wp2_with fail
 refine cD.mono ?_
 rintro e w1 ⟨wv, tv, fv, rfl, hD, q1⟩
 have b1 := q0.trans q1
 clear cD hU o0 q0 q1
 have cN := dnew_right wv tv fv kd11 w1 hD kd_right (by decide)
 go_wp2_with fail
 refine cN.mono ?_
 rintro e w2 ⟨P, X, rfl, hPd, hM, hlo, _, q2⟩
 have hlow := hM.low
 have hz1 := b1.below.size
 have b2 := b1.trans q2
 clear cN hD q2
 have hB9 := (B.refl w2).alloc #[.string ⟨#[]⟩, .int .i64 0, .int .i64 0, .int .i64 0, .slice none 0 0] 35
 have o9 := obj_new w2 (.cells #[.string ⟨#[]⟩, .int .i64 0, .int .i64 0, .int .i64 0, .slice none 0 0] 35)
 have hbad : IsDk (w2.alloc (.cells #[.string ⟨#[]⟩, .int .i64 0, .int .i64 0, .int .i64 0, .slice none 0 0] 35)) (.slice none 0 0) (.slice (some ⟨w2.heap.size, 0, none⟩) 1 1) (.slice none 0 0) bad11 := ⟨.inl ⟨rfl, rfl⟩, .inr ⟨⟨w2.heap.size, 0, none⟩, 1, rfl, Nat.le_refl _, by decide, fun i r h => by
  match i with
  | 0 =>
   obtain rfl := Option.some.inj h
   exact ⟨obj_cell o9 0, obj_cell o9 1, obj_cell o9 2, obj_cell o9 3, .slice none 0 0, obj_cell o9 4, .inl ⟨rfl, rfl⟩⟩
  | n + 1 => simp [bad11] at h⟩, .inl ⟨rfl, rfl⟩⟩
 have cB := dnew_no _ _ _ bad11 _ hbad bad_no (by intro r h; cases h) (by intro r h; cases h) (by intro r h; obtain rfl := List.mem_singleton.1 h; decide) (by intro f h; cases h) (by decide)
 have HM := Lib.hid (hM.keepB hB9)
 have hb9 := b2.trans hB9
 clear hM hbad o9 hB9
 go_wp2_with fail
 refine cB.mono ?_
 rintro e w3 ⟨rfl, q3⟩
 have hM3 := HM.out.keepB q3
 have b3 := hb9.trans q3
 clear HM hb9 cB b2
 have cW := dwell_yes w w3 b3 hp (by omega) hM3 namePlate 0 0 (by decide) (by decide) (by decide) 0 (by rw [hPd]; exact kd_idx)
 go_wp2_with fail
 refine cW.mono ?_
 rintro e w4 ⟨i, rc, p, e0, n', E', X', hi, hrn, rfl, hpp, hE, hM4, hg⟩
 rw [hPd] at hi
 have hsh := kd_shape hi hrn
 have hE1 : E' = [e0] := by
  rcases hE.2.2 with h | ⟨_, _, h⟩
  ·have := hE.1; rw [h] at this; cases this
  ·exact h
 have hel := hE.2.1
 rw [hsh] at hel
 subst hE1
 have b4 := hg.b b3 (fun i hi => by have := hlow.2 i hi; omega)
 clear cW hE hg hM3 b3 hi hrn hsh
 have cX := dwell_no w w4 b4 hp (by omega) hM4 ⟨#[112, 108, 97, 116]⟩ 0 0 (by decide) (by decide) (by decide) (by rw [hPd]; exact kd_no)
 go_wp2_with fail
 refine cX.mono ?_
 rintro e w5 ⟨rfl, hM5, q5⟩
 have b5 := b4.trans q5
 clear cX hM4 b4 q5
 have cH := ent_tall w5 hM5.cache e0 (by simp) hpp
 rw [hel, kd_height] at cH
 go_wp2_with fail
 refine cH.mono ?_
 rintro e w6 ⟨rfl, q6⟩
 have hM6 := hM5.keepB q6
 have cT := dtables_any w6 hM6
 have b6 := b5.trans q6
 clear cH hM5 b5 q6
 have hfi := (rightD_small kd_right).fi
 rw [← hPd] at hfi
 have hf9 : P.d.fs.length ≤ 1000000 := by rw [hPd]; decide
 have cS := dstart_any w6 hM6 hfi hf9
 go_wp2_with fail
 refine cT.mono ?_
 rintro e w7 ⟨rfl, rfl⟩
 obtain ⟨l, hl, hl2⟩ := kd_start
 rw [hPd, hl] at cS
 go_wp2_with fail
 refine cS.mono ?_
 rintro e w8 ⟨g, rfl, hg8, q8⟩
 have hM8 := hM6.keepB q8
 have b8 := b6.trans q8
 have cS2 := dstart_any w8 hM8 hfi hf9
 rw [hPd, hl] at cS2
 have hlI : (2 : Int) < ((((60001, 60001) :: l : List (Int × Int)).length : Nat) : Int) := by simp; omega
 clear cS cT hg8 q8 hM6 b6
 obtain ⟨ln, hln⟩ : ∃ ln, ((60001, 60001) :: l : List (Int × Int)).length = ln := ⟨_, rfl⟩
 rw [hln] at hlI cS2
 have hlB : decide ((2 : Int) < (ln : Int)) = true := decide_eq_true hlI
 have hlN : decide (2 < ln) = true := decide_eq_true (by omega)
 have hl0 : (0 : Int) < (ln : Int) := by omega
 rw [hln]
 go_wp2_with fail
 refine cS2.mono ?_
 rintro e w9 ⟨g9, rfl, hg9, q9⟩
 have y0 := hg9.cellAt 0 (by omega)
 have y0' : w9.cell? ⟨g9, 0, none⟩ = some (.int .i64 60001) := y0
 have HZ := Lib.hid (b8.trans q9)
 clear hg9 q9 y0 hln
 go_wp2
 go_ret
 exact ⟨rfl, HZ.out⟩
end Go.Proofs.YtalnfojaccfcjaaGreatDoor
namespace Go.Proofs.YtalnfojaccfcjaaGreatDoor
open Go.RowKit
theorem shape_blocks (w : World) (m : Nat) (V : Value) (hm : m < 6) (h : [Value.slice (some ⟨w.heap.size, 0, none⟩) 1 1, Value.slice (some ⟨w.heap.size + 1, 0, none⟩) 2 2, Value.slice (some ⟨w.heap.size + 1 + 1, 0, none⟩) 1 1, Value.slice (some ⟨w.heap.size + 1 + 1 + 1, 0, none⟩) 2 2, Value.slice (some ⟨w.heap.size + 1 + 1 + 1 + 1, 0, none⟩) 1 1, Value.slice (some ⟨w.heap.size + 1 + 1 + 1 + 1 + 1, 0, none⟩) 3 3][m]? = some V) : ∀ g, V.ownBlock = some g → w.heap.size ≤ g := by
 intro g hg
 match m, hm with
 | 0, _ => obtain rfl := Option.some.inj h; have e := Option.some.inj hg; simp at e; omega
 | 1, _ => obtain rfl := Option.some.inj h; have e := Option.some.inj hg; simp at e; omega
 | 2, _ => obtain rfl := Option.some.inj h; have e := Option.some.inj hg; simp at e; omega
 | 3, _ => obtain rfl := Option.some.inj h; have e := Option.some.inj hg; simp at e; omega
 | 4, _ => obtain rfl := Option.some.inj h; have e := Option.some.inj hg; simp at e; omega
 | 5, _ => obtain rfl := Option.some.inj h; have e := Option.some.inj hg; simp at e; omega
set_option maxHeartbeats 4000000 in
theorem shape_new (k : Int) (h1 : 0 ≤ k) (h2 : k ≤ 255) (w : World) :
  Calls Tryz.prog 43 #[.int .u8 k] w fun e w' => ∃ v, e = .returned v ∧ IsSecs w' v (shapeOf (k % 6).toNat) ∧ Q w w' ∧ ∀ g, v.ownBlock = some g → w.heap.size ≤ g := by
 obtain ⟨V, hp⟩ := shape_pick w (k % 6).toNat (by omega)
 have HP := Lib.hid hp
 have hm : (k % 6).toNat < 6 := by omega
 have HM := Lib.hid hm
 clear hm
 go_enter Tryz.func43, Tryz.ntmps43
 go_wp2
 go_ret
 refine ⟨V, rfl, ?_, ?_, shape_blocks w _ V HM.out HP.out⟩
 ·clear hp h1 h2
  have hp := HP.out
  have hm := HM.out
  clear HP HM
  generalize (k % 6).toNat = m at *
  match m, hm with
  | 0, _ =>
   obtain rfl : Value.slice (some ⟨w.heap.size, 0, none⟩) 1 1 = V := Option.some.inj hp
   exact (isSecs_new (l := shapeOf 0) rfl (by simp) (fitsB_I (by decide)) (by decide) (by decide)).keep (((((((Q.refl _).alloc _ _).alloc _ _).alloc _ _).alloc _ _).alloc _ _).alloc _ _)
  | 1, _ =>
   obtain rfl : Value.slice (some ⟨w.heap.size + 1, 0, none⟩) 2 2 = V := Option.some.inj hp
   exact (isSecs_new (l := shapeOf 1) rfl (by simp) (fitsB_I (by decide)) (by decide) (by decide)).keep ((((((Q.refl _).alloc _ _).alloc _ _).alloc _ _).alloc _ _).alloc _ _)
  | 2, _ =>
   obtain rfl : Value.slice (some ⟨w.heap.size + 1 + 1, 0, none⟩) 1 1 = V := Option.some.inj hp
   exact (isSecs_new (l := shapeOf 2) rfl (by simp) (fitsB_I (by decide)) (by decide) (by decide)).keep (((((Q.refl _).alloc _ _).alloc _ _).alloc _ _).alloc _ _)
  | 3, _ =>
   obtain rfl : Value.slice (some ⟨w.heap.size + 1 + 1 + 1, 0, none⟩) 2 2 = V := Option.some.inj hp
   exact (isSecs_new (l := shapeOf 3) rfl (by simp) (fitsB_I (by decide)) (by decide) (by decide)).keep ((((Q.refl _).alloc _ _).alloc _ _).alloc _ _)
  | 4, _ =>
   obtain rfl : Value.slice (some ⟨w.heap.size + 1 + 1 + 1 + 1, 0, none⟩) 1 1 = V := Option.some.inj hp
   exact (isSecs_new (l := shapeOf 4) rfl (by simp) (fitsB_I (by decide)) (by decide) (by decide)).keep (((Q.refl _).alloc _ _).alloc _ _)
  | 5, _ =>
   obtain rfl : Value.slice (some ⟨w.heap.size + 1 + 1 + 1 + 1 + 1, 0, none⟩) 3 3 = V := Option.some.inj hp
   exact (isSecs_new (l := shapeOf 5) rfl (by simp) (fitsB_I (by decide)) (by decide) (by decide)).keep ((Q.refl _).alloc _ _)
 ·exact ((((((((Q.refl _).alloc _ _).alloc _ _).alloc _ _).alloc _ _).alloc _ _).alloc _ _).alloc _ _)
end Go.Proofs.YtalnfojaccfcjaaGreatDoor
namespace Go.Proofs.YtalnfojaccfcjaaGreatDoor
open Go.RowKit
set_option linter.unusedVariables false
def stD (V TL : Int) (k : Nat) : Dk := ⟨[⟨⟨#[112]⟩, 2, 3, TL, shapeOf 0⟩], [], [⟨⟨#[112]⟩, (k / 3 : Nat), (k % 3 : Nat), V⟩]⟩
theorem st_right {V TL : Int} {k : Nat} (h1 : 0 ≤ V ∧ V ≤ 20000000) (h2 : 0 ≤ TL ∧ TL ≤ 1000000) (hk : k < 6) : rightD (stD V TL k) = true := by
 have e1 : inB TL 0 1000000 = true := by unfold inB; simp; omega
 have e2 : inB V 0 20000000 = true := by unfold inB; simp; omega
 have e3 : wareOk ⟨⟨#[112]⟩, 2, 3, TL, shapeOf 0⟩ = true := by
  unfold wareOk
  simp only [e1]
  kernel_rfl
 have e4 : apartW wareOk [(⟨⟨#[112]⟩, 2, 3, TL, shapeOf 0⟩ : Wr)] = true := by
  unfold apartW
  simp [e3, namedW]
 have hh : ∀ k, k < 6 → hasW [(⟨⟨#[112]⟩, 2, 3, TL, shapeOf 0⟩ : Wr)] ⟨#[112]⟩ ((k / 3 : Nat) : Int) ((k % 3 : Nat) : Int) = true := fun k hk => by
  match k, hk with
  | 0, _ => show hasW _ _ _ _ = true; kernel_rfl
  | 1, _ => show hasW _ _ _ _ = true; kernel_rfl
  | 2, _ => show hasW _ _ _ _ = true; kernel_rfl
  | 3, _ => show hasW _ _ _ _ = true; kernel_rfl
  | 4, _ => show hasW _ _ _ _ = true; kernel_rfl
  | 5, _ => show hasW _ _ _ _ = true; kernel_rfl
 have e5 : ∀ r c : Int, hasW [(⟨⟨#[112]⟩, 2, 3, TL, shapeOf 0⟩ : Wr)] ⟨#[112]⟩ r c = true → fillsOk [(⟨⟨#[112]⟩, 2, 3, TL, shapeOf 0⟩ : Wr)] [(⟨⟨#[112]⟩, r, c, V⟩ : Fl)] = true := fun r c h => by
  unfold fillsOk
  simp [h, e2, filledW]
 unfold rightD stD
 simp only
 rw [e4, e5 _ _ (hh k hk)]
 rfl
theorem st_start {V TL : Int} {k : Nat} (hk : k < 6) : startD (stD V TL k) = (List.replicate 6 (0, 0)).set k (max (V - TL) 0, V + TL) := by
 match k, hk with
 | 0, _ => show startD _ = _; kernel_rfl
 | 1, _ => show startD _ = _; kernel_rfl
 | 2, _ => show startD _ = _; kernel_rfl
 | 3, _ => show startD _ = _; kernel_rfl
 | 4, _ => show startD _ = _; kernel_rfl
 | 5, _ => show startD _ = _; kernel_rfl
set_option maxRecDepth 100000 in
set_option maxHeartbeats 4000000 in
theorem starts_law (v tol n : Int) (hv : (Lit.int .u32 v).wf = true) (ht : (Lit.int .u32 tol).wf = true) (hn : (Lit.int .u8 n).wf = true) (w : World) (hp : Pow10 w) : Calls Tryz.prog 7 #[.int .u32 v, .int .u32 tol, .int .u8 n] w fun e w' => e = .returned (.bool true) ∧ B w w' := by
 have cK := known11_any w hp
 obtain ⟨n1, n2⟩ := u8_wf hn
 have hv2 : 0 ≤ v ∧ v ≤ 4294967295 := by simp [Lit.wf, IntKind.min, IntKind.max, IntKind.signed, IntKind.bits] at hv; omega
 have ht2 : 0 ≤ tol ∧ tol ≤ 4294967295 := by simp [Lit.wf, IntKind.min, IntKind.max, IntKind.signed, IntKind.bits] at ht; omega
 obtain ⟨V, hV⟩ : ∃ V, v % 20000000 = V := ⟨_, rfl⟩
 obtain ⟨TL, hTL⟩ : ∃ TL, tol % 1000000 = TL := ⟨_, rfl⟩
 obtain ⟨k, hk⟩ : ∃ k : Nat, n % 6 = (k : Int) := ⟨(n % 6).toNat, by omega⟩
 have t1 : v.tmod 20000000 = V := by rw [Int.tmod_eq_emod_of_nonneg (by omega)]; exact hV
 have t2 : tol.tmod 1000000 = TL := by rw [Int.tmod_eq_emod_of_nonneg (by omega)]; exact hTL
 have t3 : n.tmod 6 = (k : Int) := by rw [Int.tmod_eq_emod_of_nonneg (by omega)]; exact hk
 have w1 : IntKind.i64.wrap V = V := by rw [IntKind.wrap_i64]; omega
 have w2 : IntKind.i64.wrap TL = TL := by rw [IntKind.wrap_i64]; omega
 have w3 : IntKind.i64.wrap (k : Int) = (k : Int) := by rw [IntKind.wrap_i64]; omega
 have hk6 : k < 6 := by omega
 obtain ⟨k3, hk3⟩ : ∃ k3 : Nat, k / 3 = k3 := ⟨_, rfl⟩
 obtain ⟨m3, hm3⟩ : ∃ m3 : Nat, k % 3 = m3 := ⟨_, rfl⟩
 have t4 : IntKind.i64.wrap ((k : Int).tdiv 3) = (k3 : Int) := by rw [Int.tdiv_eq_ediv_of_nonneg (by omega), IntKind.wrap_i64]; omega
 have t5 : (k : Int).tmod 3 = (m3 : Int) := by rw [Int.tmod_eq_emod_of_nonneg (by omega)]; omega
 have t6 : (k : Int) / 3 = (k3 : Int) := by omega
 have t7 : (k : Int) % 3 = (m3 : Int) := by omega
 have t8 : IntKind.i64.wrap (k3 : Int) = (k3 : Int) := by rw [IntKind.wrap_i64]; omega
 have hbV : 0 ≤ V ∧ V ≤ 20000000 := by omega
 have hbT : 0 ≤ TL ∧ TL ≤ 1000000 := by omega
 have hR := st_right hbV hbT hk6
 have hS := st_start (V := V) (TL := TL) hk6
 have hSD : stD V TL k = ⟨[⟨⟨#[112]⟩, 2, 3, TL, shapeOf 0⟩], [], [⟨⟨#[112]⟩, (k3 : Int), (m3 : Int), V⟩]⟩ := by unfold stD; rw [hk3, hm3]
 have cS := fun w => shape_new 0 (by decide) (by decide) w
 have hnot : ∀ (x : Bool) (w : World), (Op.unary .not (.bool x)).run Tryz.prog w = .ok (.bool (!x)) w := fun _ _ => rfl
 clear hV hTL hk hk3 hm3 hv ht hn
 go_enter Tryz.func7, Tryz.ntmps7
 go_wp2_with fail
 refine cK.mono ?_
 rintro e w0 ⟨rfl, b0⟩
 clear cK
 go_wp2_with fail
 refine (cS _).mono ?_
 rintro e wa ⟨sv, rfl, hsv, qs, _⟩
 obtain ⟨so, sn, sc, rfl⟩ := hsv.form
 have b1 := b0.trans qs.b
 clear qs b0 cS
 go_wp2_with fail
 have z1 : (wa.alloc (.cells #[.string ⟨#[112]⟩, .int .i64 2, .int .i64 3, .int .i64 TL, .slice so sn sc] 33)).heap.size = wa.heap.size + 1 := by simp
 have oA : (((wa.alloc (.cells #[.string ⟨#[112]⟩, .int .i64 2, .int .i64 3, .int .i64 TL, .slice so sn sc] 33)).alloc (.cells #[.string ⟨#[112]⟩, .int .i64 (k3 : Int), .int .i64 (m3 : Int), .int .i64 V] 41)).alloc (.cells #[.slice (some ⟨wa.heap.size, 0, none⟩) 1 1, .slice none 0 0, .slice (some ⟨wa.heap.size + 1, 0, none⟩) 1 1] 26)).heap[wa.heap.size]? = some (.cells #[.string ⟨#[112]⟩, .int .i64 2, .int .i64 3, .int .i64 TL, .slice so sn sc] 33 (0, 0)) := obj_past (obj_past (obj_new wa _) _) _
 have oF : (((wa.alloc (.cells #[.string ⟨#[112]⟩, .int .i64 2, .int .i64 3, .int .i64 TL, .slice so sn sc] 33)).alloc (.cells #[.string ⟨#[112]⟩, .int .i64 (k3 : Int), .int .i64 (m3 : Int), .int .i64 V] 41)).alloc (.cells #[.slice (some ⟨wa.heap.size, 0, none⟩) 1 1, .slice none 0 0, .slice (some ⟨wa.heap.size + 1, 0, none⟩) 1 1] 26)).heap[wa.heap.size + 1]? = some (.cells #[.string ⟨#[112]⟩, .int .i64 (k3 : Int), .int .i64 (m3 : Int), .int .i64 V] 41 (0, 0)) := by
  have := obj_new (wa.alloc (.cells #[.string ⟨#[112]⟩, .int .i64 2, .int .i64 3, .int .i64 TL, .slice so sn sc] 33)) (.cells #[.string ⟨#[112]⟩, .int .i64 (k3 : Int), .int .i64 (m3 : Int), .int .i64 V] 41)
  rw [z1] at this
  exact obj_past this _
 have q3 : B wa (((wa.alloc (.cells #[.string ⟨#[112]⟩, .int .i64 2, .int .i64 3, .int .i64 TL, .slice so sn sc] 33)).alloc (.cells #[.string ⟨#[112]⟩, .int .i64 (k3 : Int), .int .i64 (m3 : Int), .int .i64 V] 41)).alloc (.cells #[.slice (some ⟨wa.heap.size, 0, none⟩) 1 1, .slice none 0 0, .slice (some ⟨wa.heap.size + 1, 0, none⟩) 1 1] 26)) := ((((B.refl wa).alloc _ _).alloc _ _).alloc _ _)
 have hD : IsDk (((wa.alloc (.cells #[.string ⟨#[112]⟩, .int .i64 2, .int .i64 3, .int .i64 TL, .slice so sn sc] 33)).alloc (.cells #[.string ⟨#[112]⟩, .int .i64 (k3 : Int), .int .i64 (m3 : Int), .int .i64 V] 41)).alloc (.cells #[.slice (some ⟨wa.heap.size, 0, none⟩) 1 1, .slice none 0 0, .slice (some ⟨wa.heap.size + 1, 0, none⟩) 1 1] 26)) (.slice (some ⟨wa.heap.size, 0, none⟩) 1 1) (.slice none 0 0) (.slice (some ⟨wa.heap.size + 1, 0, none⟩) 1 1) (stD V TL k) := by
  rw [hSD]
  refine ⟨.inr ⟨⟨wa.heap.size, 0, none⟩, 1, rfl, Nat.le_refl _, by decide, fun i r h => ?_⟩, .inl ⟨rfl, rfl⟩, .inr ⟨⟨wa.heap.size + 1, 0, none⟩, 1, rfl, Nat.le_refl _, by decide, fun i r h => ?_⟩⟩
  ·match i with
   | 0 =>
    obtain rfl := Option.some.inj h
    exact ⟨obj_cell oA 0, obj_cell oA 1, obj_cell oA 2, obj_cell oA 3, _, obj_cell oA 4, hsv.keepB q3⟩
   | n + 1 => simp at h
  ·match i with
   | 0 =>
    obtain rfl := Option.some.inj h
    exact ⟨obj_cell oF 0, obj_cell oF 1, obj_cell oF 2, obj_cell oF 3⟩
   | n + 1 => simp at h
 have cN := dnew_right _ _ _ _ _ hD hR (by rw [hSD]; simp)
 have b3 := b1.trans q3
 clear oA oF z1 q3 hsv b1 hD
 generalize (((wa.alloc (.cells #[.string ⟨#[112]⟩, .int .i64 2, .int .i64 3, .int .i64 TL, .slice so sn sc] 33)).alloc (.cells #[.string ⟨#[112]⟩, .int .i64 (k3 : Int), .int .i64 (m3 : Int), .int .i64 V] 41)).alloc (.cells #[.slice (some ⟨wa.heap.size, 0, none⟩) 1 1, .slice none 0 0, .slice (some ⟨wa.heap.size + 1, 0, none⟩) 1 1] 26)) = w1' at *
 refine cN.mono ?_
 rintro e w4 ⟨P, X, rfl, hPd, hM, hlo, _, q4⟩
 have b4 := b3.trans q4
 have hsm := (rightD_small hR).fi
 rw [← hPd] at hsm
 have cT := dstart_any w4 hM hsm (by rw [hPd, hSD]; simp)
 rw [hPd, hS] at cT
 obtain ⟨MX, hMX⟩ : ∃ MX, max (V - TL) 0 = MX := ⟨_, rfl⟩
 obtain ⟨PL, hPL⟩ : ∃ PL, V + TL = PL := ⟨_, rfl⟩
 obtain ⟨MI, hMI⟩ : ∃ MI, V - TL = MI := ⟨_, rfl⟩
 rw [hMX, hPL] at cT
 rw [hMI] at hMX
 have u1 : IntKind.i64.wrap (V - TL) = MI := by rw [IntKind.wrap_i64]; omega
 have u2 : IntKind.i64.wrap (V + TL) = PL := by rw [IntKind.wrap_i64]; omega
 obtain ⟨SL, hSL⟩ : ∃ SL, (List.replicate 6 ((0 : Int), (0 : Int))).set k (MX, PL) = SL := ⟨_, rfl⟩
 have hl6 : SL.length = 6 := by rw [← hSL]; simp
 have hat : ∀ i, i < 6 → SL[i]? = some (if i = k then (MX, PL) else (0, 0)) := fun i hi => by
  rw [← hSL]
  by_cases e : i = k
  ·subst e
   rw [List.getElem?_set_self (by simpa using hi), if_pos rfl]
  ·rw [List.getElem?_set_ne (fun h => e h.symm), if_neg e, List.getElem?_replicate, if_pos hi]
 rw [hSL, hl6] at cT
 have HK := Lib.hid (And.intro hat hk6)
 clear hSL hl6 hat hPL hMI hS hR hSD hbV hbT hM hsm q4 b3 hlo hPd cN hk6
 go_wp2_with fail
 refine cT.mono ?_
 rintro e w5 ⟨g, rfl, hrow, q5⟩
 have b5 := b4.trans q5
 clear q5 b4 cT t1 t2 t3 t4 t5 t6 t7 t8 w1 w2
 go_wp2_with fail
 go_loopw [14] (fun iv wr => ∃ i : Nat, i ≤ 6 ∧ iv = .int .i64 i ∧ B w5 wr) (fun iv _ => 7 - (intOf iv).toNat)
 case atStart => exact ⟨0, by omega, rfl, B.refl _⟩
 case round =>
  obtain ⟨i, hi, rfl, qr⟩ := hrel
  obtain ⟨wl, rfl⟩ : ∃ wl : World, wl = wr := ⟨_, rfl⟩
  by_cases hl : i < 6
  ·have hlB : decide ((i : Int) < (6 : Int)) = true := decide_eq_true (by omega)
   have hlN : decide (i < 6) = true := decide_eq_true hl
   have hi0 : (0 : Int) ≤ (i : Int) := by omega
   have hiI : (i : Int) < (6 : Int) := by omega
   have wk1 : IntKind.i64.wrap ((i : Int) + 1) = (i : Int) + 1 := by rw [IntKind.wrap_i64]; omega
   have hrl := own_keepBx hrow qr
   obtain ⟨p0, p1⟩ := flatP_get _ _ _ (HK.out.1 i hl)
   have y0 := (hrl.cellAt (i * 2) (by omega)).trans p0
   have y1 := (hrl.cellAt (i * 2 + 1) (by omega)).trans p1
   have hgl := (hrl.lt g rfl).2
   clear p0 p1 hrl
   by_cases hik : i = k
   ·rw [if_pos hik] at y0 y1
    have hikB : ((i : Int) == (k : Int)) = true := by rw [hik]; simp
    have HL := Lib.hid (And.intro hl (And.intro hik qr))
    clear hik hl qr
    go_wp2_with fail
    go_quiet (fail)
    go_wp2
    go_roundw
    case rel =>
     have hl := HL.out.1
     have qr := HL.out.2.2
     first
      | exact ⟨i + 1, by omega, by go_num, (qr.alloc _ _).drewN _⟩
      | exact ⟨i + 1, by omega, by go_num, qr.alloc _ _⟩
    case measure => have := HL.out.1; simp [intOf]; omega
   ·rw [if_neg hik] at y0 y1
    have hikB : ((i : Int) == (k : Int)) = false := by simp; omega
    have HL := Lib.hid (And.intro hl qr)
    clear hik hl qr
    go_wp2_with fail
    go_quiet (fail)
    go_wp2
    go_roundw
    case rel =>
     have hl := HL.out.1
     have qr := HL.out.2
     first
      | exact ⟨i + 1, by omega, by go_num, (qr.alloc _ _).drewN _⟩
      | exact ⟨i + 1, by omega, by go_num, qr.alloc _ _⟩
    case measure => have := HL.out.1; simp [intOf]; omega
  ·have hlB : decide ((i : Int) < (6 : Int)) = false := decide_eq_false (by omega)
   have hlN : decide (i < 6) = false := decide_eq_false hl
   have HZ := Lib.hid (b5.trans qr)
   clear qr
   go_wp2
   go_ret
   exact ⟨rfl, HZ.out⟩
theorem starts_ok (v tol n : Int) (hv : (Lit.int .u32 v).wf = true) (ht : (Lit.int .u32 tol).wf = true) (hn : (Lit.int .u8 n).wf = true) (w : World) (htab : Lib.TabIs Tryz.prog w "internal/strconv.uint64pow10" .u64 Lib.pow10Tab) :
  Calls Tryz.prog 7 #[.int .u32 v, .int .u32 tol, .int .u8 n] w fun e w' => e = .returned (.bool true) ∧ B w w' := starts_law v tol n hv ht hn w (Lib.tabBelow_of_tabIs htab)
end Go.Proofs.YtalnfojaccfcjaaGreatDoor
namespace Go.Proofs.YtalnfojaccfcjaaGreatDoor
open Go.RowKit
theorem r3slices_any (p : Value) (L : List (Int × Int)) (hb : L.length ≤ 600) (w : World) (ht : RTab w p L) :
  Calls Tryz.prog 33 #[p] w fun e w' => e = .returned (.int .i64 L.length) ∧ w = w' := by
 obtain ⟨b, aL, cL, aH, cH, rfl, h1, h2, h3, h4⟩ := ht
 clear h2 h3 h4
 obtain ⟨N, hN⟩ : ∃ N, L.length = N := ⟨_, rfl⟩
 rw [hN] at h1 hb ⊢
 have w2 : IntKind.i64.wrap (N : Int) = (N : Int) := wrapI (by omega) (by omega)
 go_enter Tryz.func33, Tryz.ntmps33
 go_wp2
 go_ret
 exact ⟨rfl, rfl⟩
theorem r3near_any (p : Value) (L : List (Int × Int)) (hb : L.length ≤ 600) (i : Int) (w : World) (ht : RTab w p L) :
  Calls Tryz.prog 87 #[p, .int .i64 i] w fun e w' => e = .returned (.int .i64 (nearI L.length i : Int)) ∧ w = w' := by
 have c := r3slices_any p L hb w ht
 have e1 := nearI_eq L.length i
 obtain ⟨b, aL, cL, aH, cH, rfl, _⟩ := ht
 obtain ⟨m, e2⟩ : ∃ m, max i 0 = m := ⟨_, rfl⟩
 rw [e2] at e1
 generalize nearI L.length i = n at *
 go_enter Tryz.func87, Tryz.ntmps87
 go_wp2_with fail
 refine c.mono ?_
 rintro e w1 ⟨rfl, rfl⟩
 go_wp2
 go_ret
 exact ⟨rfl, rfl⟩
end Go.Proofs.YtalnfojaccfcjaaGreatDoor
namespace Go.Proofs.YtalnfojaccfcjaaGreatDoor
open Go.RowKit
theorem r3low_any (p : Value) (L : List (Int × Int)) (hb : L.length ≤ 600) (i : Int) (w : World) (ht : RTab w p L) :
  Calls Tryz.prog 35 #[p, .int .i64 i] w fun e w' => e = .returned (.int .i64 (lowT L (nearI L.length i))) ∧ Dr w w' := by
 have htt := ht
 obtain ⟨b, aL, cL, aH, cH, rfl, h1, h2, h3, h4⟩ := ht
 have c := fun w ht => r3near_any (.pointer (some ⟨b, 0, none⟩)) L hb i w ht
 have hn := nearI_le L.length i
 have hc := h1
 have hx := h3 _ hn
 have hnI : (nearI L.length i : Int) < (L.length : Int) + 1 := by omega
 clear h1 h2 h3 h4
 generalize lowT L (nearI L.length i) = X at *
 generalize nearI L.length i = n at *
 obtain ⟨N, hN⟩ : ∃ N, L.length = N := ⟨_, rfl⟩
 rw [hN] at hc hn hnI
 go_enter Tryz.func35, Tryz.ntmps35
 go_wp2_with fail
 refine wp_region_noPanic ?_
 refine wp_region_seq (S := fun w' => w'.cell? ⟨b, 0, none⟩ = some (.slice (some aL) (N + 1) cL) ∧ w'.cell? (aL.add n) = some (.int .i64 X) ∧ RTab w' (.pointer (some ⟨b, 0, none⟩)) L ∧ Dr w w') [(0, 0), (1, 0), (2, 0), (3, 0), (4, 0), (5, 0), (6, 2), (7, 0), (8, 0), (9, 0)] [0, 1, 2, 4, 0, 0, 48, 72, 128, 511] [0, 1, 2, 4, 0, 0, 48, 72, 128, 256] (by kernel_rfl) (by kernel_rfl) (fun _ _ _ _ _ h => h) ?_ (fun hH => ?_)
 ·exact ⟨by simp [go_sem, hc], by simp [go_sem, hx], htt.keepB (B.refl w).drew, ⟨1, rfl⟩⟩
 refine wpSeq_take (d := 5) rfl rfl (by kernel_rfl) (fun w hS => by go_simp <;> with_reducible rfl) ?_
 dsimp only [sZ, sS]
 refine wpSeq_take (d := 6) rfl rfl (by kernel_rfl) (fun w hS => by go_simp <;> with_reducible rfl) ?_
 dsimp only [sZ, sS]
 refine wpSeq_take (d := 7) rfl rfl (by kernel_rfl) (fun w hS => by go_simp <;> with_reducible rfl) ?_
 dsimp only [sZ, sS]
 refine wpSeq_take (d := 8) rfl rfl (by kernel_rfl) (fun w hS => by go_simp <;> with_reducible rfl) ?_
 dsimp only [sZ, sS]
 refine wpSeq_take (d := 9) rfl rfl (by kernel_rfl) (fun w hS => by go_simp <;> with_reducible rfl) ?_
 dsimp only [sZ, sS]
 refine wpSeq_take (d := 10) rfl rfl (by kernel_rfl) (fun w hS => by go_simp <;> with_reducible rfl) ?_
 dsimp only [sZ, sS]
 refine wpSeq_call rfl (by kernel_rfl) (fun K hK => ?_)
 go_simp
 (with_reducible refine (c _ hH.2.2.1).mono ?_)
 rintro e w' ⟨rfl, rfl⟩
 refine hK.out _ _ hH fun hH => ?_
 clear hK
 refine wpSeq_take (d := 12) rfl rfl (by kernel_rfl) (fun w hS => by go_simp <;> with_reducible rfl) ?_
 dsimp only [sZ, sS]
 refine wpSeq_take (d := 13) rfl rfl (by kernel_rfl) (fun w hS => by go_simp <;> with_reducible rfl) ?_
 dsimp only [sZ, sS]
 refine wpSeq_take (d := 4) rfl rfl (by kernel_rfl) (fun w hS => by go_simp <;> with_reducible rfl) ?_
 dsimp only [sZ, sS]
 refine wpSeq_done ?_
 refine NoPanic.normal ?_
 obtain ⟨_, _, _, hd⟩ := hH
 go_wp2
 go_ret
 exact ⟨rfl, hd⟩
theorem r3tall_any (p : Value) (L : List (Int × Int)) (hb : L.length ≤ 600) (w : World) (ht : RTab w p L) :
  Calls Tryz.prog 40 #[p] w fun e w' => e = .returned (.int .i64 (L.length * 100)) ∧ w = w' := by
 have c := r3slices_any p L hb w ht
 obtain ⟨b, aL, cLL, aH, cHH, rfl, _⟩ := ht
 have w1 : IntKind.i64.wrap ((L.length : Int) * 100) = (L.length : Int) * 100 := wrapI (by omega) (by omega)
 have w2 : IntKind.i64.wrap (L.length : Int) = (L.length : Int) := wrapI (by omega) (by omega)
 go_enter Tryz.func40, Tryz.ntmps40
 go_wp2_with fail
 refine c.mono ?_
 rintro e w1 ⟨rfl, rfl⟩
 go_wp2
 go_ret
 exact ⟨rfl, rfl⟩
end Go.Proofs.YtalnfojaccfcjaaGreatDoor
namespace Go.Proofs.YtalnfojaccfcjaaGreatDoor
open Go.RowKit
theorem clow_any (p : Value) (L : List (Int × Int)) (i : Int) (w : World) (hb : TBnd L) (ht : CTab w p L) :
  Calls Tryz.prog 34 #[p, .int .i64 i] w fun e w' => e = .returned (.int .i64 (lowT L (nearI L.length i))) ∧ B w w' := by
 obtain ⟨b, aL, cL, aH, cH, hn, rfl, h0, h1, h2, h3, h4⟩ := ht
 have c := below_any (lowT L) (lowT_zero L) aL L.length cL hn hb.n i w h3
 generalize lowT L (nearI L.length i) = X at *
 clear h0 h2 h3 h4 hb hn
 go_enter Tryz.func34, Tryz.ntmps34
 go_wp2_with fail
 refine c.mono ?_
 rintro e w1 ⟨rfl, g⟩
 go_wp2
 go_ret
 exact ⟨rfl, g⟩
end Go.Proofs.YtalnfojaccfcjaaGreatDoor
namespace Go.Proofs.YtalnfojaccfcjaaGreatDoor
open Go.RowKit
theorem light_any (v : Value) (l : List Sec) (w : World) (hv : IsSecs w v l) (b : Bool) (hb : decide ((l.length : Int) ≤ 6) = b) :
  Calls Tryz.prog 45 #[v] w fun e w' => e = .returned (.bool b) ∧ w = w' := by
 obtain ⟨va, vc, rfl⟩ : ∃ va vc, v = .slice va l.length vc := by
  rcases hv with ⟨rfl, rfl⟩ | ⟨b, cb, rfl, _⟩
  ·exact ⟨_, _, rfl⟩
  ·exact ⟨_, _, rfl⟩
 clear hv
 go_enter Tryz.func45, Tryz.ntmps45
 go_wp2
 go_ret
 exact ⟨rfl, rfl⟩
end Go.Proofs.YtalnfojaccfcjaaGreatDoor
