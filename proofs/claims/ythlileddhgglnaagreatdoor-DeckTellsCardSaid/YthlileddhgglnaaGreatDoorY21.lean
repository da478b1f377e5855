/-
 Contracts and what they rest on.
-/
import Derived.Test.YthlileddhgglnaaGreatDoorChecked
import Derived.ProofKit
import Derived.OpenShut
import Derived.Deep.Slices
import Derived.ChangeArms
import Derived.Deep.QuietTactic
import Derived.BigQuiet
import Derived.Laws.Strings2
import Derived.Laws.Slices
import Derived.KernelRfl
import Derived.Test.YthlileddhgglnaaGreatDoorY20
namespace Go.Proofs.YthlileddhgglnaaGreatDoor
open Go.RowKit Go.Maps Go.WideMaps
set_option linter.unusedVariables false
section
variable {P : Bp} {m9 : Nat} {E : List Ent} {X : List Th}
theorem BoardM.keepA {S : Nat → Prop} {w w' : World} (h : BoardM P w m9 E X) (q : G S w w') (hS : ∀ i, S i → P.top ≤ i ∧ ∀ e ∈ E, i < e.b ∨ e.hi ≤ i) : BoardM P w' m9 E X := by
 have h1 := h.cache.lt
 have h2 := h.cache.lb
 have h3 := h.hibm
 have h4 := h.bamw
 have h5 := h.mwmt
 have h6 := h.mtb
 have h7 := h.btop
 have h8 := h.lohi
 have no : ∀ i, i < P.top → ¬ S i := fun i hi hs => by have := (hS i hs).1; omega
 exact ⟨q.obj (no _ (by omega)) h.obj, q.held h.dk (fun i h1 h9 => no i (by omega)), h.right, CacheM.apartG h.cache q (fun i hi => by
   have hh := (hS i hi).1
   refine ⟨by omega, by omega, fun e he => ?_⟩
   have h9 := (hS i hi).2 e he
   obtain ⟨y1, y2, y3⟩ := CacheM.his h.cache e he
   exact ⟨by omega, by omega⟩),
  h.wm.g q (no _ (by omega)), h.tm.g q (no _ (by omega)), h.lohi, h.hibm, h.bamw, h.mwmt, h.mtb, h.btop, Nat.le_trans h.top q.size, h.bX, h.blt, h.bap, h.ents,
  fun x hx => (h.things x hx).g q (fun i hi => by have := (hS i hi).1; have := h.blt x hx; omega), h.xw, h.xt, h.wl, h.tl, h.cnt, h.few⟩
theorem BoardM.newS {w : World} (h : BoardM P w m9 E X) {i : Nat} (hi : w.heap.size ≤ i) : ¬ P.S i := fun hs => by
 have := h.sLow i hs
 have := h.top
 omega
set_option maxRecDepth 100000 in
set_option maxHeartbeats 2000000 in
theorem dtip_no (w : World) (h : BoardM P w m9 E X) (n : ByteArray) (hns : n.size ≤ maxLen) (hno : namedL (P.d.ts.map (·.n)) n = false) :
  Calls Tryz.prog 29 #[.pointer (some ⟨P.b, 0, none⟩), .string n] w fun e w' => e = .returned (.tuple #[.agg #[.string ⟨#[]⟩, .int .i64 0, .int .i64 0, .int .i64 0, .slice none 0 0], .pointer none, .int .i64 28]) ∧ BoardM P w' m9 E X ∧ B w w' := by
 have qa : B w (w.alloc (.cells #[.string ⟨#[]⟩, .int .i64 0, .int .i64 0, .int .i64 0, .slice none 0 0] 35)) := (B.refl w).alloc _ _
 have hM := h.keepB qa
 have hL := look_thk hns hM.tm (v := .pointer none) (fun u ps hu => by rw [thD_no _ _ _ hno] at hu; exact ptrElem_nil hu)
 rw [hno] at hL
 have k5 := obj_cell hM.obj 5
 have HZ := Lib.hid (And.intro hM qa)
 have hnot : ∀ (x : Bool) (w : World), (Op.unary .not (.bool x)).run Tryz.prog w = .ok (.bool (!x)) w := fun _ _ => rfl
 clear hM h qa
 generalize P.b = b at *
 go_enter Tryz.func29, Tryz.ntmps29
 go_wp2
 obtain ⟨z1, z2⟩ := HZ.out
 refine bodyPost_ret (v := .tuple #[.agg #[.string ⟨#[]⟩, .int .i64 0, .int .i64 0, .int .i64 0, .slice none 0 0], .pointer none, .int .i64 28]) (by simp [results, Tryz.results29, go_sem]) rfl ⟨rfl, z1, z2⟩
set_option maxRecDepth 100000 in
set_option maxHeartbeats 2000000 in
theorem dtip_yes (W0 w : World) (hW : B W0 w) (hp : Pow10 W0) (hbm : W0.heap.size ≤ P.bm) (h : BoardM P w m9 E X) (n : ByteArray) (hns : n.size ≤ maxLen) (hyes : namedL (P.d.ts.map (·.n)) n = true) :
  Calls Tryz.prog 29 #[.pointer (some ⟨P.b, 0, none⟩), .string n] w fun e w' => ∃ (i : Nat) (rc : Wr) (p : Nat) (e0 : Ent) (n' : Nat) (E' : List Ent) (X' : List Th) (o9 : Option Addr) (c9 : Nat), P.d.ts[i]? = some rc ∧ rc.n = n ∧
   e = .returned (.tuple #[.agg #[.string rc.n, .int .i64 rc.x, .int .i64 rc.y, .int .i64 rc.z, .slice o9 rc.l.length c9], .pointer (some ⟨p, 0, none⟩), .int .i64 0]) ∧ IsSecs w' (.slice o9 rc.l.length c9) rc.l ∧ e0.p = .pointer (some ⟨p, 0, none⟩) ∧ Ext w.heap.size E E' rc.l e0 ∧ BoardM P w' n' E' X' ∧ G P.S w w' := by
 have qa : B w (w.alloc (.cells #[.string ⟨#[]⟩, .int .i64 0, .int .i64 0, .int .i64 0, .slice none 0 0] 35)) := (B.refl w).alloc _ _
 have oR := obj_new w (.cells #[.string ⟨#[]⟩, .int .i64 0, .int .i64 0, .int .i64 0, .slice none 0 0] 35)
 have hM := h.keepB qa
 obtain ⟨_, p4, _, pT⟩ := right_parts9 h.right
 obtain ⟨i, rc, xb, hi, hrn, hxb, htd⟩ := named_at pT hyes P.bt h.tl
 obtain ⟨x, hx, hxi, hxl⟩ := h.xt i rc hi
 have hil := (List.getElem?_eq_some_iff.1 hi).1
 have hxbb : x.b = xb := by
  have e := congrArg (fun l => l[P.d.ws.length + i]?) h.bX
  simp only [List.getElem?_map, hx] at e
  rw [List.getElem?_append_right (by rw [h.wl]; omega), h.wl, Nat.add_sub_cancel_left, hxb] at e
  exact Option.some.inj e
 have hL := look_thk hns hM.tm (v := .pointer (some ⟨xb, 0, none⟩)) (fun u ps hu => by rw [htd] at hu; exact ptrElem_lit hu)
 rw [hyes] at hL
 have oB := hM.obj
 obtain ⟨so, sm, sc, hox, _⟩ := (hM.things x (List.mem_of_getElem? hx)).obj
 have x0 : (w.alloc (.cells #[.string ⟨#[]⟩, .int .i64 0, .int .i64 0, .int .i64 0, .slice none 0 0] 35)).cell? ⟨xb, 0, none⟩ = some (.int .i64 (i : Int)) := by
  rw [← hxbb, obj_cell hox]
  unfold Th.cells
  rw [← hxi]
  split <;> rfl
 obtain ⟨a, tc, ht, _, _, hrec⟩ := hM.dk.now.ts.at_ hil
 have hrc2 : P.d.ts[i] = rc := by rw [List.getElem?_eq_getElem hil] at hi; exact Option.some.inj hi
 rw [hrc2] at hrec
 rw [ht] at oB
 have hnR0 := h.newS (Nat.le_refl _)
 have hnS := fun i (hi : w.heap.size ≤ i) => h.newS hi
 have hRtop := h.top
 have hEhi : ∀ e ∈ E, e.hi ≤ w.heap.size := fun e he => (CacheM.his h.cache e he).2.2
 have HEH := Lib.hid (And.intro hnS (And.intro hRtop hEhi))
 clear hnS hRtop hEhi
 obtain ⟨tn, htn⟩ : ∃ tn, P.d.ts.length = tn := ⟨_, rfl⟩
 rw [htn] at oB hil
 have k1 := obj_cell oB 1
 have k5 := obj_cell oB 5
 have k3' := obj_cell oB 3
 have hlen : rc.l.length ≤ 1000000 := (right_len h.right).2 rc (List.mem_of_getElem? hi)
 obtain ⟨t0, t1, t2, t3, sv, t4, hsv⟩ := hrec
 obtain ⟨N, RX, RY, RZ, RL⟩ := rc
 simp only at t0 t1 t2 t3 hsv hlen hxl
 obtain ⟨vo, vc, rfl⟩ := hsv.formL
 have HJ := Lib.hid (secs_I hsv)
 have hsz : (w.alloc (.cells #[.string ⟨#[]⟩, .int .i64 0, .int .i64 0, .int .i64 0, .slice none 0 0] 35)).heap.size = w.heap.size + 1 := by simp
 have HS := Lib.hid (And.intro hM (And.intro qa (And.intro oR (And.intro hsv (And.intro hi (And.intro hrn (And.intro hlen hx)))))))
 have hnot : ∀ (x : Bool) (w : World), (Op.unary .not (.bool x)).run Tryz.prog w = .ok (.bool (!x)) w := fun _ _ => rfl
 have hi0 : (0 : Int) ≤ (i : Int) := by omega
 have hiI : (i : Int) < (tn : Int) := by omega
 have HW := Lib.hid (And.intro hW (And.intro hp (And.intro hbm hxl)))
 clear hM qa oR oB h hx hxi hox htd hxb hsv hi hrn hrc2 hlen pT ht hW hp hbm htn
 generalize hb9 : P.b = b at *
 go_enter Tryz.func29, Tryz.ntmps29
 go_wp2_with fail
 have HSZ := Lib.hid hsz
 clear hsz hL k5
 generalize w.alloc (.cells #[.string ⟨#[]⟩, .int .i64 0, .int .i64 0, .int .i64 0, .slice none 0 0] 35) = w1 at *
 generalize hRw : w.heap.size = R at *
 have qd : B w1 w1.drew := (B.refl _).drew
 obtain ⟨vn, hvn⟩ : ∃ vn, RL.length = vn := ⟨_, rfl⟩
 rw [hvn] at t4
 refine wp_region_noPanic ?_
 refine wp_region_gate (S := fun w' => w'.cell? (⟨b, 1, none⟩) = some (.slice (some a) tn tc) ∧ w'.cell? (⟨xb, 0, none⟩) = some (.int .i64 (i : Int)) ∧ w'.cell? (a.add (i * 5)) = some (.string N) ∧ w'.cell? (⟨(a.add (i * 5)).block, (a.add (i * 5)).off + 1, none⟩) = some (.int .i64 RX) ∧ w'.cell? (⟨(a.add (i * 5)).block, (a.add (i * 5)).off + 2, none⟩) = some (.int .i64 RY) ∧ w'.cell? (⟨(a.add (i * 5)).block, (a.add (i * 5)).off + 3, none⟩) = some (.int .i64 RZ) ∧ w'.cell? (⟨(a.add (i * 5)).block, (a.add (i * 5)).off + 4, none⟩) = some (.slice vo vn vc) ∧ B w1 w') 12 [(0, 3), (1, 3), (2, 3), (3, 3), (4, 0), (5, 3), (6, 3), (7, 3), (8, 0), (9, 3), (10, 0), (11, 2), (12, 4)] [0, 1, 2, 4, 8, 0, 32, 64, 128, 272, 512, 0, 4095] [0, 1, 2, 4, 8, 0, 32, 64, 128, 272, 512, 0, 3072] [0, 0, 0, 0, 5648, 0, 0, 0, 5888, 0, 5120, 0, 0] (by kernel_rfl) (by kernel_rfl) (fun _ _ _ _ _ h => h) ?_ (fun hH => ?_)
 ·exact ⟨qd.keep k1, qd.keep x0, qd.keep t0, qd.keep t1, qd.keep t2, qd.keep t3, qd.keep t4, qd⟩
 refine wpSeqG_free (d := 22) (v := ?_) rfl rfl (by kernel_rfl) (fun w => ?_) ?_
 rotate_left
 ·go_simp <;> with_reducible rfl
 dsimp only [sZ, sS]
 refine wpSeqG_free (d := 23) (v := ?_) rfl rfl (by kernel_rfl) (fun w => ?_) ?_
 rotate_left
 ·go_simp <;> with_reducible rfl
 dsimp only [sZ, sS]
 refine wpSeqG_free (d := 24) (v := ?_) rfl rfl (by kernel_rfl) (fun w => ?_) ?_
 rotate_left
 ·go_simp <;> with_reducible rfl
 dsimp only [sZ, sS]
 refine wpSeqG_free (d := 25) (v := ?_) rfl rfl (by kernel_rfl) (fun w => ?_) ?_
 rotate_left
 ·go_simp <;> with_reducible rfl
 dsimp only [sZ, sS]
 refine wpSeqG_take (d := 26) (v := ?_) rfl rfl (by kernel_rfl) (fun w hS => ?_) ?_
 rotate_left
 ·go_simp <;> with_reducible rfl
 dsimp only [sZ, sS]
 refine wpSeqG_free (d := 27) (v := ?_) rfl rfl (by kernel_rfl) (fun w => ?_) ?_
 rotate_left
 ·go_simp <;> with_reducible rfl
 dsimp only [sZ, sS]
 refine wpSeqG_free (d := 28) (v := ?_) rfl rfl (by kernel_rfl) (fun w => ?_) ?_
 rotate_left
 ·go_simp <;> with_reducible rfl
 dsimp only [sZ, sS]
 refine wpSeqG_free (d := 29) (v := ?_) rfl rfl (by kernel_rfl) (fun w => ?_) ?_
 rotate_left
 ·go_simp <;> with_reducible rfl
 dsimp only [sZ, sS]
 refine wpSeqG_take (d := 30) (v := ?_) rfl rfl (by kernel_rfl) (fun w hS => ?_) ?_
 rotate_left
 ·go_simp <;> with_reducible rfl
 dsimp only [sZ, sS]
 refine wpSeqG_free (d := 31) (v := ?_) rfl rfl (by kernel_rfl) (fun w => ?_) ?_
 rotate_left
 ·go_simp <;> with_reducible rfl
 dsimp only [sZ, sS]
 refine wpSeqG_take (d := 32) (v := ?_) rfl rfl (by kernel_rfl) (fun w hS => ?_) ?_
 rotate_left
 ·go_simp <;> with_reducible rfl
 dsimp only [sZ, sS]
 refine wpSeqG_call rfl (by kernel_rfl) (fun K hK => ?_)
 go_simp
 refine hK.out _ _ ?_ (fun hH => ?_)
 ·exact ⟨((B.refl _).alloc _ _).keep (hH.1), ((B.refl _).alloc _ _).keep (hH.2.1), ((B.refl _).alloc _ _).keep (hH.2.2.1), ((B.refl _).alloc _ _).keep (hH.2.2.2.1), ((B.refl _).alloc _ _).keep (hH.2.2.2.2.1), ((B.refl _).alloc _ _).keep (hH.2.2.2.2.2.1), ((B.refl _).alloc _ _).keep (hH.2.2.2.2.2.2.1), hH.2.2.2.2.2.2.2.alloc _ _⟩
 clear hK
 refine wpSeqG_gate rfl (by kernel_rfl) (fun K hK => ?_)
 go_simp
 refine hK.out _ _ ?_
 clear hK
 refine wpSeqG_done ?_
 refine NoPanic.normal ?_
 have oT : ((w1.alloc (.cells #[.string N, .int .i64 RX, .int .i64 RY, .int .i64 RZ, .slice vo vn vc] 35)).drew).heap[w1.heap.size]? = some (.cells #[.string N, .int .i64 RX, .int .i64 RY, .int .i64 RZ, .slice vo vn vc] 35 (0, 0)) := obj_new w1 _
 have q12 : B w1 ((w1.alloc (.cells #[.string N, .int .i64 RX, .int .i64 RY, .int .i64 RZ, .slice vo vn vc] 35)).drew) := ((B.refl w1).alloc _ _).drew
 have hsz2 : ((w1.alloc (.cells #[.string N, .int .i64 RX, .int .i64 RY, .int .i64 RZ, .slice vo vn vc] 35)).drew).heap.size = w1.heap.size + 1 := by simp
 clear hH k1 x0 t0 t1 t2 t3 t4 qd
 generalize (w1.alloc (.cells #[.string N, .int .i64 RX, .int .i64 RY, .int .i64 RZ, .slice vo vn vc] 35)).drew = w2 at *
 obtain ⟨hM, qa, oR, hsv, hi, hrn, hlen, hx⟩ := HS.out
 have hsz := HSZ.out
 have hnT := hM.newS (Nat.le_refl w1.heap.size)
 have y4 := obj_cell oT 4
 have cl := lsec_any (.slice vo RL.length vc) RL w2 (hsv.keepB q12) hlen
 rw [hvn] at cl
 generalize hT9 : w1.heap.size = T9 at *
 have HM := Lib.hid (And.intro hM (And.intro qa (And.intro oR (And.intro hx (And.intro hnT (And.intro oT (And.intro q12 (And.intro hsz hsz2))))))))
 have HI := Lib.hid (And.intro hi hrn)
 clear hM qa oR hsv hi hrn hlen hx hnT oT q12 HS HSZ hsz hsz2
 go_wp2_with fail
 refine cl.mono ?_
 rintro e w3 ⟨o9, c9, rfl, hown9, q3⟩
 obtain ⟨hM, qa, oR, hx, hnT, oT, q12, hsz, hsz2⟩ := HM.out
 have oT3 := q3.obj oT
 have g4 := one_own w3 T9 4 (.slice o9 vn c9)
 have q14 : B w1 (w3.setCell ⟨T9, 4, none⟩ (.slice o9 vn c9)) := (q12.trans q3).setCell (p := ⟨T9, 4, none⟩) (by rw [hT9]; exact Nat.le_refl _) _
 have hM4 := hM.keepB q14
 have own4 := own_objG hown9 oT3 (by decide) g4
 have oT6 : (w3.setCell ⟨T9, 4, none⟩ (.slice o9 vn c9)).heap[T9]? = some (.cells #[.string N, .int .i64 RX, .int .i64 RY, .int .i64 RZ, .slice o9 vn c9] 35 (0, 0)) := by simpa using obj_set oT3 4 (.slice o9 vn c9)
 have oR6 := q14.obj oR
 have y4' := obj_cell oT3 4
 have HQ := Lib.hid (And.intro hsz hsz2)
 have z4 := obj_free oT3 4
 have hs14 := q14.below.size
 have hI4 : ∀ s ∈ RL, s.I := secs_I (isSecs_own (l := RL) (by rw [hvn]; exact own4) (by
  intro s hs
  exact (HJ.out s hs)))
 have HY := Lib.hid (And.intro hM4 (And.intro own4 (And.intro oT6 (And.intro oR6 (And.intro q14 (And.intro hs14 hI4))))))
 clear hM hx oT q12 oT3 g4 q14 hM4 own4 oT6 oR6 oR qa hown9 q3 hs14 cl hI4 hsz hsz2
 go_wp2_with fail
 clear y4' z4
 obtain ⟨hM4, own4, oT6, oR6, q14, hs14, hI4⟩ := HY.out
 have qa := HM.out.2.1
 have hx := HM.out.2.2.2.1
 generalize w3.setCell ⟨T9, 4, none⟩ (.slice o9 vn c9) = w4 at *
 obtain ⟨hW, hp, hbm, hxl⟩ := HW.out
 have q04 := qa.trans q14
 have cT : ∀ w', B w4 w' → Calls Tryz.prog 76 #[.pointer (some ⟨xb, 0, none⟩), .pointer (some ⟨P.c, 0, none⟩)] w' fun r w'' => ∃ (p : Nat) (e0 : Ent) (n' : Nat) (E' : List Ent) (X' : List Th), r = .returned (.pointer (some ⟨p, 0, none⟩)) ∧ e0.p = .pointer (some ⟨p, 0, none⟩) ∧
   Ext w4.heap.size E E' x.l e0 ∧ BoardM P w'' n' E' X' ∧ G P.S w4 w'' := fun w' q => by
  have := thtab_any W0 w' ((hW.trans q04).trans q) hp hbm (hM4.keepB q) (P.d.ws.length + i) x hx
  rw [hxbb] at this
  exact this.mono fun e w'' ⟨p, e0, n', E', X', h1, h2, h3, h4, h5⟩ => ⟨p, e0, n', E', X', h1, h2, h3.low q.below.size, h4, (q.g _).trans h5⟩
 rw [hxl] at cT
 have m0 := obj_cell oT6 0
 have m1 := obj_cell oT6 1
 have m2 := obj_cell oT6 2
 have m3 := obj_cell oT6 3
 have m4 := obj_cell oT6 4
 have k3 := obj_cell hM4.obj 3
 rw [hb9] at k3
 have qd6 : B w4 w4.drew := (B.refl _).drew
 have hnR : ¬ P.S R := hnR0
 have HV := Lib.hid (And.intro hM4 (And.intro own4 (And.intro q04 hI4)))
 clear hM4 own4 q04 qa hx q14 hW hp hbm HY HM HW hs14 hI4
 refine wp_region_noPanic ?_
 refine wp_region_gate (S := fun w' => w'.cell? ⟨T9, 0, none⟩ = some (.string N) ∧ w'.cell? ⟨T9, 1, none⟩ = some (.int .i64 RX) ∧ w'.cell? ⟨T9, 2, none⟩ = some (.int .i64 RY) ∧ w'.cell? ⟨T9, 3, none⟩ = some (.int .i64 RZ) ∧ w'.cell? ⟨T9, 4, none⟩ = some (.slice o9 vn c9) ∧ w'.cell? ⟨b, 3, none⟩ = some (.pointer (some ⟨P.c, 0, none⟩))) 7 [(0, 0), (1, 3), (2, 3), (3, 3), (4, 3), (5, 0), (6, 2), (7, 4), (8, 3), (9, 3)] [0, 0, 0, 4, 8, 16, 34, 65, 255, 511] [0, 0, 0, 4, 8, 16, 34, 1, 64, 0] [897, 0, 0, 0, 0, 992, 0, 0, 0, 0] (by kernel_rfl) (by kernel_rfl) (fun _ _ _ _ _ h => h) ?_ (fun hH => ?_)
 ·exact ⟨qd6.keep m0, qd6.keep m1, qd6.keep m2, qd6.keep m3, qd6.keep m4, qd6.keep k3⟩
 refine wpSeqG_take (d := 37) (v := ?_) rfl rfl (by kernel_rfl) (fun w hS => ?_) ?_
 rotate_left
 ·go_simp <;> with_reducible rfl
 dsimp only [sZ, sS]
 refine wpSeqG_free (d := 38) (v := ?_) rfl rfl (by kernel_rfl) (fun w => ?_) ?_
 rotate_left
 ·go_simp <;> with_reducible rfl
 dsimp only [sZ, sS]
 refine wpSeqG_free (d := 39) (v := ?_) rfl rfl (by kernel_rfl) (fun w => ?_) ?_
 rotate_left
 ·go_simp <;> with_reducible rfl
 dsimp only [sZ, sS]
 refine wpSeqG_free (d := 40) (v := ?_) rfl rfl (by kernel_rfl) (fun w => ?_) ?_
 rotate_left
 ·go_simp <;> with_reducible rfl
 dsimp only [sZ, sS]
 refine wpSeqG_free (d := 41) (v := ?_) rfl rfl (by kernel_rfl) (fun w => ?_) ?_
 rotate_left
 ·go_simp <;> with_reducible rfl
 dsimp only [sZ, sS]
 refine wpSeqG_take (d := 42) (v := ?_) rfl rfl (by kernel_rfl) (fun w hS => ?_) ?_
 rotate_left
 ·go_simp <;> with_reducible rfl
 dsimp only [sZ, sS]
 refine wpSeqG_call rfl (by kernel_rfl) (fun K hK => ?_)
 go_simp
 (with_reducible refine (cT _ qd6).mono ?_)
 rintro e w7 ⟨p, e0, n', E', X', rfl, hpp, hE, hM7, hg⟩
 have oT7 := hg.obj hnT oT6
 have oR7 := hg.obj hnR oR6
 have oB7 := hM7.obj
 have r0 := obj_cell oR7 0
 have r1 := obj_cell oR7 1
 have r2 := obj_cell oR7 2
 have r3 := obj_cell oR7 3
 have r4 := obj_cell oR7 4
 have f0 := obj_free oR7 0
 have f1 := obj_free oR7 1
 have f2 := obj_free oR7 2
 have f3 := obj_free oR7 3
 have f4 := obj_free oR7 4
 refine hK.out _ _ ?_ (fun hH => ?_)
 ·exact ⟨obj_cell oT7 0, obj_cell oT7 1, obj_cell oT7 2, obj_cell oT7 3, obj_cell oT7 4, by rw [← hb9]; exact obj_cell oB7 3⟩
 clear hK
 refine wpSeqG_gate rfl (by kernel_rfl) (fun K hK => ?_)
 go_simp
 refine hK.out _ _ ?_
 clear hK
 refine wpSeqG_free (d := 5) (v := ?_) rfl rfl (by kernel_rfl) (fun w => ?_) ?_
 rotate_left
 ·go_simp <;> with_reducible rfl
 dsimp only [sZ, sS]
 refine wpSeqG_free (d := 6) (v := ?_) rfl rfl (by kernel_rfl) (fun w => ?_) ?_
 rotate_left
 ·go_simp <;> with_reducible rfl
 dsimp only [sZ, sS]
 refine wpSeqG_done ?_
 refine NoPanic.normal ?_
 all_goals
  obtain ⟨hM4, own4, q04, hI4⟩ := HV.out
  have oR8 := obj_five oR7 (.string N) (.int .i64 RX) (.int .i64 RY) (.int .i64 RZ) (.slice o9 vn c9)
  have g8 : G (fun i => i = R) w7 (((((w7.setCell ⟨R, 0, none⟩ (.string N)).setCell ⟨R, 1, none⟩ (.int .i64 RX)).setCell ⟨R, 2, none⟩ (.int .i64 RY)).setCell ⟨R, 3, none⟩ (.int .i64 RZ)).setCell ⟨R, 4, none⟩ (.slice o9 vn c9)) := G.setCell (S := fun i => i = R) (p := ⟨R, 4, none⟩) (G.setCell (S := fun i => i = R) (p := ⟨R, 3, none⟩) (G.setCell (S := fun i => i = R) (p := ⟨R, 2, none⟩) (G.setCell (S := fun i => i = R) (p := ⟨R, 1, none⟩) (G.setCell (S := fun i => i = R) (p := ⟨R, 0, none⟩) (G.refl _ _) (.inl rfl) _) (.inl rfl) _) (.inl rfl) _) (.inl rfl) _) (.inl rfl) _
  have hR4 : R < w4.heap.size := obj_lt oR6
  obtain ⟨hnS, hRtop, hEhi⟩ := HEH.out
  have hM8 := hM7.keepA g8 (fun i hi => by
   subst hi
   refine ⟨hRtop, fun e he => ?_⟩
   rcases hE.2.2 with h9 | ⟨_, h9, h10⟩
   ·rw [h9] at he
    exact .inr (hEhi e he)
   ·rw [h10] at he
    rcases List.mem_append.1 he with he | he
    ·exact .inr (hEhi e he)
    ·obtain rfl := List.mem_singleton.1 he
     exact .inl (by omega))
  have own7 := own_on own4 (fun i h1 h2 => hg.block i h2 (hnS i (by have := HQ.out; omega)))
  have own8 := own_on own7 (fun i h1 h2 => g8.block i h2 (by have := HQ.out; omega))
  have sec8 := isSecs_own (l := RL) (by rw [hvn]; exact own8) hI4
  have hG8 := G.then_ ((q04.g P.S).trans hg) g8 (fun i hi => .inr (by subst hi; exact Nat.le_of_eq hRw))
  have hE8 := hE.low q04.below.size
  have c0' := obj_cell oR8 0
  have c1' := obj_cell oR8 1
  have c2' := obj_cell oR8 2
  have c3' := obj_cell oR8 3
  have c4' := obj_cell oR8 4
  have HZ := Lib.hid (And.intro hM8 (And.intro sec8 (And.intro hG8 (And.intro hE8 hpp))))
  clear hM8 own7 own8 sec8 hG8 hE8 hpp g8 oR8 oR7 oT7 oB7 hg hE hM7 hM4 own4 q04 hI4 hnS hRtop hEhi oR6 oT6
  generalize ((((w7.setCell ⟨R, 0, none⟩ (.string N)).setCell ⟨R, 1, none⟩ (.int .i64 RX)).setCell ⟨R, 2, none⟩ (.int .i64 RY)).setCell ⟨R, 3, none⟩ (.int .i64 RZ)).setCell ⟨R, 4, none⟩ (.slice o9 vn c9) = w8 at *
  go_wp2
  obtain ⟨z1, z2, z3, z4, z5⟩ := HZ.out
  refine bodyPost_ret (v := .tuple #[.agg #[.string N, .int .i64 RX, .int .i64 RY, .int .i64 RZ, .slice o9 vn c9], .pointer (some ⟨p, 0, none⟩), .int .i64 0]) (by simp [results, Tryz.results29, go_sem, c0', c1', c2', c3', c4']) rfl ⟨i, ⟨N, RX, RY, RZ, RL⟩, p, e0, n', E', X', o9, c9, HI.out.1, HI.out.2, by rw [← hvn], by rw [hvn]; exact z2, z5, ?_, z1, ?_⟩
  ·rw [← hRw] at *; exact z4
  ·exact z3
end
end Go.Proofs.YthlileddhgglnaaGreatDoor
namespace Go.Proofs.YthlileddhgglnaaGreatDoor
open Go.RowKit
set_option linter.unusedVariables false
theorem nameS_sz {n : ByteArray} (h : nameS n = true) : n.size ≤ 16 := by
 unfold nameS at h
 have h16 := of_decide_eq_true (Bool.and_eq_true_iff.1 (Bool.and_eq_true_iff.1 (Bool.and_eq_true_iff.1 h).1).1).2
 omega
theorem indexC_has : ∀ (ws : List Wr) (K : Int) (n : ByteArray) (r c : Int), (indexC ws K n r c).isSome = true → ∃ w ∈ ws, hasB w.n w.x w.y n r c = true
 | [], _, _, _, _, h => by cases h
 | w :: ws, K, n, r, c, h => by
  rw [indexC] at h
  split at h
  ·rename_i hh
   exact ⟨w, List.mem_cons_self .., hh⟩
  ·obtain ⟨v, hv, e⟩ := indexC_has ws _ n r c h
   exact ⟨v, List.mem_cons_of_mem _ hv, e⟩
structure Small (d : Dk) : Prop where
 wn : ∀ r ∈ d.ws, r.n.size ≤ maxLen
 wi : ∀ r ∈ d.ws, I64 r.x ∧ I64 r.y
 tn : ∀ r ∈ d.ts, r.n.size ≤ maxLen
 fi : ∀ f ∈ d.fs, f.n.size ≤ maxLen ∧ I64 f.r ∧ I64 f.c
theorem rightD_small {d : Dk} (h : rightD d = true) : Small d := by
 obtain ⟨_, _, pW, pT⟩ := right_parts9 h
 have hw : ∀ r ∈ d.ws, nameS r.n = true ∧ (1 ≤ r.x ∧ r.x ≤ 8) ∧ (1 ≤ r.y ∧ r.y ≤ 12) := fun r hr => by
  obtain ⟨i, hi⟩ := List.getElem?_of_mem hr
  have := (apart_at pW hi).1
  unfold wareOk at this
  simp only [Bool.and_eq_true, inB, decide_eq_true_eq] at this
  exact ⟨this.1.1.1.1, this.1.1.1.2, this.1.1.2⟩
 have ht : ∀ r ∈ d.ts, nameS r.n = true := fun r hr => by
  obtain ⟨i, hi⟩ := List.getElem?_of_mem hr
  have := (apart_at pT hi).1
  unfold tipOk at this
  simp only [Bool.and_eq_true] at this
  exact this.1.1.1.1
 refine ⟨fun r hr => ?_, fun r hr => ?_, fun r hr => ?_, fun f hf => ?_⟩
 ·have := nameS_sz (hw r hr).1; unfold maxLen; omega
 ·obtain ⟨_, h1, h2⟩ := hw r hr; unfold I64; omega
 ·have := nameS_sz (ht r hr); unfold maxLen; omega
 ·obtain ⟨i, hi⟩ := List.getElem?_of_mem hf
  obtain ⟨⟨k, hk, _⟩, _⟩ := right_fill h hi
  obtain ⟨w, hwm, hb⟩ := indexC_has d.ws 0 f.n f.r f.c (by rw [hk]; rfl)
  obtain ⟨h1, h2, h3, h4⟩ := hasB_in hb
  obtain ⟨hn, hx, hy⟩ := hw w hwm
  unfold hasB at hb
  simp only [Bool.and_eq_true, beq_iff_eq] at hb
  have e : w.n = f.n := ba_eq hb.1.1
  have := nameS_sz hn
  rw [e] at this
  unfold maxLen I64
  omega
theorem fillsF_len (ws : List Wr) : ∀ (l : List Nat) (i : Nat), (fillsF ws i l).length ≤ l.length
 | [], _ => by simp [fillsF]
 | x :: l, i => by
  have ih := fillsF_len ws l (i + 1)
  unfold fillsF
  split
  ·simp; omega
  ·split
   ·simp; omega
   ·simp; omega
theorem dnew_right (wv tv fv : Value) (d : Dk) (w : World) (h : IsDk w wv tv fv d) (hr : rightD d = true) (hf9 : d.fs.length < 1000) :
  Calls Tryz.prog 17 #[.agg #[wv, tv, fv]] w fun e w' => ∃ (P : Bp) (X : List Th), e = .returned (.tuple #[.pointer (some ⟨P.b, 0, none⟩), .int .i64 0]) ∧ P.d = d ∧ BoardM P w' 0 [] X ∧ w.heap.size ≤ P.lo ∧ P.top = w'.heap.size ∧ B w w' :=
 have s := rightD_small hr
 dnew_yes wv tv fv d w h hr s.wn s.wi s.tn s.fi hf9
theorem BoardM.low {P : Bp} {w : World} {m9 : Nat} {E : List Ent} {X : List Th} (h : BoardM P w m9 E X) : P.lo ≤ P.bm ∧ ∀ i, P.S i → P.lo ≤ i := by
 have h1 := h.lohi
 have h2 := h.hibm
 refine ⟨by omega, fun i hi => ?_⟩
 have := (h.sLow i hi).1
 omega
end Go.Proofs.YthlileddhgglnaaGreatDoor
namespace Go.Proofs.YthlileddhgglnaaGreatDoor
open Go.RowKit
set_option linter.unusedVariables false
def kd11 : Dk := seatD 0 1 0 1 [7]
theorem kd_right : rightD kd11 = true := seat_right (by decide) (by decide) (by decide) (by decide) [7]
theorem kd_idx : indexC kd11.ws 0 namePlate 0 0 = some 0 := by kernel_rfl
theorem kd_no : indexC kd11.ws 0 ⟨#[112, 108, 97, 116]⟩ 0 0 = none := by kernel_rfl
theorem kd_start : ∃ l, startD kd11 = (60001, 60001) :: l ∧ 2 < l.length + 1 := ⟨[(0, 0), (0, 0), (0, 0)], by kernel_rfl, by decide⟩
theorem kd_shape {i : Nat} {rc : Wr} (h : kd11.ws[i]? = some rc) (hn : rc.n = namePlate) : rc.l = shapeOf 0 := by
 match i with
 | 0 => obtain rfl := Option.some.inj h; rfl
 | 1 => obtain rfl := Option.some.inj h; exact absurd (congrArg (fun b : ByteArray => b.size) hn) (by decide)
 | n + 2 => simp [kd11, seatD, wares7] at h
theorem kd_height : hsumI (shapeOf 0) (shapeOf 0).length = 10000 := by decide
def bad11 : Dk := ⟨[], [⟨⟨#[]⟩, 0, 0, 0, []⟩], []⟩
theorem bad_no : rightD bad11 = false := by kernel_rfl
set_option maxRecDepth 100000 in
set_option maxHeartbeats 4000000 in
theorem known11_any (w : World) (hp : Pow10 w) : Calls Tryz.prog 16 #[] w fun e w' => e = .returned (.bool true) ∧ B w w' := by
 have q0 : B w (w.alloc (.cells #[.int .u32 7] 94)) := (B.refl w).alloc _ _
 have o0 := obj_new w (.cells #[.int .u32 7] 94)
 have hU : IsU32s (w.alloc (.cells #[.int .u32 7] 94)) (.slice (some ⟨w.heap.size, 0, none⟩) 1 1) [7] := ⟨some ⟨w.heap.size, 0, none⟩, 1, rfl, by decide, fun i x h => by
  match i with
  | 0 =>
   obtain rfl : 7 = x := by simpa using h
   exact ⟨by decide, w.heap.size, 0, rfl, by rw [obj_cell o0]; rfl⟩
  | n + 1 => simp at h⟩
 have cD := deck_any 0 1 0 1 _ [7] (by decide) (by decide) (by decide) (by decide) (by decide) _ hU
 go_enter Tryz.func16, Tryz.ntmps16
 go_wp2_with fail
 refine cD.mono ?_
 rintro e w1 ⟨wv, tv, fv, rfl, hD, q1⟩
 have b1 := q0.trans q1
 clear cD hU o0 q0 q1
 have cN := dnew_right wv tv fv kd11 w1 hD kd_right (by decide)
 go_wp2_with fail
 refine cN.mono ?_
 rintro e w2 ⟨P, X, rfl, hPd, hM, hlo, _, q2⟩
 have hlow := hM.low
 have hz1 := b1.below.size
 have b2 := b1.trans q2
 clear cN hD q2
 have hB9 := (B.refl w2).alloc #[.string ⟨#[]⟩, .int .i64 0, .int .i64 0, .int .i64 0, .slice none 0 0] 35
 have o9 := obj_new w2 (.cells #[.string ⟨#[]⟩, .int .i64 0, .int .i64 0, .int .i64 0, .slice none 0 0] 35)
 have hbad : IsDk (w2.alloc (.cells #[.string ⟨#[]⟩, .int .i64 0, .int .i64 0, .int .i64 0, .slice none 0 0] 35)) (.slice none 0 0) (.slice (some ⟨w2.heap.size, 0, none⟩) 1 1) (.slice none 0 0) bad11 := ⟨.inl ⟨rfl, rfl⟩, .inr ⟨⟨w2.heap.size, 0, none⟩, 1, rfl, Nat.le_refl _, by decide, fun i r h => by
  match i with
  | 0 =>
   obtain rfl := Option.some.inj h
   exact ⟨obj_cell o9 0, obj_cell o9 1, obj_cell o9 2, obj_cell o9 3, .slice none 0 0, obj_cell o9 4, .inl ⟨rfl, rfl⟩⟩
  | n + 1 => simp [bad11] at h⟩, .inl ⟨rfl, rfl⟩⟩
 have cB := dnew_no _ _ _ bad11 _ hbad bad_no (by intro r h; cases h) (by intro r h; cases h) (by intro r h; obtain rfl := List.mem_singleton.1 h; decide) (by intro f h; cases h) (by decide)
 have HM := Lib.hid (hM.keepB hB9)
 have hb9 := b2.trans hB9
 clear hM hbad o9 hB9
 go_wp2_with fail
 refine cB.mono ?_
 rintro e w3 ⟨rfl, q3⟩
 have hM3 := HM.out.keepB q3
 have b3 := hb9.trans q3
 clear HM hb9 cB b2
 have cW := dwell_yes w w3 b3 hp (by omega) hM3 namePlate 0 0 (by decide) (by decide) (by decide) 0 (by rw [hPd]; exact kd_idx)
 go_wp2_with fail
 refine cW.mono ?_
 rintro e w4 ⟨i, rc, p, e0, n', E', X', hi, hrn, rfl, hpp, hE, hM4, hg⟩
 rw [hPd] at hi
 have hsh := kd_shape hi hrn
 have hE1 : E' = [e0] := by
  rcases hE.2.2 with h | ⟨_, _, h⟩
  ·have := hE.1; rw [h] at this; cases this
  ·exact h
 have hel := hE.2.1
 rw [hsh] at hel
 subst hE1
 have b4 := hg.b b3 (fun i hi => by have := hlow.2 i hi; omega)
 clear cW hE hg hM3 b3 hi hrn hsh
 have cX := dwell_no w w4 b4 hp (by omega) hM4 ⟨#[112, 108, 97, 116]⟩ 0 0 (by decide) (by decide) (by decide) (by rw [hPd]; exact kd_no)
 go_wp2_with fail
 refine cX.mono ?_
 rintro e w5 ⟨rfl, hM5, q5⟩
 have b5 := b4.trans q5
 clear cX hM4 b4 q5
 have cH := ent_tall w5 hM5.cache e0 (by simp) hpp
 rw [hel, kd_height] at cH
 go_wp2_with fail
 refine cH.mono ?_
 rintro e w6 ⟨rfl, q6⟩
 have hM6 := hM5.keepB q6
 have cT := dtables_any w6 hM6
 have b6 := b5.trans q6
 clear cH hM5 b5 q6
 have hfi := (rightD_small kd_right).fi
 rw [← hPd] at hfi
 have hf9 : P.d.fs.length ≤ 1000000 := by rw [hPd]; decide
 have cS := dstart_any w6 hM6 hfi hf9
 go_wp2_with fail
 refine cT.mono ?_
 rintro e w7 ⟨rfl, rfl⟩
 obtain ⟨l, hl, hl2⟩ := kd_start
 rw [hPd, hl] at cS
 go_wp2_with fail
 refine cS.mono ?_
 rintro e w8 ⟨g, rfl, hg8, q8⟩
 have hM8 := hM6.keepB q8
 have b8 := b6.trans q8
 have cS2 := dstart_any w8 hM8 hfi hf9
 rw [hPd, hl] at cS2
 have hlI : (2 : Int) < ((((60001, 60001) :: l : List (Int × Int)).length : Nat) : Int) := by simp; omega
 clear cS cT hg8 q8 hM6 b6
 obtain ⟨ln, hln⟩ : ∃ ln, ((60001, 60001) :: l : List (Int × Int)).length = ln := ⟨_, rfl⟩
 rw [hln] at hlI cS2
 have hlB : decide ((2 : Int) < (ln : Int)) = true := decide_eq_true hlI
 have hlN : decide (2 < ln) = true := decide_eq_true (by omega)
 have hl0 : (0 : Int) < (ln : Int) := by omega
 rw [hln]
 go_wp2_with fail
 refine cS2.mono ?_
 rintro e w9 ⟨g9, rfl, hg9, q9⟩
 have y0 := hg9.cellAt 0 (by omega)
 have y0' : w9.cell? ⟨g9, 0, none⟩ = some (.int .i64 60001) := y0
 have HZ := Lib.hid (b8.trans q9)
 clear hg9 q9 y0 hln
 go_wp2
 go_ret
 exact ⟨rfl, HZ.out⟩
end Go.Proofs.YthlileddhgglnaaGreatDoor
namespace Go.Proofs.YthlileddhgglnaaGreatDoor
open Go.RowKit Go.ChangeShapes Go.WideShapes Go.ChangeAt Go.Deep
set_option maxRecDepth 100000 in
theorem sec_open {H : Type} {enc : TypeId × Value → H} {W : World} {base : Nat} {sp : Nat → Bool} {held : Bool} {fuel : Nat} {cs : List Value} {x : DataW H × List MemPlace}
  (h : DataW.trod enc Tryz.prog W base sp held fuel 37 cs = some x) : ∃ s : Sec, s.I ∧ cs = s.cells := by
 obtain ⟨xs, n, _, _, hl, hlen, hf⟩ := DataW.trod_struct Tryz.underlying37 h
 rw [show Tryz.prog.cellsOf 37 = 6 by kernel_rfl] at hl
 have c1 : Tryz.prog.cellsOf 2 = 1 := by kernel_rfl
 have c0 : Tryz.prog.cellsOf 4 = 1 := by kernel_rfl
 match xs, hlen, cs, hl with
 | [x0, x1, x2, x3, x4, x5], _, [v0, v1, v2, v3, v4, v5], _ =>
  have f0 : DataW.trod enc Tryz.prog W base sp held n 4 (([v0, v1, v2, v3, v4, v5].drop 0).take (Tryz.prog.cellsOf 4)) = some x0 := hf 0 _ rfl
  have f1 : DataW.trod enc Tryz.prog W base sp held n 2 (([v0, v1, v2, v3, v4, v5].drop 1).take (Tryz.prog.cellsOf 2)) = some x1 := hf 1 _ rfl
  have f2 : DataW.trod enc Tryz.prog W base sp held n 2 (([v0, v1, v2, v3, v4, v5].drop 2).take (Tryz.prog.cellsOf 2)) = some x2 := hf 2 _ rfl
  have f3 : DataW.trod enc Tryz.prog W base sp held n 2 (([v0, v1, v2, v3, v4, v5].drop 3).take (Tryz.prog.cellsOf 2)) = some x3 := hf 3 _ rfl
  have f4 : DataW.trod enc Tryz.prog W base sp held n 2 (([v0, v1, v2, v3, v4, v5].drop 4).take (Tryz.prog.cellsOf 2)) = some x4 := hf 4 _ rfl
  have f5 : DataW.trod enc Tryz.prog W base sp held n 2 (([v0, v1, v2, v3, v4, v5].drop 5).take (Tryz.prog.cellsOf 2)) = some x5 := hf 5 _ rfl
  rw [c0] at f0
  rw [c1] at f1 f2 f3 f4 f5
  obtain ⟨r, e0, _⟩ := DataW.trod_bool Tryz.underlying4 f0
  obtain ⟨a1, e1, _, w1⟩ := DataW.trod_int Tryz.underlying2 f1
  obtain ⟨a2, e2, _, w2⟩ := DataW.trod_int Tryz.underlying2 f2
  obtain ⟨a3, e3, _, w3⟩ := DataW.trod_int Tryz.underlying2 f3
  obtain ⟨a4, e4, _, w4⟩ := DataW.trod_int Tryz.underlying2 f4
  obtain ⟨a5, e5, _, w5⟩ := DataW.trod_int Tryz.underlying2 f5
  simp at e0 e1 e2 e3 e4 e5
  subst e0 e1 e2 e3 e4 e5
  exact ⟨⟨r, a1, a2, a3, a4, a5⟩, ⟨i64_wf w1, i64_wf w2, i64_wf w3, i64_wf w4, i64_wf w5⟩, rfl⟩
end Go.Proofs.YthlileddhgglnaaGreatDoor
namespace Go.Proofs.YthlileddhgglnaaGreatDoor
open Go.RowKit Go.ChangeShapes Go.WideShapes Go.ChangeAt Go.Deep
theorem secs_trod {H : Type} {enc : TypeId × Value → H} {W : World} {base : Nat} {sp : Nat → Bool} {held : Bool} {fuel : Nat} {v : Value} {x : DataW H × List MemPlace}
  (h : DataW.trod enc Tryz.prog W base sp held fuel 31 [v] = some x) : ∃ l, IsSecs W v l := by
 rcases open_slice Tryz.underlying31 h with ⟨hcs, _⟩ | ⟨a, ln, cp, m, n, D, Pl, hcs, _, hl, hm, hmm, _, hx⟩
 ·simp at hcs
  subst hcs
  exact ⟨[], .inl ⟨rfl, rfl⟩⟩
 ·simp at hcs
  subst hcs
  rw [show Tryz.prog.cellsOf 37 = 6 by kernel_rfl] at hx
  have hle : ln ≤ m := by rw [hmm]; split <;> omega
  obtain ⟨S, hS⟩ := choose_lt (α := Sec) (n := ln) (p := fun i s => s.I ∧ ∀ j, j < 6 → W.cell? ((a.add (i * 6)).add j) = s.cells[j]?) (fun i hi => by
   obtain ⟨cs', h1, h2⟩ := hx i (by omega)
   obtain ⟨s, hI, rfl⟩ := sec_open h2
   obtain ⟨_, _, h3⟩ := World.cells?_some h1
   exact ⟨s, hI, h3⟩)
  refine ⟨(List.range ln).map S, .inr ⟨a, cp, by simp, by simpa using hl, hm, fun i s hs => ?_⟩⟩
  have hi : i < ln := by
   have := (List.getElem?_eq_some_iff.1 hs).1
   simpa using this
  have e : s = S i := by
   rw [List.getElem?_map, List.getElem?_range hi] at hs
   simpa using hs.symm
  subst e
  obtain ⟨hI, hc⟩ := hS i hi
  refine ⟨hI, ?_⟩
  generalize a.add (i * 6) = q at *
  have g0 := hc 0 (by omega)
  have g1 := hc 1 (by omega)
  have g2 := hc 2 (by omega)
  have g3 := hc 3 (by omega)
  have g4 := hc 4 (by omega)
  have g5 := hc 5 (by omega)
  simp [Addr.add, Sec.cells] at g0 g1 g2 g3 g4 g5
  exact ⟨g0, g1, g2, g3, g4, g5⟩
end Go.Proofs.YthlileddhgglnaaGreatDoor
namespace Go.Proofs.YthlileddhgglnaaGreatDoor
open Go.RowKit Go.ChangeShapes Go.WideShapes Go.ChangeAt Go.Deep
set_option linter.unusedVariables false
instance : Inhabited Rec := ⟨⟨⟨#[]⟩, 0, 0, 0, []⟩⟩
instance : Inhabited Fl := ⟨⟨⟨#[]⟩, 0, 0, 0⟩⟩
theorem i64_of_wf {a : Int} (w : (Lit.int .i64 a).wf = true) : I64 a := by
 simp [Lit.wf, IntKind.min, IntKind.max, IntKind.signed, IntKind.bits] at w
 unfold I64
 omega
def Rec.ok (r : Rec) : Prop := r.n.size ≤ maxLen ∧ I64 r.x ∧ I64 r.y ∧ I64 r.z
def Fl.ok (f : Fl) : Prop := f.n.size ≤ maxLen ∧ I64 f.r ∧ I64 f.c ∧ I64 f.v
theorem add_zero' (p : Addr) : p.add 0 = p := by unfold Addr.add; simp
theorem add_pos' (p : Addr) {j : Nat} (h : 0 < j) : p.add j = ⟨p.block, p.off + j, none⟩ := by unfold Addr.add; rw [if_neg (by omega)]
set_option maxRecDepth 100000 in
theorem ware_open {H : Type} {enc : TypeId × Value → H} {W : World} {base : Nat} {sp : Nat → Bool} {held : Bool} {fuel : Nat} {cs : List Value} {x : DataW H × List MemPlace}
  (h : DataW.trod enc Tryz.prog W base sp held fuel 33 cs = some x) : ∃ (r : Rec) (vo : Value), r.ok ∧ IsSecs W vo r.l ∧ cs = r.cells vo := by
 obtain ⟨xs, n, _, _, hl, hlen, hf⟩ := DataW.trod_struct Tryz.underlying33 h
 rw [show Tryz.prog.cellsOf 33 = 5 by kernel_rfl] at hl
 have c9 : Tryz.prog.cellsOf 9 = 1 := by kernel_rfl
 have c1 : Tryz.prog.cellsOf 3 = 1 := by kernel_rfl
 have c2 : Tryz.prog.cellsOf 3 = 1 := by kernel_rfl
 have c3 : Tryz.prog.cellsOf 2 = 1 := by kernel_rfl
 have cS : Tryz.prog.cellsOf 31 = 1 := by kernel_rfl
 match xs, hlen, cs, hl with
 | [x0, x1, x2, x3, x4], _, [v0, v1, v2, v3, v4], _ =>
  have f0 : DataW.trod enc Tryz.prog W base sp held n 9 (([v0, v1, v2, v3, v4].drop 0).take (Tryz.prog.cellsOf 9)) = some x0 := hf 0 _ rfl
  have f1 : DataW.trod enc Tryz.prog W base sp held n 3 (([v0, v1, v2, v3, v4].drop 1).take (Tryz.prog.cellsOf 3)) = some x1 := hf 1 _ rfl
  have f2 : DataW.trod enc Tryz.prog W base sp held n 3 (([v0, v1, v2, v3, v4].drop 2).take (Tryz.prog.cellsOf 3)) = some x2 := hf 2 _ rfl
  have f3 : DataW.trod enc Tryz.prog W base sp held n 2 (([v0, v1, v2, v3, v4].drop 3).take (Tryz.prog.cellsOf 2)) = some x3 := hf 3 _ rfl
  have f4 : DataW.trod enc Tryz.prog W base sp held n 31 (([v0, v1, v2, v3, v4].drop 4).take (Tryz.prog.cellsOf 31)) = some x4 := hf 4 _ rfl
  rw [c9] at f0
  rw [c1] at f1
  rw [c2] at f2
  rw [c3] at f3
  rw [cS] at f4
  obtain ⟨s, e0, _, z0⟩ := DataW.trod_string Tryz.underlying9 f0
  obtain ⟨a1, e1, _, w1⟩ := DataW.trod_int Tryz.underlying3 f1
  obtain ⟨a2, e2, _, w2⟩ := DataW.trod_int Tryz.underlying3 f2
  obtain ⟨a3, e3, _, w3⟩ := DataW.trod_int Tryz.underlying2 f3
  obtain ⟨l, e4⟩ := secs_trod f4
  simp at e0 e1 e2 e3
  subst e0 e1 e2 e3
  exact ⟨⟨s, a1, a2, a3, l⟩, _, ⟨z0, i64_of_wf w1, i64_of_wf w2, i64_of_wf w3⟩, e4, rfl⟩
theorem wares_trod {H : Type} {enc : TypeId × Value → H} {W : World} {base : Nat} {sp : Nat → Bool} {held : Bool} {fuel : Nat} {v : Value} {x : DataW H × List MemPlace}
  (h : DataW.trod enc Tryz.prog W base sp held fuel 22 [v] = some x) : ∃ L : List Rec, IsRecs W v L ∧ ∀ r ∈ L, r.ok := by
 rcases open_slice Tryz.underlying22 h with ⟨hcs, _⟩ | ⟨a, ln, cp, m, n, D, Pl, hcs, _, hl, hm, hmm, _, hx⟩
 ·simp at hcs
  subst hcs
  exact ⟨[], .inl ⟨rfl, rfl⟩, by simp⟩
 ·simp at hcs
  subst hcs
  rw [show Tryz.prog.cellsOf 33 = 5 by kernel_rfl] at hx
  have hle : ln ≤ m := by rw [hmm]; split <;> omega
  obtain ⟨S, hS⟩ := choose_lt (α := Rec) (n := ln) (p := fun i r => r.ok ∧ RecAt W (a.add (i * 5)) r) (fun i hi => by
   obtain ⟨cs', h1, h2⟩ := hx i (by omega)
   obtain ⟨r, vo, hI, hs, rfl⟩ := ware_open h2
   obtain ⟨_, _, h3⟩ := World.cells?_some h1
   generalize a.add (i * 5) = q at *
   have g0 := h3 0 (by omega)
   have g1 := h3 1 (by omega)
   have g2 := h3 2 (by omega)
   have g3 := h3 3 (by omega)
   have g4 := h3 4 (by omega)
   rw [add_zero'] at g0
   rw [add_pos' _ (by omega)] at g1 g2 g3 g4
   exact ⟨r, hI, g0, g1, g2, g3, vo, g4, hs⟩)
  refine ⟨(List.range ln).map S, .inr ⟨a, cp, by simp, by simpa using hl, hm, fun i s hs => ?_⟩, fun r hr => ?_⟩
  ·have hi : i < ln := by
    have := (List.getElem?_eq_some_iff.1 hs).1
    simpa using this
   have e : s = S i := by
    rw [List.getElem?_map, List.getElem?_range hi] at hs
    simpa using hs.symm
   subst e
   exact (hS i hi).2
  ·obtain ⟨i, hi, rfl⟩ := List.mem_map.1 hr
   exact (hS i (List.mem_range.1 hi)).1
set_option maxRecDepth 100000 in
theorem tipr_open {H : Type} {enc : TypeId × Value → H} {W : World} {base : Nat} {sp : Nat → Bool} {held : Bool} {fuel : Nat} {cs : List Value} {x : DataW H × List MemPlace}
  (h : DataW.trod enc Tryz.prog W base sp held fuel 35 cs = some x) : ∃ (r : Rec) (vo : Value), r.ok ∧ IsSecs W vo r.l ∧ cs = r.cells vo := by
 obtain ⟨xs, n, _, _, hl, hlen, hf⟩ := DataW.trod_struct Tryz.underlying35 h
 rw [show Tryz.prog.cellsOf 35 = 5 by kernel_rfl] at hl
 have c9 : Tryz.prog.cellsOf 9 = 1 := by kernel_rfl
 have c1 : Tryz.prog.cellsOf 2 = 1 := by kernel_rfl
 have c2 : Tryz.prog.cellsOf 2 = 1 := by kernel_rfl
 have c3 : Tryz.prog.cellsOf 2 = 1 := by kernel_rfl
 have cS : Tryz.prog.cellsOf 31 = 1 := by kernel_rfl
 match xs, hlen, cs, hl with
 | [x0, x1, x2, x3, x4], _, [v0, v1, v2, v3, v4], _ =>
  have f0 : DataW.trod enc Tryz.prog W base sp held n 9 (([v0, v1, v2, v3, v4].drop 0).take (Tryz.prog.cellsOf 9)) = some x0 := hf 0 _ rfl
  have f1 : DataW.trod enc Tryz.prog W base sp held n 2 (([v0, v1, v2, v3, v4].drop 1).take (Tryz.prog.cellsOf 2)) = some x1 := hf 1 _ rfl
  have f2 : DataW.trod enc Tryz.prog W base sp held n 2 (([v0, v1, v2, v3, v4].drop 2).take (Tryz.prog.cellsOf 2)) = some x2 := hf 2 _ rfl
  have f3 : DataW.trod enc Tryz.prog W base sp held n 2 (([v0, v1, v2, v3, v4].drop 3).take (Tryz.prog.cellsOf 2)) = some x3 := hf 3 _ rfl
  have f4 : DataW.trod enc Tryz.prog W base sp held n 31 (([v0, v1, v2, v3, v4].drop 4).take (Tryz.prog.cellsOf 31)) = some x4 := hf 4 _ rfl
  rw [c9] at f0
  rw [c1] at f1
  rw [c2] at f2
  rw [c3] at f3
  rw [cS] at f4
  obtain ⟨s, e0, _, z0⟩ := DataW.trod_string Tryz.underlying9 f0
  obtain ⟨a1, e1, _, w1⟩ := DataW.trod_int Tryz.underlying2 f1
  obtain ⟨a2, e2, _, w2⟩ := DataW.trod_int Tryz.underlying2 f2
  obtain ⟨a3, e3, _, w3⟩ := DataW.trod_int Tryz.underlying2 f3
  obtain ⟨l, e4⟩ := secs_trod f4
  simp at e0 e1 e2 e3
  subst e0 e1 e2 e3
  exact ⟨⟨s, a1, a2, a3, l⟩, _, ⟨z0, i64_of_wf w1, i64_of_wf w2, i64_of_wf w3⟩, e4, rfl⟩
theorem tiprs_trod {H : Type} {enc : TypeId × Value → H} {W : World} {base : Nat} {sp : Nat → Bool} {held : Bool} {fuel : Nat} {v : Value} {x : DataW H × List MemPlace}
  (h : DataW.trod enc Tryz.prog W base sp held fuel 23 [v] = some x) : ∃ L : List Rec, IsRecs W v L ∧ ∀ r ∈ L, r.ok := by
 rcases open_slice Tryz.underlying23 h with ⟨hcs, _⟩ | ⟨a, ln, cp, m, n, D, Pl, hcs, _, hl, hm, hmm, _, hx⟩
 ·simp at hcs
  subst hcs
  exact ⟨[], .inl ⟨rfl, rfl⟩, by simp⟩
 ·simp at hcs
  subst hcs
  rw [show Tryz.prog.cellsOf 35 = 5 by kernel_rfl] at hx
  have hle : ln ≤ m := by rw [hmm]; split <;> omega
  obtain ⟨S, hS⟩ := choose_lt (α := Rec) (n := ln) (p := fun i r => r.ok ∧ RecAt W (a.add (i * 5)) r) (fun i hi => by
   obtain ⟨cs', h1, h2⟩ := hx i (by omega)
   obtain ⟨r, vo, hI, hs, rfl⟩ := tipr_open h2
   obtain ⟨_, _, h3⟩ := World.cells?_some h1
   generalize a.add (i * 5) = q at *
   have g0 := h3 0 (by omega)
   have g1 := h3 1 (by omega)
   have g2 := h3 2 (by omega)
   have g3 := h3 3 (by omega)
   have g4 := h3 4 (by omega)
   rw [add_zero'] at g0
   rw [add_pos' _ (by omega)] at g1 g2 g3 g4
   exact ⟨r, hI, g0, g1, g2, g3, vo, g4, hs⟩)
  refine ⟨(List.range ln).map S, .inr ⟨a, cp, by simp, by simpa using hl, hm, fun i s hs => ?_⟩, fun r hr => ?_⟩
  ·have hi : i < ln := by
    have := (List.getElem?_eq_some_iff.1 hs).1
    simpa using this
   have e : s = S i := by
    rw [List.getElem?_map, List.getElem?_range hi] at hs
    simpa using hs.symm
   subst e
   exact (hS i hi).2
  ·obtain ⟨i, hi, rfl⟩ := List.mem_map.1 hr
   exact (hS i (List.mem_range.1 hi)).1
set_option maxRecDepth 100000 in
theorem fill_open {H : Type} {enc : TypeId × Value → H} {W : World} {base : Nat} {sp : Nat → Bool} {held : Bool} {fuel : Nat} {cs : List Value} {x : DataW H × List MemPlace}
  (h : DataW.trod enc Tryz.prog W base sp held fuel 41 cs = some x) : ∃ f : Fl, f.ok ∧ cs = [.string f.n, .int .i64 f.r, .int .i64 f.c, .int .i64 f.v] := by
 obtain ⟨xs, n, _, _, hl, hlen, hf⟩ := DataW.trod_struct Tryz.underlying41 h
 rw [show Tryz.prog.cellsOf 41 = 4 by kernel_rfl] at hl
 have cW : Tryz.prog.cellsOf 39 = 3 := by kernel_rfl
 have c9 : Tryz.prog.cellsOf 9 = 1 := by kernel_rfl
 have c1 : Tryz.prog.cellsOf 3 = 1 := by kernel_rfl
 have c6 : Tryz.prog.cellsOf 2 = 1 := by kernel_rfl
 match xs, hlen, cs, hl with
 | [x0, x1], _, [v0, v1, v2, v3], _ =>
  have f0 : DataW.trod enc Tryz.prog W base sp held n 39 (([v0, v1, v2, v3].drop 0).take (Tryz.prog.cellsOf 39)) = some x0 := hf 0 _ rfl
  have f1 : DataW.trod enc Tryz.prog W base sp held n 2 (([v0, v1, v2, v3].drop 3).take (Tryz.prog.cellsOf 2)) = some x1 := hf 1 _ rfl
  rw [cW] at f0
  rw [c6] at f1
  obtain ⟨ys, k, _, _, hl2, hlen2, hf2⟩ := DataW.trod_struct Tryz.underlying39 f0
  match ys, hlen2 with
  | [y0, y1, y2], _ =>
   have g0 : DataW.trod enc Tryz.prog W base sp held k 9 ((([v0, v1, v2, v3].drop 0).take 3 |>.drop 0).take (Tryz.prog.cellsOf 9)) = some y0 := hf2 0 _ rfl
   have g1 : DataW.trod enc Tryz.prog W base sp held k 3 ((([v0, v1, v2, v3].drop 0).take 3 |>.drop 1).take (Tryz.prog.cellsOf 3)) = some y1 := hf2 1 _ rfl
   have g2 : DataW.trod enc Tryz.prog W base sp held k 3 ((([v0, v1, v2, v3].drop 0).take 3 |>.drop 2).take (Tryz.prog.cellsOf 3)) = some y2 := hf2 2 _ rfl
   rw [c9] at g0
   rw [c1] at g1 g2
   obtain ⟨s, e0, _, z0⟩ := DataW.trod_string Tryz.underlying9 g0
   obtain ⟨a1, e1, _, w1⟩ := DataW.trod_int Tryz.underlying3 g1
   obtain ⟨a2, e2, _, w2⟩ := DataW.trod_int Tryz.underlying3 g2
   obtain ⟨a3, e3, _, w3⟩ := DataW.trod_int Tryz.underlying2 f1
   simp at e0 e1 e2 e3
   subst e0 e1 e2 e3
   exact ⟨⟨s, a1, a2, a3⟩, ⟨z0, i64_of_wf w1, i64_of_wf w2, i64_of_wf w3⟩, rfl⟩
theorem fills_trod {H : Type} {enc : TypeId × Value → H} {W : World} {base : Nat} {sp : Nat → Bool} {held : Bool} {fuel : Nat} {v : Value} {x : DataW H × List MemPlace}
  (h : DataW.trod enc Tryz.prog W base sp held fuel 24 [v] = some x) : ∃ L : List Fl, IsFls W v L ∧ ∀ f ∈ L, f.ok := by
 rcases open_slice Tryz.underlying24 h with ⟨hcs, _⟩ | ⟨a, ln, cp, m, n, D, Pl, hcs, _, hl, hm, hmm, _, hx⟩
 ·simp at hcs
  subst hcs
  exact ⟨[], .inl ⟨rfl, rfl⟩, by simp⟩
 ·simp at hcs
  subst hcs
  rw [show Tryz.prog.cellsOf 41 = 4 by kernel_rfl] at hx
  have hle : ln ≤ m := by rw [hmm]; split <;> omega
  obtain ⟨S, hS⟩ := choose_lt (α := Fl) (n := ln) (p := fun i f => f.ok ∧ FlAt W (a.add (i * 4)) f) (fun i hi => by
   obtain ⟨cs', h1, h2⟩ := hx i (by omega)
   obtain ⟨f, hI, rfl⟩ := fill_open h2
   obtain ⟨_, _, h3⟩ := World.cells?_some h1
   generalize a.add (i * 4) = q at *
   have g0 := h3 0 (by omega)
   have g1 := h3 1 (by omega)
   have g2 := h3 2 (by omega)
   have g3 := h3 3 (by omega)
   rw [add_zero'] at g0
   rw [add_pos' _ (by omega)] at g1 g2 g3
   exact ⟨f, hI, g0, g1, g2, g3⟩)
  refine ⟨(List.range ln).map S, .inr ⟨a, cp, by simp, by simpa using hl, hm, fun i s hs => ?_⟩, fun r hr => ?_⟩
  ·have hi : i < ln := by
    have := (List.getElem?_eq_some_iff.1 hs).1
    simpa using this
   have e : s = S i := by
    rw [List.getElem?_map, List.getElem?_range hi] at hs
    simpa using hs.symm
   subst e
   exact (hS i hi).2
  ·obtain ⟨i, hi, rfl⟩ := List.mem_map.1 hr
   exact (hS i (List.mem_range.1 hi)).1
structure DkIn (w : World) (wv tv fv : Value) (d : Dk) : Prop where
 dk : IsDk w wv tv fv d
 ws : ∀ r ∈ d.ws, r.ok
 ts : ∀ r ∈ d.ts, r.ok
 fs : ∀ f ∈ d.fs, f.ok
set_option maxRecDepth 100000 in
theorem open_deck {H : Type} {enc : TypeId × Value → H} {W : World} {base b0 : Nat} {sp : Nat → Bool} {held : Bool} {r : Reach} {v : Value} {d : DataW H} {p : List MemPlace}
  (hv : Value.okWide Tryz.prog W r b0 26 v) (h : DataW.Trod enc Tryz.prog W base sp held 26 v d p) : ∃ wv tv fv d, v = .agg #[wv, tv, fv] ∧ DkIn W wv tv fv d := by
 obtain ⟨cs, rfl, hsz⟩ := okWide_struct Tryz.underlying26 hv
 obtain ⟨fuel, hf⟩ := h
 obtain ⟨xs, n, _, _, hl, hlen, hf⟩ := DataW.trod_struct Tryz.underlying26 hf
 have e3 : Tryz.prog.cellsOf 26 = 3 := by kernel_rfl
 rw [e3] at hl hsz
 have cW : Tryz.prog.cellsOf 22 = 1 := by kernel_rfl
 have cT : Tryz.prog.cellsOf 23 = 1 := by kernel_rfl
 have cF : Tryz.prog.cellsOf 24 = 1 := by kernel_rfl
 obtain ⟨cl⟩ := cs
 match xs, hlen, cl, hsz with
 | [x0, x1, x2], _, [v0, v1, v2], _ =>
  have f0 : DataW.trod enc Tryz.prog W base sp held n 22 (([v0, v1, v2].drop 0).take (Tryz.prog.cellsOf 22)) = some x0 := hf 0 _ rfl
  have f1 : DataW.trod enc Tryz.prog W base sp held n 23 (([v0, v1, v2].drop 1).take (Tryz.prog.cellsOf 23)) = some x1 := hf 1 _ rfl
  have f2 : DataW.trod enc Tryz.prog W base sp held n 24 (([v0, v1, v2].drop 2).take (Tryz.prog.cellsOf 24)) = some x2 := hf 2 _ rfl
  rw [cW] at f0
  rw [cT] at f1
  rw [cF] at f2
  obtain ⟨WS, h1, h2⟩ := wares_trod f0
  obtain ⟨TS, h3, h4⟩ := tiprs_trod f1
  obtain ⟨FS, h5, h6⟩ := fills_trod f2
  exact ⟨v0, v1, v2, ⟨WS, TS, FS⟩, rfl, ⟨h1, h3, h5⟩, h2, h4, h6⟩
end Go.Proofs.YthlileddhgglnaaGreatDoor
namespace Go.Proofs.YthlileddhgglnaaGreatDoor
open Go.RowKit
theorem light_any (v : Value) (l : List Sec) (w : World) (hv : IsSecs w v l) (b : Bool) (hb : decide ((l.length : Int) ≤ 6) = b) :
  Calls Tryz.prog 35 #[v] w fun e w' => e = .returned (.bool b) ∧ w = w' := by
 obtain ⟨va, vc, rfl⟩ : ∃ va vc, v = .slice va l.length vc := by
  rcases hv with ⟨rfl, rfl⟩ | ⟨b, cb, rfl, _⟩
  ·exact ⟨_, _, rfl⟩
  ·exact ⟨_, _, rfl⟩
 clear hv
 go_enter Tryz.func35, Tryz.ntmps35
 go_wp2
 go_ret
 exact ⟨rfl, rfl⟩
end Go.Proofs.YthlileddhgglnaaGreatDoor
namespace Go.Proofs.YthlileddhgglnaaGreatDoor
open Go.RowKit
def lightR (r : Rec) : Bool := decide (r.n.size ≤ 30) && decide (r.l.length ≤ 6)
def lightD (d : Dk) : Bool := decide (d.ws.length ≤ 10) && (decide (d.ts.length ≤ 6) && (decide (d.fs.length ≤ 30) && (d.ws.all lightR && d.ts.all lightR)))
theorem dec_int (n : Nat) : decide (n ≤ 6) = decide ((n : Int) ≤ 6) := by rcases Nat.lt_or_ge 6 n with h | h <;> simp <;> omega
theorem light_step {l : List Rec} {i : Nat} (hi : i < l.length) (h : ∀ j (hj : j < l.length), j < i → lightR l[j] = true) :
  (lightR l[i] = true → ∀ j (hj : j < l.length), j < i + 1 → lightR l[j] = true) ∧ (lightR l[i] = false → l.all lightR = false) := by
 refine ⟨fun e j hj hj2 => ?_, fun e => ?_⟩
 ·by_cases c : j = i
  ·subst c; exact e
  ·exact h j hj (by omega)
 ·rw [List.all_eq_false]
  exact ⟨_, List.getElem_mem hi, by rw [e]; decide⟩
theorem light_all {l : List Rec} (h : ∀ j (hj : j < l.length), lightR l[j] = true) : l.all lightR = true := by
 rw [List.all_eq_true]
 intro x hx
 obtain ⟨i, hi, rfl⟩ := List.getElem_of_mem hx
 exact h i hi
set_option maxHeartbeats 2000000 in
theorem lightdeck_any (wv tv fv : Value) (d : Dk) (w : World) (h : IsDk w wv tv fv d) : Calls Tryz.prog 6 #[.agg #[wv, tv, fv]] w fun e w' => e = .returned (.bool (lightD d)) ∧ Q w w' := by
 obtain ⟨ao, ac, bo, bc, co, cc, rfl, rfl, rfl⟩ := h.forms
 have hQ := (Q.refl w).alloc #[.slice ao d.ws.length ac, .slice bo d.ts.length bc, .slice co d.fs.length cc] 26
 have hR0 := h.ws.keepB hQ.b
 have hR1 := h.ts.keepB hQ.b
 have hlen0 := h.ws.len
 have hlen1 := h.ts.len
 have k0 : (w.alloc (.cells #[.slice ao d.ws.length ac, .slice bo d.ts.length bc, .slice co d.fs.length cc] 26)).cell? ⟨w.heap.size, 0, none⟩ = some (.slice ao d.ws.length ac) := by rw [World.cell?_alloc_new]; rfl
 have k1 : (w.alloc (.cells #[.slice ao d.ws.length ac, .slice bo d.ts.length bc, .slice co d.fs.length cc] 26)).cell? ⟨w.heap.size, 1, none⟩ = some (.slice bo d.ts.length bc) := by rw [World.cell?_alloc_new]; rfl
 have k2 : (w.alloc (.cells #[.slice ao d.ws.length ac, .slice bo d.ts.length bc, .slice co d.fs.length cc] 26)).cell? ⟨w.heap.size, 2, none⟩ = some (.slice co d.fs.length cc) := by rw [World.cell?_alloc_new]; rfl
 replace hQ := Lib.hid hQ
 clear h
 go_enter Tryz.func6, Tryz.ntmps6
 unfold lightD
 by_cases n0 : 10 < d.ws.length
 ·have n0B : decide ((10 : Int) < (d.ws.length : Int)) = true := decide_eq_true (by omega)
  rw [decide_eq_false (by omega : ¬ d.ws.length ≤ 10)]
  clear hR0 hR1 hlen0 hlen1
  go_wp2
  go_ret
  exact ⟨rfl, hQ.out⟩
 have n0B : decide ((10 : Int) < (d.ws.length : Int)) = false := decide_eq_false (by omega)
 rw [decide_eq_true (by omega : d.ws.length ≤ 10), Bool.true_and]
 by_cases n1 : 6 < d.ts.length
 ·have n1B : decide ((6 : Int) < (d.ts.length : Int)) = true := decide_eq_true (by omega)
  rw [decide_eq_false (by omega : ¬ d.ts.length ≤ 6)]
  clear hR0 hR1 hlen0 hlen1
  go_wp2
  go_ret
  exact ⟨rfl, hQ.out⟩
 have n1B : decide ((6 : Int) < (d.ts.length : Int)) = false := decide_eq_false (by omega)
 rw [decide_eq_true (by omega : d.ts.length ≤ 6), Bool.true_and]
 by_cases n2 : 30 < d.fs.length
 ·have n2B : decide ((30 : Int) < (d.fs.length : Int)) = true := decide_eq_true (by omega)
  rw [decide_eq_false (by omega : ¬ d.fs.length ≤ 30)]
  clear hR0 hR1 hlen0 hlen1
  go_wp2
  go_ret
  exact ⟨rfl, hQ.out⟩
 have n2B : decide ((30 : Int) < (d.fs.length : Int)) = false := decide_eq_false (by omega)
 rw [decide_eq_true (by omega : d.fs.length ≤ 30), Bool.true_and]
 go_wp2
 generalize w.alloc (.cells #[.slice ao d.ws.length ac, .slice bo d.ts.length bc, .slice co d.fs.length cc] 26) = W at *
 generalize w.heap.size = H at *
 clear n0 n1 n2 n0B n1B n2B
 go_loopw [3] (fun iv wr => ∃ i : Nat, i ≤ d.ws.length ∧ iv = .int .i64 i ∧ (∀ j (hj : j < d.ws.length), j < i → lightR d.ws[j] = true) ∧ W = wr) (fun iv _ => d.ws.length + 1 - (intOf iv).toNat)
 case atStart => exact ⟨0, Nat.zero_le _, rfl, fun j _ hj => by omega, rfl⟩
 case round =>
  obtain ⟨i, hi, rfl, hall, rfl⟩ := hrel
  by_cases hl : i < d.ws.length
  ·have hlB : decide ((i : Int) < (d.ws.length : Int)) = true := decide_eq_true (by omega)
   have hlI : (i : Int) < (d.ws.length : Int) := by omega
   have hi0 : (0 : Int) ≤ (i : Int) := by omega
   have wk1 : IntKind.i64.wrap ((i : Int) + 1) = (i : Int) + 1 := by rw [IntKind.wrap_i64]; omega
   obtain ⟨a, cap, e1, _, _, hr⟩ := hR0.at_ hl
   obtain ⟨rfl, _, rfl⟩ : ao = some a ∧ True ∧ ac = cap := by simpa using e1
   have hn := hr.n
   obtain ⟨sv, g5, g6⟩ := hr.l
   have hF := light_step (l := d.ws) hl hall
   generalize d.ws[i] = F at *
   obtain ⟨N, X, Y, Z, SL⟩ := F
   simp only at hn g5 g6 hF
   have ht := light_any sv SL _ g6 _ rfl
   have HL := Lib.hid hl
   cases c1 : decide ((30 : Int) < (N.size : Int))
   ·cases c2 : decide ((SL.length : Int) ≤ 6)
    ·rw [c2] at ht
     have HF := Lib.hid (hF.2 (by simp only [lightR]; rw [Bool.and_eq_false_iff]; right; rw [← c2]; exact dec_int _))
     clear hall hr hR0 hR1 e1 hl hi hlen0 hlen1 g6 hF
     go_wp2_with fail
     refine (Calls.mono ht ?_)
     rintro _ _ ⟨rfl, rfl⟩
     go_wp2
     go_ret
     exact ⟨by rw [HF.out]; simp, hQ.out⟩
    ·rw [c2] at ht
     have HA := Lib.hid (hF.1 (by simp only [lightR]; rw [Bool.and_eq_true]; exact ⟨by have := of_decide_eq_false c1; exact decide_eq_true (by omega), by have := of_decide_eq_true c2; exact decide_eq_true (by omega)⟩))
     clear hall hr e1 hl hi g6 hF
     go_wp2_with fail
     refine (Calls.mono ht ?_)
     rintro _ _ ⟨rfl, rfl⟩
     go_wp2
     go_roundw
     case rel => exact ⟨i + 1, by have := HL.out; omega, by go_num, HA.out, trivial⟩
     case measure => have := HL.out; simp [intOf]; omega
   ·have HF := Lib.hid (hF.2 (by simp only [lightR]; rw [Bool.and_eq_false_iff]; left; have := of_decide_eq_true c1; exact decide_eq_false (by omega)))
    clear hall hr hR0 hR1 e1 hl hi hlen0 hlen1 g6 hF ht
    go_wp2
    go_ret
    exact ⟨by rw [HF.out]; simp, hQ.out⟩
  ·have hlB : decide ((i : Int) < (d.ws.length : Int)) = false := decide_eq_false (by omega)
   have hyes0 := Lib.hid (light_all (l := d.ws) (fun j hj => hall j hj (by omega)))
   clear hall hR0 hi hlen0
   go_wp2
   go_loopw [4] (fun iv wr => ∃ i : Nat, i ≤ d.ts.length ∧ iv = .int .i64 i ∧ (∀ j (hj : j < d.ts.length), j < i → lightR d.ts[j] = true) ∧ W = wr) (fun iv _ => d.ts.length + 1 - (intOf iv).toNat)
   case atStart => exact ⟨0, Nat.zero_le _, rfl, fun j _ hj => by omega, rfl⟩
   case round =>
    clear hl hlB
    obtain ⟨i, hi, rfl, hall, rfl⟩ := hrel
    by_cases hl : i < d.ts.length
    ·have hlB : decide ((i : Int) < (d.ts.length : Int)) = true := decide_eq_true (by omega)
     have hlI : (i : Int) < (d.ts.length : Int) := by omega
     have hi0 : (0 : Int) ≤ (i : Int) := by omega
     have wk1 : IntKind.i64.wrap ((i : Int) + 1) = (i : Int) + 1 := by rw [IntKind.wrap_i64]; omega
     obtain ⟨a, cap, e1, _, _, hr⟩ := hR1.at_ hl
     obtain ⟨rfl, _, rfl⟩ : bo = some a ∧ True ∧ bc = cap := by simpa using e1
     have hn := hr.n
     obtain ⟨sv, g5, g6⟩ := hr.l
     have hF := light_step (l := d.ts) hl hall
     generalize d.ts[i] = F at *
     obtain ⟨N, X, Y, Z, SL⟩ := F
     simp only at hn g5 g6 hF
     have ht := light_any sv SL _ g6 _ rfl
     have HL := Lib.hid hl
     cases c1 : decide ((30 : Int) < (N.size : Int))
     ·cases c2 : decide ((SL.length : Int) ≤ 6)
      ·rw [c2] at ht
       have HF := Lib.hid (hF.2 (by simp only [lightR]; rw [Bool.and_eq_false_iff]; right; rw [← c2]; exact dec_int _))
       clear hall hr hR1 e1 hl hi hlen1 g6 hF
       go_wp2_with fail
       refine (Calls.mono ht ?_)
       rintro _ _ ⟨rfl, rfl⟩
       go_wp2
       go_ret
       exact ⟨by rw [HF.out]; simp, hQ.out⟩
      ·rw [c2] at ht
       have HA := Lib.hid (hF.1 (by simp only [lightR]; rw [Bool.and_eq_true]; exact ⟨by have := of_decide_eq_false c1; exact decide_eq_true (by omega), by have := of_decide_eq_true c2; exact decide_eq_true (by omega)⟩))
       clear hall hr e1 hl hi g6 hF
       go_wp2_with fail
       refine (Calls.mono ht ?_)
       rintro _ _ ⟨rfl, rfl⟩
       go_wp2
       go_roundw
       case rel => exact ⟨i + 1, by have := HL.out; omega, by go_num, HA.out, trivial⟩
       case measure => have := HL.out; simp [intOf]; omega
     ·have HF := Lib.hid (hF.2 (by simp only [lightR]; rw [Bool.and_eq_false_iff]; left; have := of_decide_eq_true c1; exact decide_eq_false (by omega)))
      clear hall hr hR1 e1 hl hi hlen1 g6 hF ht
      go_wp2
      go_ret
      exact ⟨by rw [HF.out]; simp, hQ.out⟩
    ·have hlB : decide ((i : Int) < (d.ts.length : Int)) = false := decide_eq_false (by omega)
     have hyes := Lib.hid (light_all (l := d.ts) (fun j hj => hall j hj (by omega)))
     clear hall hR1 hi hlen1
     go_wp2
     go_ret
     exact ⟨by rw [hyes0.out, hyes.out]; rfl, hQ.out⟩
end Go.Proofs.YthlileddhgglnaaGreatDoor
