/-
  Layer 13: what is done so far, in memory; is the tip another one; a tip is used; Layer 13: slices.Repeat of one element.
-/
import Derived.OwnWalk
import Derived.Deep.QuietTactic
import Derived.BigQuiet
import Derived.Test.YtjdkhobkdlldnaaGreatDoorY1
import Derived.Test.YtjdkhobkdlldnaaGreatDoorY2
import Derived.Test.YtjdkhobkdlldnaaGreatDoorY3
import Derived.Test.YtjdkhobkdlldnaaGreatDoorY4
import Derived.Test.YtjdkhobkdlldnaaGreatDoorY5
import Derived.Test.YtjdkhobkdlldnaaGreatDoorY6
import Derived.Test.YtjdkhobkdlldnaaGreatDoorY7
namespace Go.Proofs.YtjdkhobkdlldnaaGreatDoor
open Go.RowKit
set_option linter.unusedVariables false
theorem own_full {w : World} {base : Nat} {e : TypeId} {size n c : Nat} {o : Option Addr} {xs : List Value} (h : w.ownsRow base e size (.slice o n c) n xs) (hn : 0 < n) : ∃ g, o = some ⟨g, 0, none⟩ ∧ base ≤ g ∧ n ≤ c ∧ c ≤ maxLen := by
  rcases h.2 with ⟨h0, _⟩ | ⟨g, cap, cur, h0, hb, _, hnc, hm, _⟩
  · simp only [Value.slice.injEq] at h0; omega
  · simp only [Value.slice.injEq] at h0
    obtain ⟨rfl, _, rfl⟩ := h0
    exact ⟨g, rfl, hb, hnc, hm⟩
structure WorkM (w : World) (base W : Nat) (wv tv fv : Value) (st : XSt) (ov sv : Value) : Prop where
  obj : w.heap[W]? = some (.cells #[wv, tv, fv, .string st.t, .bool st.fr, ov, sv] 137 (0, 0))
  ro : w.ownsRow base 124 9 ov st.ops.length (flatOp st.ops)
  rs : w.ownsRow base 3 1 sv st.of.length (flatI st.of)
  hb : base ≤ W
def kX : List (Option TypeId) := [some 137, some 124, some 3]
section
variable {w w' : World} {base W : Nat} {wv tv fv ov sv : Value} {st : XSt}
theorem WorkM.keep (h : WorkM w base W wv tv fv st ov sv) (q : B w w') : WorkM w' base W wv tv fv st ov sv :=
  ⟨q.obj h.obj, row_keep h.ro q, row_keep h.rs q, h.hb⟩
theorem WorkM.setT (h : WorkM w base W wv tv fv st ov sv) (n : ByteArray) : WorkM (w.setCell ⟨W, 3, none⟩ (.string n)) base W wv tv fv { st with t := n } ov sv :=
  ⟨obj_set h.obj 3 _, ownsRow_set h.ro h.obj (by decide) _ _, ownsRow_set h.rs h.obj (by decide) _ _, h.hb⟩
theorem WorkM.setF (h : WorkM w base W wv tv fv st ov sv) (b : Bool) : WorkM (w.setCell ⟨W, 4, none⟩ (.bool b)) base W wv tv fv { st with fr := b } ov sv :=
  ⟨obj_set h.obj 4 _, ownsRow_set h.ro h.obj (by decide) _ _, ownsRow_set h.rs h.obj (by decide) _ _, h.hb⟩
theorem WorkM.tn (h : WorkM w base W wv tv fv st ov sv) (k : Nat) (v : Value) : Tn kX base w (w.setCell ⟨W, k, none⟩ v) := Tn.set (p := ⟨W, k, none⟩) (Tn.refl _ _ _) h.obj (by simp [kX]) h.hb v
theorem changedX_at {t : ByteArray} {ops : List Opx} {n : Nat} {x : Opx} (hn : ops.length = n + 1) (hx : ops[n]? = some x) : changedX t ops = !(x.t.toList == t.toList) := by
  unfold changedX
  rw [List.getLast?_eq_getElem?, hn, Nat.add_sub_cancel, hx]
set_option maxRecDepth 100000 in
set_option maxHeartbeats 1600000 in
theorem changed_any (h : WorkM w base W wv tv fv st ov sv) : Calls Tryz.prog 110 #[.pointer (some ⟨W, 0, none⟩)] w fun e w' => e = .returned (.bool (changedX st.t st.ops)) ∧ B w w' := by
  have hro := h.ro
  obtain ⟨oo, oc, rfl⟩ := own_slice hro
  have k3 := obj_cell h.obj 3
  have k5 := obj_cell h.obj 5
  obtain ⟨t, ht⟩ : ∃ t, st.t = t := ⟨_, rfl⟩
  rw [ht] at k3 ⊢
  obtain ⟨n, hn⟩ : ∃ n, st.ops.length = n := ⟨_, rfl⟩
  rw [hn] at hro k5
  match n, hn with
  | 0, hn =>
    have HE := Lib.hid (show changedX t st.ops = true by rw [List.length_eq_zero_iff.1 hn]; rfl)
    have b0 := B.refl w
    clear h hn ht hro
    go_enter Tryz.func110, Tryz.ntmps110
    go_wp2_with fail
    go_quiet (fail)
    go_wp2
    go_ret
    refine ⟨by rw [HE.out]; rfl, ?_⟩
    first | exact (B.refl w).drewN _ | exact B.refl w
  | n + 1, hn =>
    obtain ⟨x, hx⟩ : ∃ x, st.ops[n]? = some x := ⟨_, List.getElem?_eq_getElem (by omega)⟩
    have hc := changedX_at (t := t) hn hx
    obtain ⟨g, rfl, _, hnc, hm9⟩ := own_full hro (by omega)
    have y := hro.cellAt (n * 9 + 7) (by omega)
    rw [flatOp_get hx 7 (by omega)] at y
    have y' : w.cell? ⟨g, n * 9 + 7, none⟩ = some (.string x.t) := y
    have hB0 : (((n + 1 : Nat) : Int) == 0) = false := by simp; omega
    have w1 : IntKind.i64.wrap (((n + 1 : Nat) : Int) - 1) = (n : Int) := by unfold maxLen at hm9; rw [IntKind.wrap_i64]; omega
    have hlt : (n : Int) < ((n + 1 : Nat) : Int) := by omega
    have hn0 : (0 : Int) ≤ (n : Int) := by omega
    obtain ⟨xt, hxt⟩ : ∃ xt, x.t = xt := ⟨_, rfl⟩
    rw [hxt] at hc y'
    have HE := Lib.hid hc
    clear h hn ht hro hc y hx hxt x
    generalize hn1 : n + 1 = n1 at *
    have HN := Lib.hid hn1
    clear hn1
    cases hb : (xt.toList == t.toList)
    all_goals
      rw [hb] at HE
      go_enter Tryz.func110, Tryz.ntmps110
      go_wp2_with fail
      go_quiet (fail)
      go_wp2
      go_ret
      refine ⟨by rw [HE.out]; rfl, ?_⟩
      first | exact (B.refl w).drewN _ | exact B.refl w
set_option maxRecDepth 100000 in
set_option maxHeartbeats 1600000 in
theorem use_any {d : Dk} (h : WorkM w base W wv tv fv st ov sv) (hT : IsRecs w tv d.ts) (hbw : base ≤ w.heap.size) (n : ByteArray) : Calls Tryz.prog 84 #[.pointer (some ⟨W, 0, none⟩), .string n] w fun e w' =>
    (tipIn d n = true ∧ e = .returned (.int .i64 0) ∧ WorkM w' base W wv tv fv { st with t := n } ov sv ∧ Tn kX base w w') ∨ (tipIn d n = false ∧ e = .returned (.int .i64 28) ∧ B w w') := by
  have q0 : B w (w.alloc (.cells #[.string n] 9)) := (B.refl w).alloc _ _
  have kn : (w.alloc (.cells #[.string n] 9)).cell? ⟨w.heap.size, 0, none⟩ = some (.string n) := by rw [World.cell?_alloc_new]; rfl
  have c1 := tiphas_any tv d.ts n w.heap.size _ (hT.keepB q0) kn
  have HW := Lib.hid (And.intro (h.keep q0) q0)
  obtain ⟨bo, bc, rfl⟩ := hT.form
  have k1 := obj_cell (h.keep q0).obj 1
  have hnot : ∀ (x : Bool) (w : World), (Op.unary .not (.bool x)).run Tryz.prog w = .ok (.bool (!x)) w := fun _ _ => rfl
  unfold tipIn
  generalize namedW d.ts n = nm at *
  generalize d.ts.length = tn at *
  clear h q0 hT
  go_enter Tryz.func84, Tryz.ntmps84
  go_wp2_with fail
  generalize w.alloc (.cells #[.string n] 9) = w0 at *
  generalize w.heap.size = H at *
  refine c1.mono ?_
  rintro e w1 ⟨rfl, q1⟩
  have hW1 := HW.out.1.keep q1
  have hq1 := HW.out.2.trans q1
  have o1 := hW1.obj
  have kn1 := q1.keep kn
  have k31 := obj_cell o1 3
  have k31f := obj_free o1 3
  have HW1 := Lib.hid (And.intro hW1 hq1)
  clear c1 HW kn k1 hq1 q1
  cases nm
  · go_wp2
    go_ret
    exact ⟨rfl, HW1.out.2⟩
  · go_wp2
    go_ret
    exact ⟨rfl, HW1.out.1.setT n, (HW1.out.2.tn _ _).trans (HW1.out.1.tn 3 _)⟩
set_option maxRecDepth 100000 in
set_option maxHeartbeats 1600000 in
theorem hasAll_any {d : Dk} (h : WorkM w base W wv tv fv st ov sv) (hD : IsDk w wv tv fv d) (hb : ∀ x ∈ d.ws, wareB x) (h100 : d.ws.length ≤ 100) (lv : Value) (L : List Wp) (hL : IsWps w lv L) (hI : WpsI L) :
    Calls Tryz.prog 85 #[.pointer (some ⟨W, 0, none⟩), lv] w fun e w' => e = .returned (.bool (L.all (inD d))) ∧ B w w' := by
  obtain ⟨lo, lc, rfl⟩ := hL.form
  obtain ⟨n0, hn0⟩ : ∃ n0, L.length = n0 := ⟨_, rfl⟩
  rw [hn0]
  have HH := Lib.hid (And.intro h (And.intro hD (And.intro hL hn0)))
  obtain ⟨ao, ac, bo, bc, co, cc, rfl, rfl, rfl⟩ := hD.forms
  have HB := Lib.hid (And.intro hb (And.intro h100 hI))
  have hn9 := hL.len
  rw [hn0] at hn9
  obtain ⟨an, han⟩ : ∃ an, d.ws.length = an := ⟨_, rfl⟩
  obtain ⟨bn, hbn⟩ : ∃ bn, d.ts.length = bn := ⟨_, rfl⟩
  obtain ⟨cn, hcn⟩ : ∃ cn, d.fs.length = cn := ⟨_, rfl⟩
  rw [han, hbn, hcn] at HH
  clear h hD hb h100 hL hI hn0 han hbn hcn
  have hnot : ∀ (x : Bool) (w : World), (Op.unary .not (.bool x)).run Tryz.prog w = .ok (.bool (!x)) w := fun _ _ => rfl
  go_enter Tryz.func85, Tryz.ntmps85
  go_wp2_with fail
  go_loopw [11] (fun iv wr => ∃ i : Nat, i ≤ n0 ∧ iv = .int .i64 i ∧ (L.take i).all (inD d) = true ∧ B w wr) (fun iv _ => n0 + 1 - (intOf iv).toNat)
  case atStart => exact ⟨0, Nat.zero_le _, rfl, rfl, B.refl _⟩
  case round =>
    obtain ⟨i, hi, rfl, hall, q⟩ := hrel
    obtain ⟨wo, rfl⟩ : ∃ wo : World, wo = wr := ⟨_, rfl⟩
    by_cases hl : i < n0
    · have hlB : decide ((i : Int) < (n0 : Int)) = true := decide_eq_true (by omega)
      have hlN : decide (i < n0) = true := decide_eq_true hl
      have hlI : (i : Int) < (n0 : Int) := by omega
      have hi0 : (0 : Int) ≤ (i : Int) := by omega
      have wk1 : IntKind.i64.wrap ((i : Int) + 1) = (i : Int) + 1 := by rw [IntKind.wrap_i64]; omega
      have hl' : i < L.length := by rw [HH.out.2.2.2]; exact hl
      obtain ⟨a, cap, e1, _, _, hr⟩ := (HH.out.2.2.1.keepB q).at_ hl'
      rw [HH.out.2.2.2] at e1
      obtain ⟨rfl, rfl⟩ : lo = some a ∧ lc = cap := by simpa using e1
      obtain ⟨x, hx⟩ : ∃ x, L[i] = x := ⟨_, rfl⟩
      rw [hx] at hr
      have hgx : L[i]? = some x := by rw [List.getElem?_eq_getElem hl', hx]
      have hup : (L.take (i + 1)).all (inD d) = inD d x := by
        rw [List.take_add_one, hgx, List.all_append, hall]
        simp
      have hbad : inD d x = false → L.all (inD d) = false := fun he => List.all_eq_false.2 ⟨_, List.mem_of_getElem? hgx, by simp [he]⟩
      have hxI := HB.out.2.2 x (List.mem_of_getElem? hgx)
      obtain ⟨n, r, c⟩ := x
      obtain ⟨y0, y1, y2⟩ := hr
      simp only at y0 y1 y2
      have qb : B wo (wo.alloc (.cells #[.string n, .int .i64 r, .int .i64 c] 39)) := (B.refl _).alloc _ _
      have oB := obj_new wo (.cells #[.string n, .int .i64 r, .int .i64 c] 39)
      have hM := (HH.out.1.keep q).keep qb
      have hDk := (HH.out.2.1.keepB q).keepB qb
      have cI := fun w' (qq : B (wo.alloc (.cells #[.string n, .int .i64 r, .int .i64 c] 39)) w') => Calls.mono (windex_any _ _ _ d n r c hxI.1 hxI.2 w' (hDk.keepB qq) HB.out.1 HB.out.2.1) (fun e w2 h => And.intro h.1 h.2.b)
      have hin : inD d ⟨n, r, c⟩ = (indexC d.ws 0 n r c).isSome := rfl
      rw [hin] at hup hbad
      generalize (indexC d.ws 0 n r c).isSome = OK at *
      generalize (indexC d.ws 0 n r c).getD 0 = IX at *
      have oW := hM.obj
      have k0 := obj_cell oW 0
      have k1 := obj_cell oW 1
      have k2 := obj_cell oW 2
      have g0 := obj_cell oB 0
      have g1 := obj_cell oB 1
      have g2 := obj_cell oB 2
      have HX := Lib.hid (And.intro hup (And.intro hbad (And.intro hl (q.trans qb))))
      clear hup hbad hl q qb hxI hgx hx e1 hl' hall hi oW oB hM hDk hin HB
      go_wp2_with fail
      generalize wo.alloc (.cells #[.string n, .int .i64 r, .int .i64 c] 39) = w1 at *
      generalize wo.heap.size = Wb at *
      have qd : B w1 w1.drew := (B.refl _).drew
      refine wp_region_noPanic ?_
      refine wp_region_seq (S := fun w' => w'.cell? ⟨W, 0, none⟩ = some (.slice ao an ac) ∧ w'.cell? ⟨W, 1, none⟩ = some (.slice bo bn bc) ∧ w'.cell? ⟨W, 2, none⟩ = some (.slice co cn cc) ∧ w'.cell? ⟨Wb, 0, none⟩ = some (.string n) ∧ w'.cell? ⟨Wb, 1, none⟩ = some (.int .i64 r) ∧ w'.cell? ⟨Wb, 2, none⟩ = some (.int .i64 c) ∧ B w1 w') [(0, 0), (1, 0), (2, 0), (3, 0), (4, 0), (5, 2), (6, 0), (7, 0), (8, 0), (9, 0), (10, 0)] [0, 1, 2, 4, 0, 24, 32, 64, 64, 255, 1023] [0, 1, 2, 4, 0, 24, 32, 64, 64, 128, 256] (by kernel_rfl) (by kernel_rfl) (fun _ _ _ _ _ h => h) ?_ (fun hH => ?_)
      · exact ⟨qd.keep k0, qd.keep k1, qd.keep k2, qd.keep g0, qd.keep g1, qd.keep g2, qd⟩
      refine wpSeq_take (d := 16) (v := ?_) rfl rfl (by kernel_rfl) (fun w hS => ?_) ?_
      rotate_left
      · go_simp <;> with_reducible rfl
      dsimp only [List.set_cons_zero, List.set_cons_succ]
      refine wpSeq_take (d := 17) (v := ?_) rfl rfl (by kernel_rfl) (fun w hS => ?_) ?_
      rotate_left
      · go_simp <;> with_reducible rfl
      dsimp only [List.set_cons_zero, List.set_cons_succ]
      refine wpSeq_take (d := 18) (v := ?_) rfl rfl (by kernel_rfl) (fun w hS => ?_) ?_
      rotate_left
      · go_simp <;> with_reducible rfl
      dsimp only [List.set_cons_zero, List.set_cons_succ]
      refine wpSeq_take (d := 19) (v := ?_) rfl rfl (by kernel_rfl) (fun w hS => ?_) ?_
      rotate_left
      · go_simp <;> with_reducible rfl
      dsimp only [List.set_cons_zero, List.set_cons_succ]
      refine wpSeq_take (d := 20) (v := ?_) rfl rfl (by kernel_rfl) (fun w hS => ?_) ?_
      rotate_left
      · go_simp <;> with_reducible rfl
      dsimp only [List.set_cons_zero, List.set_cons_succ]
      refine wpSeq_call rfl (by kernel_rfl) (fun K hK => ?_)
      go_simp
      (with_reducible refine (cI _ hH.2.2.2.2.2.2).mono ?_)
      rintro e w' ⟨rfl, hq⟩
      refine hK.out _ _ ?_ (fun hH => ?_)
      · exact ⟨hq.keep (hH.1), hq.keep (hH.2.1), hq.keep (hH.2.2.1), hq.keep (hH.2.2.2.1), hq.keep (hH.2.2.2.2.1), hq.keep (hH.2.2.2.2.2.1), (hH.2.2.2.2.2.2).trans hq⟩
      clear hK
      refine wpSeq_take (d := 15) (v := ?_) rfl rfl (by kernel_rfl) (fun w hS => ?_) ?_
      rotate_left
      · go_simp <;> with_reducible rfl
      dsimp only [List.set_cons_zero, List.set_cons_succ]
      refine wpSeq_take (d := 22) (v := ?_) rfl rfl (by kernel_rfl) (fun w hS => ?_) ?_
      rotate_left
      · go_simp <;> with_reducible rfl
      dsimp only [List.set_cons_zero, List.set_cons_succ]
      refine wpSeq_take (d := 23) (v := ?_) rfl rfl (by kernel_rfl) (fun w hS => ?_) ?_
      rotate_left
      · go_simp <;> with_reducible rfl
      dsimp only [List.set_cons_zero, List.set_cons_succ]
      refine wpSeq_take (d := 7) (v := ?_) rfl rfl (by kernel_rfl) (fun w hS => ?_) ?_
      rotate_left
      · go_simp <;> with_reducible rfl
      dsimp only [List.set_cons_zero, List.set_cons_succ]
      refine wpSeq_take (d := 8) (v := ?_) rfl rfl (by kernel_rfl) (fun w hS => ?_) ?_
      rotate_left
      · go_simp <;> with_reducible rfl
      dsimp only [List.set_cons_zero, List.set_cons_succ]
      refine wpSeq_done ?_
      refine NoPanic.normal ?_
      have hq9 := HX.out.2.2.2.trans hH.2.2.2.2.2.2
      clear hq hH qd k0 k1 k2 g0 g1 g2 cI
      cases OK
      · go_wp2
        go_ret
        exact ⟨by rw [HX.out.2.1 trivial]; rfl, hq9⟩
      · go_wp2
        go_roundw
        case rel => exact ⟨i + 1, by have := HX.out.2.2.1; omega, by go_num, HX.out.1, hq9⟩
        case measure => have := HX.out.2.2.1; simp [intOf]; omega
    · have hlB : decide ((i : Int) < (n0 : Int)) = false := decide_eq_false (by omega)
      have hlN : decide (i < n0) = false := decide_eq_false hl
      rw [List.take_of_length_le (by rw [HH.out.2.2.2]; omega)] at hall
      have HZ := Lib.hid (And.intro hall q)
      clear hall hi q
      go_wp2
      go_ret
      exact ⟨by rw [HZ.out.1]; rfl, HZ.out.2⟩
end
end Go.Proofs.YtjdkhobkdlldnaaGreatDoor

namespace Go.Proofs.YtjdkhobkdlldnaaGreatDoor
open Go.RowKit
set_option linter.unusedVariables false
/-- A list, so many times. -/
def repL (n : Nat) (xs : List Value) : List Value := (List.replicate n xs).flatten
theorem repL_len (n : Nat) (xs : List Value) : (repL n xs).length = n * xs.length := by simp [repL]
theorem repL_add (a b : Nat) (xs : List Value) : repL a xs ++ repL b xs = repL (a + b) xs := by simp [repL, ← List.replicate_append_replicate]
theorem repL_one (xs : List Value) : repL 1 xs = xs := by simp [repL]
theorem repL_mem {n : Nat} {xs : List Value} {u : Value} (h : u ∈ repL n xs) : u ∈ xs := by
  obtain ⟨l, hl, hu⟩ := List.mem_flatten.1 h
  obtain ⟨_, rfl⟩ := List.mem_replicate.1 hl
  exact hu
theorem repL_take {m n : Nat} (h : m ≤ n) (xs : List Value) : (repL n xs).take (m * xs.length) = repL m xs := by
  obtain ⟨k, rfl⟩ : ∃ k, n = m + k := ⟨n - m, by omega⟩
  rw [← repL_add, List.take_append_of_le_length (by rw [repL_len]; exact Nat.le_refl _), List.take_of_length_le (by rw [repL_len]; exact Nat.le_refl _)]
/-- A row under way: its first m elements. -/
structure RepAt (w : World) (base g : Nat) (e : TypeId) (N m : Nat) (xs : List Value) : Prop where
  hb : base ≤ g
  cur : ∃ cur : Array Value, w.heap[g]? = some (.cells cur e (0, 0)) ∧ cur.size = N * xs.length ∧ cur.toList.take (m * xs.length) = repL m xs
theorem RepAt.cells {w : World} {base g : Nat} {e : TypeId} {N m : Nat} {xs : List Value} (h : RepAt w base g e N m xs) {k : Nat} (hk : k ≤ m) : ∀ j v, (repL k xs)[j]? = some v → w.cell? ((⟨g, 0, none⟩ : Addr).add j) = some v := by
  obtain ⟨cur, ho, hs, ht⟩ := h.cur
  intro j v hj
  rw [addz, obj_cell ho, ← Array.getElem?_toList]
  have hl := (List.getElem?_eq_some_iff.1 hj).1
  rw [repL_len] at hl
  have hkm := Nat.mul_le_mul_right xs.length hk
  have e2 : (repL m xs)[j]? = some v := by
    rw [← repL_take hk, List.getElem?_take, if_pos hl] at hj
    exact hj
  rw [← ht, List.getElem?_take, if_pos (by omega)] at e2
  exact e2
theorem RepAt.more {w w' : World} {base g : Nat} {e : TypeId} {N m k : Nat} {xs : List Value} (h : RepAt w base g e N m xs) (hk : m + k ≤ N) {cur : Array Value} (ho : w.heap[g]? = some (.cells cur e (0, 0)))
    (hw : w'.heap[g]? = some (.cells (cur.toList.take (m * xs.length) ++ repL k xs ++ cur.toList.drop (m * xs.length + (repL k xs).length)).toArray e (0, 0))) : RepAt w' base g e N (m + k) xs := by
  obtain ⟨cur', ho', hs, ht⟩ := h.cur
  have : cur = cur' := by rw [ho] at ho'; cases ho'; rfl
  subst this
  refine ⟨h.hb, _, hw, ?_, ?_⟩
  · have h1 := Nat.mul_le_mul_right xs.length hk
    rw [Nat.add_mul] at h1
    simp only [List.size_toArray, List.length_append, List.length_take, List.length_drop, Array.length_toList, repL_len, hs]
    omega
  · rw [ht, repL_add]
    simp only
    rw [List.take_append_of_le_length (by rw [repL_len]; exact Nat.le_refl _), List.take_of_length_le (by rw [repL_len]; exact Nat.le_refl _)]
theorem RepAt.zero {w : World} {base g N c : Nat} {e : TypeId} {S : Nat} {ys xs : List Value} (h : w.ownsRow base e S (.slice (some ⟨g, 0, none⟩) N c) N ys) (hx : xs.length = S) (hc : c = N) : RepAt w base g e N 0 xs := by
  rcases h.2 with ⟨h0, _⟩ | ⟨g', cp, cur, h0, hb, ho, _, _, hs, _⟩
  · simp at h0
  · simp only [Value.slice.injEq, Option.some.injEq, Addr.mk.injEq] at h0
    obtain ⟨⟨rfl, _⟩, _, rfl⟩ := h0
    subst hx
    exact ⟨hb, cur, ho, by rw [hs, hc], by simp [repL]⟩
theorem RepAt.own {w : World} {base g : Nat} {e : TypeId} {N : Nat} {xs : List Value} {size : Nat} (h : RepAt w base g e N N xs) (hx : xs.length = size) (hN : N ≤ maxLen) : w.ownsRow base e size (.slice (some ⟨g, 0, none⟩) N N) N (repL N xs) := by
  obtain ⟨cur, ho, hs, ht⟩ := h.cur
  subst hx
  exact ⟨repL_len _ _, .inr ⟨g, N, cur, rfl, h.hb, ho, Nat.le_refl _, hN, hs, ht⟩⟩
theorem repIInfo : (Tryz.prog.info? 3).map (fun i => (i.zero, i.size, i.bytes)) = some (some (.int .i64 0), 1, 8) := by kernel_rfl
set_option maxRecDepth 100000 in
set_option maxHeartbeats 2000000 in
theorem repI_any (ad : Addr) (c0 N : Nat) (xs : List Value) (hxs : xs.length = 1) (hx1 : ∀ u ∈ xs, u.oneCell' = true) (hN1 : 1 ≤ N) (hN2 : N ≤ 1000) (w : World) (hsrc : ∀ j v, xs[j]? = some v → w.cell? (ad.add j) = some v) :
    Calls Tryz.prog 111 #[.slice (some ad) 1 c0, .int .i64 (N : Int)] w fun e w' => ∃ g, e = .returned (.slice (some ⟨g, 0, none⟩) N N) ∧ w'.ownsRow w.heap.size 3 1 (.slice (some ⟨g, 0, none⟩) N N) N (repL N xs) ∧ B w w' := by
  obtain ⟨i0, hi0, hz0, hz1, hz2⟩ := info_of repIInfo
  have cM := fun w => Tryz.bits_Mul 1 N (by decide) (by omega) w
  rw [show (1 * N / 18446744073709551616 : Nat) = 0 by omega, show (1 * N % 18446744073709551616 : Nat) = N by omega] at cM
  have t1 : decide ((N : Int) < 0) = false := decide_eq_false (by omega)
  have t2 : decide ((9223372036854775807 : Int) < (N : Int)) = false := decide_eq_false (by omega)
  have t3 : decide ((0 : Int) < 0) = false := rfl
  have u1 : IntKind.u64.wrap (N : Int) = (N : Int) := by rw [IntKind.wrap_u64]; omega
  have u2 : IntKind.i64.wrap (N : Int) = (N : Int) := by rw [IntKind.wrap_i64]; omega
  have hbB : i0.bytes * N ≤ 281474976710656 := by rw [hz2]; omega
  have hnl : N ≤ maxLen := by unfold maxLen; omega
  have HS := Lib.hid hsrc
  have HW := Lib.hid (Nat.le_refl w.heap.size)
  clear hsrc
  go_enter Tryz.func111, Tryz.ntmps111
  go_wp2_with fail
  refine (cM _).mono ?_
  rintro e w1 ⟨rfl, e1⟩
  replace e1 := e1.symm
  subst e1
  clear cM
  have HZ := Lib.hid (And.intro hxs (And.intro hx1 (And.intro hN1 hN2)))
  have hmin : Nat.min 1 N = 1 := Nat.min_eq_left hN1
  clear hxs hx1 hN1 hN2
  go_wp2_with (at_make; refine wpList_make_full _ rfl _ _ 69 rfl w.heap.size 3 i0 _ 1 Tryz.underlying69 hi0 hz0 hz1 .i64 .i64 _ _ N rfl rfl rfl rfl hbB hnl (Nat.le_refl _) ?_; intro w1 hrow hgrow; have q1 := (B.refl w).grownBy hgrow (fun _ h => by cases h); clear hgrow; have hR0 := RepAt.zero hrow HZ.out.1 rfl; clear hrow; obtain ⟨cur, hoc, hcs, hct⟩ := hR0.cur; go_wp2_with (refine wpList_copy_any rfl _ _ 69 69 rfl 3 i0 1 Tryz.underlying69 hi0 hz1 w.heap.size 0 N N ad 1 c0 rfl rfl cur 3 hoc xs (by rw [hmin, HZ.out.1]) (fun j v h => q1.keep (HS.out j v h)) (by rw [hcs, HZ.out.1]; have := HZ.out.2.2.1; omega) HZ.out.2.1 1 hmin w.heap.size w q1.below HW.out ?_; intro w2 ho2 hb2; have hR1 := hR0.more (k := 1) HZ.out.2.2.1 hoc (by rw [repL_one, Nat.zero_mul]; exact ho2); clear ho2 hoc hcs hct hR0; replace hb2 : B w w2 := ⟨hb2⟩))
  have hsc : (0 : Nat) + 1 = 1 := rfl
  rw [hsc] at hR1
  have hI := Lib.hid (And.intro hi0 hz1)
  clear hsc u1 hi0 hz0 hz1 hz2 hbB t1 t2 t3
  go_loopw [8] (fun iv wr => ∃ m : Nat, 1 ≤ m ∧ m ≤ N ∧ iv = .int .i64 m ∧ RepAt wr w.heap.size w.heap.size 3 N m xs ∧ B w wr) (fun iv _ => N + 1 - (intOf iv).toNat)
  case atStart => exact ⟨1, Nat.le_refl _, HZ.out.2.2.1, rfl, hR1, hb2⟩
  case round =>
    obtain ⟨m, hm1, hmN, rfl, hRp, hBq⟩ := hrel
    obtain ⟨wo, rfl⟩ : ∃ wo : World, wo = wr := ⟨_, rfl⟩
    by_cases hl : m < N
    · have hlB : decide ((m : Int) < (N : Int)) = true := decide_eq_true (by omega)
      have hlN : decide (m < N) = true := decide_eq_true hl
      obtain ⟨k, hk⟩ : ∃ k, Nat.min m (N - m) = k := ⟨_, rfl⟩
      have hkl : 1 ≤ k ∧ m + k ≤ N ∧ k ≤ m := by
        have h1 : Nat.min m (N - m) ≤ N - m := Nat.min_le_right m (N - m)
        have h3 : Nat.min m (N - m) ≤ m := Nat.min_le_left m (N - m)
        have h2 : 1 ≤ Nat.min m (N - m) := Nat.le_min.2 ⟨hm1, by omega⟩
        rw [hk] at h1 h2 h3
        omega
      have hkm : k ≤ m := hkl.2.2
      have HK := Lib.hid (And.intro hk (And.intro hkl (And.intro hRp hBq)))
      have hxs := HZ.out.1
      have hN2 := HZ.out.2.2.2
      have wk : IntKind.i64.wrap ((m : Int) + (k : Int)) = ((m + k : Nat) : Int) := by rw [IntKind.wrap_i64]; omega
      have hm0 : (0 : Int) ≤ (m : Int) := by omega
      have hmI : (m : Int) ≤ (N : Int) := by omega
      have hne : ¬ N = m := by omega
      clear hb2 hR1
      go_wp2_with fail
      refine wp_region_noPanic ?_
      refine wp_region_gate (S := fun w' => RepAt w' w.heap.size w.heap.size 3 N m xs ∧ B w w') 7 [(0, 3), (1, 3), (2, 3), (3, 3), (4, 3), (5, 3), (6, 3), (7, 4), (8, 3), (9, 3)] [0, 0, 0, 6, 0, 0, 48, 72, 129, 511] [0, 0, 0, 6, 0, 0, 48, 72, 129, 293] [0, 0, 0, 0, 0, 0, 0, 0, 0, 0] (by kernel_rfl) (by kernel_rfl) (fun _ _ _ _ _ h => h) ?_ (fun hH => ?_)
      · exact ⟨⟨hRp.hb, hRp.cur⟩, hBq.drew⟩
      refine wpSeqG_free (d := 38) (v := ?_) rfl rfl (by kernel_rfl) (fun w => ?_) ?_
      rotate_left
      · go_simp <;> with_reducible rfl
      dsimp only [List.set_cons_zero, List.set_cons_succ]
      refine wpSeqG_free (d := 39) (v := ?_) rfl rfl (by kernel_rfl) (fun w => ?_) ?_
      rotate_left
      · go_simp <;> with_reducible rfl
      dsimp only [List.set_cons_zero, List.set_cons_succ]
      refine wpSeqG_free (d := 40) (v := ?_) rfl rfl (by kernel_rfl) (fun w => ?_) ?_
      rotate_left
      · go_simp <;> with_reducible rfl
      dsimp only [List.set_cons_zero, List.set_cons_succ]
      refine wpSeqG_free (d := 41) (v := ?_) rfl rfl (by kernel_rfl) (fun w => ?_) ?_
      rotate_left
      · go_simp <;> with_reducible rfl
      dsimp only [List.set_cons_zero, List.set_cons_succ]
      refine wpSeqG_free (d := 42) (v := ?_) rfl rfl (by kernel_rfl) (fun w => ?_) ?_
      rotate_left
      · go_simp <;> with_reducible rfl
      dsimp only [List.set_cons_zero, List.set_cons_succ]
      refine wpSeqG_free (d := 43) (v := ?_) rfl rfl (by kernel_rfl) (fun w => ?_) ?_
      rotate_left
      · go_simp <;> with_reducible rfl
      dsimp only [List.set_cons_zero, List.set_cons_succ]
      refine wpSeqG_free (d := 44) (v := ?_) rfl rfl (by kernel_rfl) (fun w => ?_) ?_
      rotate_left
      · go_simp <;> with_reducible rfl
      dsimp only [List.set_cons_zero, List.set_cons_succ]
      refine wpSeqG_gate rfl (by kernel_rfl) (fun K hK => ?_)
      obtain ⟨cur, hoc, hcs, hct⟩ := hH.1.cur
      have hk2 := Nat.mul_le_mul_right xs.length (show m + k ≤ N by omega)
      have hkl9 := repL_len k xs
      rw [Nat.add_mul] at hk2
      refine wp_copy_any _ _ 69 69 rfl 3 i0 1 Tryz.underlying69 hI.out.1 hI.out.2 w.heap.size (m * 1) (N - m) (N - m) ⟨w.heap.size, 0, none⟩ m N ?_ ?_ cur 3 hoc (repL k xs) (by rw [hkl9, hxs]; show _ = Nat.min m (N - m) * 1; rw [HK.out.1]) (hH.1.cells (by omega)) (by rw [hcs, hkl9, hxs]; rw [hxs] at hk2; omega) (fun u hu => HZ.out.2.1 u (repL_mem hu)) k HK.out.1 w.heap.size w hH.2.below hH.1.hb ?_
      · first | rfl | (rw [Nat.mul_one]; rfl)
      · rfl
      intro w5 ho5 hb5
      rw [← hxs] at ho5
      have hR5 := hH.1.more (by omega) hoc ho5
      refine hK.out _ _ ?_
      clear hK
      refine wpSeqG_free (d := 46) (v := ?_) rfl rfl (by kernel_rfl) (fun w => ?_) ?_
      rotate_left
      · go_simp <;> with_reducible rfl
      dsimp only [List.set_cons_zero, List.set_cons_succ]
      refine wpSeqG_free (d := 8) (v := ?_) rfl rfl (by kernel_rfl) (fun w => ?_) ?_
      rotate_left
      · go_simp <;> with_reducible rfl
      dsimp only [List.set_cons_zero, List.set_cons_succ]
      refine wpSeqG_done ?_
      refine NoPanic.normal ?_
      go_wp2
      go_roundw
      case rel => exact ⟨m + k, by omega, by omega, by go_num, hR5, ⟨hb5⟩⟩
      case measure => simp [intOf]; omega
    · have hlB : decide ((m : Int) < (N : Int)) = false := decide_eq_false (by omega)
      have hlN : decide (m < N) = false := decide_eq_false hl
      obtain rfl : m = N := by omega
      have HF := Lib.hid (And.intro (hRp.own HZ.out.1 hnl) hBq)
      clear hRp hBq hb2 hR1
      go_wp2
      go_ret
      exact ⟨w.heap.size, rfl, HF.out.1, HF.out.2⟩
theorem repOInfo : (Tryz.prog.info? 124).map (fun i => (i.zero, i.size, i.bytes)) = some (some (.agg #[.string ⟨#[]⟩, .int .i64 0, .int .i64 0, .string ⟨#[]⟩, .int .i64 0, .int .i64 0, .int .i64 0, .string ⟨#[]⟩, .bool false]), 9, 96) := by kernel_rfl
set_option maxRecDepth 100000 in
set_option maxHeartbeats 2000000 in
theorem repO_any (ad : Addr) (c0 N : Nat) (xs : List Value) (hxs : xs.length = 9) (hx1 : ∀ u ∈ xs, u.oneCell' = true) (hN1 : 1 ≤ N) (hN2 : N ≤ 1000) (w : World) (hsrc : ∀ j v, xs[j]? = some v → w.cell? (ad.add j) = some v) :
    Calls Tryz.prog 112 #[.slice (some ad) 1 c0, .int .i64 (N : Int)] w fun e w' => ∃ g, e = .returned (.slice (some ⟨g, 0, none⟩) N N) ∧ w'.ownsRow w.heap.size 124 9 (.slice (some ⟨g, 0, none⟩) N N) N (repL N xs) ∧ B w w' := by
  obtain ⟨i0, hi0, hz0, hz1, hz2⟩ := info_of repOInfo
  have cM := fun w => Tryz.bits_Mul 1 N (by decide) (by omega) w
  rw [show (1 * N / 18446744073709551616 : Nat) = 0 by omega, show (1 * N % 18446744073709551616 : Nat) = N by omega] at cM
  have t1 : decide ((N : Int) < 0) = false := decide_eq_false (by omega)
  have t2 : decide ((9223372036854775807 : Int) < (N : Int)) = false := decide_eq_false (by omega)
  have t3 : decide ((0 : Int) < 0) = false := rfl
  have u1 : IntKind.u64.wrap (N : Int) = (N : Int) := by rw [IntKind.wrap_u64]; omega
  have u2 : IntKind.i64.wrap (N : Int) = (N : Int) := by rw [IntKind.wrap_i64]; omega
  have hbB : i0.bytes * N ≤ 281474976710656 := by rw [hz2]; omega
  have hnl : N ≤ maxLen := by unfold maxLen; omega
  have HS := Lib.hid hsrc
  have HW := Lib.hid (Nat.le_refl w.heap.size)
  clear hsrc
  go_enter Tryz.func112, Tryz.ntmps112
  go_wp2_with fail
  refine (cM _).mono ?_
  rintro e w1 ⟨rfl, e1⟩
  replace e1 := e1.symm
  subst e1
  clear cM
  have HZ := Lib.hid (And.intro hxs (And.intro hx1 (And.intro hN1 hN2)))
  have hmin : Nat.min 1 N = 1 := Nat.min_eq_left hN1
  clear hxs hx1 hN1 hN2
  go_wp2_with (at_make; refine wpList_make_full _ rfl _ _ 68 rfl w.heap.size 124 i0 _ 9 Tryz.underlying68 hi0 hz0 hz1 .i64 .i64 _ _ N rfl rfl rfl rfl hbB hnl (Nat.le_refl _) ?_; intro w1 hrow hgrow; have q1 := (B.refl w).grownBy hgrow (fun _ h => by cases h); clear hgrow; have hR0 := RepAt.zero hrow HZ.out.1 rfl; clear hrow; obtain ⟨cur, hoc, hcs, hct⟩ := hR0.cur; go_wp2_with (refine wpList_copy_any rfl _ _ 68 68 rfl 124 i0 9 Tryz.underlying68 hi0 hz1 w.heap.size 0 N N ad 1 c0 rfl rfl cur 124 hoc xs (by rw [hmin, HZ.out.1]) (fun j v h => q1.keep (HS.out j v h)) (by rw [hcs, HZ.out.1]; have := HZ.out.2.2.1; omega) HZ.out.2.1 1 hmin w.heap.size w q1.below HW.out ?_; intro w2 ho2 hb2; have hR1 := hR0.more (k := 1) HZ.out.2.2.1 hoc (by rw [repL_one, Nat.zero_mul]; exact ho2); clear ho2 hoc hcs hct hR0; replace hb2 : B w w2 := ⟨hb2⟩))
  have hsc : (0 : Nat) + 1 = 1 := rfl
  rw [hsc] at hR1
  have hI := Lib.hid (And.intro hi0 hz1)
  clear hsc u1 hi0 hz0 hz1 hz2 hbB t1 t2 t3
  go_loopw [8] (fun iv wr => ∃ m : Nat, 1 ≤ m ∧ m ≤ N ∧ iv = .int .i64 m ∧ RepAt wr w.heap.size w.heap.size 124 N m xs ∧ B w wr) (fun iv _ => N + 1 - (intOf iv).toNat)
  case atStart => exact ⟨1, Nat.le_refl _, HZ.out.2.2.1, rfl, hR1, hb2⟩
  case round =>
    obtain ⟨m, hm1, hmN, rfl, hRp, hBq⟩ := hrel
    obtain ⟨wo, rfl⟩ : ∃ wo : World, wo = wr := ⟨_, rfl⟩
    by_cases hl : m < N
    · have hlB : decide ((m : Int) < (N : Int)) = true := decide_eq_true (by omega)
      have hlN : decide (m < N) = true := decide_eq_true hl
      obtain ⟨k, hk⟩ : ∃ k, Nat.min m (N - m) = k := ⟨_, rfl⟩
      have hkl : 1 ≤ k ∧ m + k ≤ N ∧ k ≤ m := by
        have h1 : Nat.min m (N - m) ≤ N - m := Nat.min_le_right m (N - m)
        have h3 : Nat.min m (N - m) ≤ m := Nat.min_le_left m (N - m)
        have h2 : 1 ≤ Nat.min m (N - m) := Nat.le_min.2 ⟨hm1, by omega⟩
        rw [hk] at h1 h2 h3
        omega
      have hkm : k ≤ m := hkl.2.2
      have HK := Lib.hid (And.intro hk (And.intro hkl (And.intro hRp hBq)))
      have hxs := HZ.out.1
      have hN2 := HZ.out.2.2.2
      have wk : IntKind.i64.wrap ((m : Int) + (k : Int)) = ((m + k : Nat) : Int) := by rw [IntKind.wrap_i64]; omega
      have hm0 : (0 : Int) ≤ (m : Int) := by omega
      have hmI : (m : Int) ≤ (N : Int) := by omega
      have hne : ¬ N = m := by omega
      clear hb2 hR1
      go_wp2_with fail
      refine wp_region_noPanic ?_
      refine wp_region_gate (S := fun w' => RepAt w' w.heap.size w.heap.size 124 N m xs ∧ B w w') 7 [(0, 3), (1, 3), (2, 3), (3, 3), (4, 3), (5, 3), (6, 3), (7, 4), (8, 3), (9, 3)] [0, 0, 0, 6, 0, 0, 48, 72, 129, 511] [0, 0, 0, 6, 0, 0, 48, 72, 129, 293] [0, 0, 0, 0, 0, 0, 0, 0, 0, 0] (by kernel_rfl) (by kernel_rfl) (fun _ _ _ _ _ h => h) ?_ (fun hH => ?_)
      · exact ⟨⟨hRp.hb, hRp.cur⟩, hBq.drew⟩
      refine wpSeqG_free (d := 38) (v := ?_) rfl rfl (by kernel_rfl) (fun w => ?_) ?_
      rotate_left
      · go_simp <;> with_reducible rfl
      dsimp only [List.set_cons_zero, List.set_cons_succ]
      refine wpSeqG_free (d := 39) (v := ?_) rfl rfl (by kernel_rfl) (fun w => ?_) ?_
      rotate_left
      · go_simp <;> with_reducible rfl
      dsimp only [List.set_cons_zero, List.set_cons_succ]
      refine wpSeqG_free (d := 40) (v := ?_) rfl rfl (by kernel_rfl) (fun w => ?_) ?_
      rotate_left
      · go_simp <;> with_reducible rfl
      dsimp only [List.set_cons_zero, List.set_cons_succ]
      refine wpSeqG_free (d := 41) (v := ?_) rfl rfl (by kernel_rfl) (fun w => ?_) ?_
      rotate_left
      · go_simp <;> with_reducible rfl
      dsimp only [List.set_cons_zero, List.set_cons_succ]
      refine wpSeqG_free (d := 42) (v := ?_) rfl rfl (by kernel_rfl) (fun w => ?_) ?_
      rotate_left
      · go_simp <;> with_reducible rfl
      dsimp only [List.set_cons_zero, List.set_cons_succ]
      refine wpSeqG_free (d := 43) (v := ?_) rfl rfl (by kernel_rfl) (fun w => ?_) ?_
      rotate_left
      · go_simp <;> with_reducible rfl
      dsimp only [List.set_cons_zero, List.set_cons_succ]
      refine wpSeqG_free (d := 44) (v := ?_) rfl rfl (by kernel_rfl) (fun w => ?_) ?_
      rotate_left
      · go_simp <;> with_reducible rfl
      dsimp only [List.set_cons_zero, List.set_cons_succ]
      refine wpSeqG_gate rfl (by kernel_rfl) (fun K hK => ?_)
      obtain ⟨cur, hoc, hcs, hct⟩ := hH.1.cur
      have hk2 := Nat.mul_le_mul_right xs.length (show m + k ≤ N by omega)
      have hkl9 := repL_len k xs
      rw [Nat.add_mul] at hk2
      refine wp_copy_any _ _ 68 68 rfl 124 i0 9 Tryz.underlying68 hI.out.1 hI.out.2 w.heap.size (m * 9) (N - m) (N - m) ⟨w.heap.size, 0, none⟩ m N ?_ ?_ cur 124 hoc (repL k xs) (by rw [hkl9, hxs]; show _ = Nat.min m (N - m) * 9; rw [HK.out.1]) (hH.1.cells (by omega)) (by rw [hcs, hkl9, hxs]; rw [hxs] at hk2; omega) (fun u hu => HZ.out.2.1 u (repL_mem hu)) k HK.out.1 w.heap.size w hH.2.below hH.1.hb ?_
      · first | rfl | (rw [Nat.mul_one]; rfl)
      · rfl
      intro w5 ho5 hb5
      rw [← hxs] at ho5
      have hR5 := hH.1.more (by omega) hoc ho5
      refine hK.out _ _ ?_
      clear hK
      refine wpSeqG_free (d := 46) (v := ?_) rfl rfl (by kernel_rfl) (fun w => ?_) ?_
      rotate_left
      · go_simp <;> with_reducible rfl
      dsimp only [List.set_cons_zero, List.set_cons_succ]
      refine wpSeqG_free (d := 8) (v := ?_) rfl rfl (by kernel_rfl) (fun w => ?_) ?_
      rotate_left
      · go_simp <;> with_reducible rfl
      dsimp only [List.set_cons_zero, List.set_cons_succ]
      refine wpSeqG_done ?_
      refine NoPanic.normal ?_
      go_wp2
      go_roundw
      case rel => exact ⟨m + k, by omega, by omega, by go_num, hR5, ⟨hb5⟩⟩
      case measure => simp [intOf]; omega
    · have hlB : decide ((m : Int) < (N : Int)) = false := decide_eq_false (by omega)
      have hlN : decide (m < N) = false := decide_eq_false hl
      obtain rfl : m = N := by omega
      have HF := Lib.hid (And.intro (hRp.own HZ.out.1 hnl) hBq)
      clear hRp hBq hb2 hR1
      go_wp2
      go_ret
      exact ⟨w.heap.size, rfl, HF.out.1, HF.out.2⟩
end Go.Proofs.YtjdkhobkdlldnaaGreatDoor
