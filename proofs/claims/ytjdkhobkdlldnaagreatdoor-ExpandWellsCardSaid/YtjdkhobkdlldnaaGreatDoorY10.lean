/-
  Layer 13: transfers are put behind the others; A list in new memory: append onto nil of what comes in; A deck that grows: rows inside of rows, all the call's own; Layer 11: a list in new memory: append onto nil of what comes in.
-/
import Derived.Maps.AppendAt
import Derived.Test.YtjdkhobkdlldnaaGreatDoorY1
import Derived.Test.YtjdkhobkdlldnaaGreatDoorY2
import Derived.Test.YtjdkhobkdlldnaaGreatDoorY3
import Derived.Test.YtjdkhobkdlldnaaGreatDoorY4
import Derived.Test.YtjdkhobkdlldnaaGreatDoorY5
import Derived.Test.YtjdkhobkdlldnaaGreatDoorY6
import Derived.Test.YtjdkhobkdlldnaaGreatDoorY7
import Derived.Test.YtjdkhobkdlldnaaGreatDoorY8
import Derived.Test.YtjdkhobkdlldnaaGreatDoorY9
namespace Go.Proofs.YtjdkhobkdlldnaaGreatDoor
open Go.RowKit
set_option linter.unusedVariables false
def tagK (t : ByteArray) (fr : Bool) (M : List Opx) (k : Nat) : List Opx := (M.take k).map (tag1 t fr) ++ M.drop k
theorem tagK_len (t : ByteArray) (fr : Bool) (M : List Opx) (k : Nat) : (tagK t fr M k).length = M.length := by
  unfold tagK
  rw [List.length_append, List.length_map, List.length_take, List.length_drop]
  omega
theorem tagK_zero (t : ByteArray) (fr : Bool) (M : List Opx) : tagK t fr M 0 = M := by simp [tagK]
theorem tagK_all (t : ByteArray) (fr : Bool) (M : List Opx) : tagK t fr M M.length = M.map (tag1 t fr) := by simp [tagK]
theorem tagK_at {t : ByteArray} {fr : Bool} {M : List Opx} {k : Nat} {x : Opx} (hx : M[k]? = some x) : (tagK t fr M k)[k]? = some x := by
  have h1 := (List.getElem?_eq_some_iff.1 hx).1
  have hl : ((M.take k).map (tag1 t fr)).length = k := by rw [List.length_map, List.length_take]; omega
  unfold tagK
  rw [List.getElem?_append_right (by omega), hl, Nat.sub_self, List.getElem?_drop, Nat.add_zero]
  exact hx
theorem tagK_set {t : ByteArray} {fr : Bool} {M : List Opx} {k : Nat} {x : Opx} (hx : M[k]? = some x) : (tagK t fr M k).set k (tag1 t fr x) = tagK t fr M (k + 1) :=
  tag_snoc hx (by have := (List.getElem?_eq_some_iff.1 hx).1; rw [List.length_map, List.length_take]; omega)
/-- The first one's last cell is stored. -/
theorem tag_first {w : World} {base g n lc : Nat} {M : List Opx} {x : Opx} {t : ByteArray} {fr ch nb : Bool} (hx : M[0]? = some x) (hn : M.length = n) (h : w.ownsRow base 124 9 (.slice (some ⟨g, 0, none⟩) n lc) n (flatOp (M.map (tag1 t fr)))) (hb : (fr || ch) = nb) :
    (w.setCell ⟨g, 8, none⟩ (.bool nb)).ownsRow base 124 9 (.slice (some ⟨g, 0, none⟩) n lc) n (flatOp (tagX t fr ch M)) := by
  subst hb
  have s1 := (h.stored 8 (.bool (fr || ch))).1
  have e1 : (flatOp (M.map (tag1 t fr))).set (0 * 9 + 8) (.bool (fr || ch)) = flatOp ((M.map (tag1 t fr)).set 0 (tag1 t (fr || ch) x)) := flatK_set _ 9 opCells _ 0 8 (tag1 t fr x) _ _ (by rw [List.getElem?_map, hx]; rfl) (by omega) rfl
  rw [show (8 : Nat) = 0 * 9 + 8 from rfl, e1, tagX_eq hx] at s1
  exact s1
/-- Two cells of an element are stored. -/
theorem tag_store {w : World} {base g n lc k : Nat} {L : List Opx} {x : Opx} {t : ByteArray} {fr : Bool} (h : w.ownsRow base 124 9 (.slice (some ⟨g, 0, none⟩) n lc) n (flatOp L)) (hn : L.length = n) (hx : L[k]? = some x) :
    ((w.setCell ⟨g, k * 9 + 7, none⟩ (.string t)).setCell ⟨g, k * 9 + 8, none⟩ (.bool fr)).ownsRow base 124 9 (.slice (some ⟨g, 0, none⟩) n lc) n (flatOp (L.set k (tag1 t fr x))) := by
  have hk := (List.getElem?_eq_some_iff.1 hx).1
  have s1 := (h.stored (k * 9 + 7) (.string t)).1
  have e1 : (flatOp L).set (k * 9 + 7) (.string t) = flatOp (L.set k { x with t := t }) := flatK_set _ 9 opCells L k 7 x _ _ hx (by omega) rfl
  rw [e1] at s1
  have s2 := (s1.stored (k * 9 + 8) (.bool fr)).1
  have e2 : (flatOp (L.set k { x with t := t })).set (k * 9 + 8) (.bool fr) = flatOp ((L.set k { x with t := t }).set k (tag1 t fr x)) := flatK_set _ 9 opCells _ k 8 { x with t := t } _ _ (by rw [List.getElem?_set_self hk]) (by omega) rfl
  rw [e2, List.set_set] at s2
  exact s2
section
variable {w : World} {base W : Nat} {wv tv fv ov sv : Value} {st : XSt}
theorem tagX_len (t : ByteArray) (fr ch : Bool) (M : List Opx) : (tagX t fr ch M).length = M.length := by
  cases M with
  | nil => rfl
  | cons x M => show (M.map _).length + 1 = M.length + 1; rw [List.length_map]
theorem work_more {w3 w4 : World} {oo : Option Addr} {a oc k g1 c1 : Nat} {M : List Opx} {CH : Bool} (h : WorkM w3 base W wv tv fv st (.slice oo a oc) sv) (ha : st.ops.length = a) (hc : changedX st.t st.ops = CH) (hl : (tagX st.t st.fr CH M).length = k)
    (hO : w3.heap[W]? = some (.cells #[wv, tv, fv, .string st.t, .bool st.fr, .slice oo a oc, sv] 137 (0, 0))) (hro : w3.ownsRow base 124 9 (.slice oo a oc) a (flatOp st.ops)) (hg : w3.grownBy w4 (Value.slice oo a oc).ownBlock)
    (hown : w4.ownsRow base 124 9 (.slice (some ⟨g1, 0, none⟩) (a + k) c1) (a + k) (flatOp st.ops ++ flatOp (tagX st.t st.fr CH M))) (hT : Tn kX base w w3) (hbw : base ≤ w.heap.size) :
    WorkM (w4.setCell ⟨W, 5, none⟩ (.slice (some ⟨g1, 0, none⟩) (a + k) c1)) base W wv tv fv { st with ops := st.ops ++ tagX st.t st.fr (changedX st.t st.ops) M } (.slice (some ⟨g1, 0, none⟩) (a + k) c1) sv ∧ Tn kX base w (w4.setCell ⟨W, 5, none⟩ (.slice (some ⟨g1, 0, none⟩) (a + k) c1)) := by
  have oW4 := obj_grown hg hO (far_ownU hO hro (by decide))
  refine ⟨⟨obj_set oW4 5 _, ?_, ownsRow_set (own_grownU h.rs hg hro (by decide)) oW4 (by decide) _ _, h.hb⟩, ?_⟩
  · have := ownsRow_set hown oW4 (by decide) 5 (.slice (some ⟨g1, 0, none⟩) (a + k) c1)
    rw [hc]
    simp only [List.length_append, ha, hl]
    rw [show flatOp (st.ops ++ tagX st.t st.fr CH M) = flatOp st.ops ++ flatOp (tagX st.t st.fr CH M) by simp [flatOp]]
    exact this
  · exact (hT.appended hro hg (Nat.le_refl _) (by simp [kX])).set (p := ⟨W, 5, none⟩) oW4 (by simp [kX]) h.hb _
theorem flatI_rep (l : List Nat) (k i : Nat) : flatI (l ++ List.replicate k i) = flatI l ++ repL k [.int .i64 (i : Int)] := by
  unfold flatI repL
  rw [List.map_append, List.map_replicate]
  congr 1
  induction k with
  | zero => rfl
  | succ k ih => rw [List.replicate_succ, List.replicate_succ, List.flatten_cons, ← ih]; rfl
theorem work_steps {w5 w7 w8 : World} {so : Option Addr} {b sc k i g8 c8 : Nat} (h : WorkM w5 base W wv tv fv st ov (.slice so b sc)) (hb : st.of.length = b) (q : B w5 w7) (hg : w7.grownBy w8 (Value.slice so b sc).ownBlock)
    (hown : w8.ownsRow base 3 1 (.slice (some ⟨g8, 0, none⟩) (b + k) c8) (b + k) (flatI st.of ++ repL k [.int .i64 (i : Int)])) (hT : Tn kX base w w5) (hbw : base ≤ w5.heap.size) :
    WorkM (w8.setCell ⟨W, 6, none⟩ (.slice (some ⟨g8, 0, none⟩) (b + k) c8)) base W wv tv fv { st with of := st.of ++ List.replicate k i } ov (.slice (some ⟨g8, 0, none⟩) (b + k) c8) ∧ Tn kX base w (w8.setCell ⟨W, 6, none⟩ (.slice (some ⟨g8, 0, none⟩) (b + k) c8)) := by
  have oW7 := q.obj h.obj
  have hrs := row_keep h.rs q
  rw [hb] at hrs
  have oW8 := obj_grown hg oW7 (far_ownU oW7 hrs (by decide))
  refine ⟨⟨obj_set oW8 6 _, ownsRow_set (own_grownU (row_keep h.ro q) hg hrs (by decide)) oW8 (by decide) _ _, ?_, h.hb⟩, ?_⟩
  · have := ownsRow_set hown oW8 (by decide) 6 (.slice (some ⟨g8, 0, none⟩) (b + k) c8)
    simp only [List.length_append, hb, List.length_replicate]
    rw [flatI_rep]
    exact this
  · exact (((hT.trans (q.tn kX base))).appended hrs hg (Nat.le_refl _) (by simp [kX])).set (p := ⟨W, 6, none⟩) oW8 (by simp [kX]) h.hb _
set_option maxRecDepth 100000 in
set_option maxHeartbeats 4000000 in
theorem xadd_any (h : WorkM w base W wv tv fv st ov sv) (M : List Opx) (g lc base2 i : Nat) (hrow : w.ownsRow base2 124 9 (.slice (some ⟨g, 0, none⟩) M.length lc) M.length (flatOp M)) (hap : ov.ownBlock ≠ some g) (hbg : base ≤ g) (hbw : base ≤ w.heap.size) (hM1 : 1 ≤ M.length) (hM2 : M.length ≤ 1000) (hn1 : st.ops.length ≤ 1000) (hn2 : st.of.length ≤ 1000) (hi : i < 1000000) :
    Calls Tryz.prog 86 #[.pointer (some ⟨W, 0, none⟩), .int .i64 (i : Int), .slice (some ⟨g, 0, none⟩) M.length lc] w fun e w' =>
      (1000 < st.ops.length + M.length ∧ e = .returned (.int .i64 27) ∧ B w w') ∨
      (st.ops.length + M.length ≤ 1000 ∧ e = .returned (.int .i64 0) ∧ Tn kX base w w' ∧ ∃ ov' sv', WorkM w' base W wv tv fv { st with ops := st.ops ++ tagX st.t st.fr (changedX st.t st.ops) M, of := st.of ++ List.replicate M.length i } ov' sv') := by
  obtain ⟨n, hn⟩ : ∃ n, M.length = n := ⟨_, rfl⟩
  rw [hn] at hrow hM1 hM2 ⊢
  obtain ⟨oo, oc, rfl⟩ := own_slice h.ro
  obtain ⟨so, sc, rfl⟩ := own_slice h.rs
  obtain ⟨a, ha⟩ : ∃ a, st.ops.length = a := ⟨_, rfl⟩
  obtain ⟨b, hb⟩ : ∃ b, st.of.length = b := ⟨_, rfl⟩
  have k5 := obj_cell h.obj 5
  simp only [ha, hb] at h k5 hn1 hn2 hap ⊢
  have wk : IntKind.i64.wrap ((a : Int) + (n : Int)) = ((a + n : Nat) : Int) := by rw [IntKind.wrap_i64]; omega
  by_cases hm : 1000 < a + n
  · have t1 : decide ((1000 : Int) < ((a + n : Nat) : Int)) = true := decide_eq_true (by omega)
    have t2 : decide (1000 < a + n) = true := decide_eq_true hm
    have t3 : decide ((1000 : Int) < (a : Int) + (n : Int)) = true := decide_eq_true (by omega)
    clear h hrow hap
    have HM := Lib.hid hm
    clear hm
    go_enter Tryz.func86, Tryz.ntmps86
    go_wp2
    go_ret
    exact .inl ⟨HM.out, rfl, B.refl _⟩
  have t1 : decide ((1000 : Int) < ((a + n : Nat) : Int)) = false := decide_eq_false (by omega)
  have t2 : decide (1000 < a + n) = false := decide_eq_false hm
  have t3 : decide ((1000 : Int) < (a : Int) + (n : Int)) = false := decide_eq_false (by omega)
  have HH := Lib.hid (And.intro h (And.intro hrow (And.intro hap (And.intro hn (And.intro ha hb)))))
  have HM := Lib.hid hm
  clear h hrow hap hn ha hb hm
  go_enter Tryz.func86, Tryz.ntmps86
  go_wp2_with fail
  have HR0 := Lib.hid (Nat.le_refl 0)
  go_loopw [19] (fun iv wr => ∃ k : Nat, k ≤ n ∧ iv = .int .i64 k ∧ wr.ownsRow base2 124 9 (.slice (some ⟨g, 0, none⟩) n lc) n (flatOp (tagK st.t st.fr M k)) ∧ WorkM wr base W wv tv fv st (.slice oo a oc) (.slice so b sc) ∧ Tn kX base w wr) (fun iv _ => n + 1 - (intOf iv).toNat)
  case atStart => exact ⟨0, Nat.zero_le _, rfl, by rw [tagK_zero]; exact HH.out.2.1, HH.out.1, Tn.refl _ _ _⟩
  case round =>
    obtain ⟨k, hk, rfl, hrw, hW, hT⟩ := hrel
    obtain ⟨wo, rfl⟩ : ∃ wo : World, wo = wr := ⟨_, rfl⟩
    by_cases hl : k < n
    · have hlB : decide ((k : Int) < (n : Int)) = true := decide_eq_true (by omega)
      have hlN : decide (k < n) = true := decide_eq_true hl
      have hlI : (k : Int) < (n : Int) := by omega
      have hi0' : (0 : Int) ≤ (k : Int) := by omega
      have wk1 : IntKind.i64.wrap ((k : Int) + 1) = (k : Int) + 1 := by rw [IntKind.wrap_i64]; omega
      obtain ⟨x, hx⟩ : ∃ x, M[k]? = some x := ⟨_, List.getElem?_eq_getElem (by rw [HH.out.2.2.2.1]; exact hl)⟩
      have hxk := tagK_at (t := st.t) (fr := st.fr) hx
      have y7 := hrw.cellAt (k * 9 + 7) (by omega)
      have y8 := hrw.cellAt (k * 9 + 8) (by omega)
      have f7 := hrw.frozenAt (k * 9 + 7)
      have f8 := hrw.frozenAt (k * 9 + 8)
      rw [flatOp_get hxk _ (by omega)] at y7 y8
      have y7' : wo.cell? ⟨g, k * 9 + 7, none⟩ = some (.string x.t) := y7
      have y8' : wo.cell? ⟨g, k * 9 + 8, none⟩ = some (.bool x.nw) := y8
      have k3 := obj_cell hW.obj 3
      have k4 := obj_cell hW.obj 4
      have HX := Lib.hid (And.intro hx (And.intro hrw (And.intro hW (And.intro hT hl))))
      clear hx hxk hrw hW hT hl y7 y8
      go_wp2_with fail
      go_region
      all_goals
        go_wp2
        go_roundw
        case rel =>
          have hrw5 := tag_store (t := st.t) (fr := st.fr) HX.out.2.1 (by rw [tagK_len]; exact HH.out.2.2.2.1) (tagK_at HX.out.1)
          rw [tagK_set HX.out.1] at hrw5
          obtain ⟨_, cs, hog⟩ := ownsRow_obj HX.out.2.1 (i := g) rfl
          have hW5 := HX.out.2.2.1.other hog HH.out.2.2.1 (k * 9 + 7) (.string st.t)
          have hog5 := obj_set hog (k * 9 + 7) (.string st.t)
          have hW6 := hW5.other hog5 HH.out.2.2.1 (k * 9 + 8) (.bool st.fr)
          have hT5 := (HX.out.2.2.2.1.set (p := ⟨g, k * 9 + 7, none⟩) hog (by simp [kX]) hbg (.string st.t)).set (p := ⟨g, k * 9 + 8, none⟩) hog5 (by simp [kX]) hbg (.bool st.fr)
          exact ⟨k + 1, by have := HX.out.2.2.2.2; omega, by go_num, row_keep hrw5 (B.refl _).drew, hW6.keep (B.refl _).drew, hT5.drew⟩
        case measure => have := HX.out.2.2.2.2; simp [intOf]; omega
    · have hlB : decide ((k : Int) < (n : Int)) = false := decide_eq_false (by omega)
      have hlN : decide (k < n) = false := decide_eq_false hl
      have hkn : k = n := by omega
      subst hkn
      rw [show tagK st.t st.fr M k = M.map (tag1 st.t st.fr) by rw [← HH.out.2.2.2.1]; exact tagK_all _ _ _] at hrw
      obtain ⟨x, hx⟩ : ∃ x, M[0]? = some x := ⟨_, List.getElem?_eq_getElem (by rw [HH.out.2.2.2.1]; omega)⟩
      have hx0 : (M.map (tag1 st.t st.fr))[0]? = some (tag1 st.t st.fr x) := by rw [List.getElem?_map, hx]; rfl
      have y8 := hrw.cellAt 8 (by omega)
      rw [show (8 : Nat) = 0 * 9 + 8 from rfl, flatOp_get hx0 8 (by omega)] at y8
      have y8' : wo.cell? ⟨g, 8, none⟩ = some (.bool st.fr) := y8
      have f8 : wo.frozen? ⟨g, 8, none⟩ = false := hrw.frozenAt 8
      have k4 := obj_cell hW.obj 4
      have hkI : (0 : Int) < (k : Int) := by omega
      have HX := Lib.hid (And.intro hx (And.intro hrw (And.intro hW hT)))
      have cC := changed_any hW
      obtain ⟨CH, hCH⟩ : ∃ CH, changedX st.t st.ops = CH := ⟨_, rfl⟩
      rw [hCH] at cC
      obtain ⟨FR, hFR⟩ : ∃ FR, st.fr = FR := ⟨_, rfl⟩
      have k4' : wo.cell? ⟨W, 4, none⟩ = some (.bool FR) := by rw [← hFR]; exact k4
      rw [hFR] at y8'
      have HC := Lib.hid (And.intro hCH hFR)
      clear hx hx0 hrw hW hT y8 hk hl hlB hlN hCH k4 hFR k5 t1 t2 t3 wk
      have hlT : (tagX st.t st.fr CH M).length = k := by rw [tagX_len]; exact HH.out.2.2.2.1
      obtain ⟨i0, hi0, hz0, hz1, hz2⟩ := info_of opIC
      cases FR
      · go_wp2_with fail
        refine cC.mono ?_
        rintro e w2 ⟨rfl, q2⟩
        have e8 := q2.keep y8'
        have ef := q2.unfrozen y8' f8
        have hrw2 := row_keep HX.out.2.1 q2
        obtain ⟨_, cs2, hog⟩ := ownsRow_obj hrw2 (i := g) rfl
        have hW3 := (HX.out.2.2.1.keep q2).other hog HH.out.2.2.1 8 (.bool CH)
        have hT3 := (HX.out.2.2.2.trans (q2.tn kX base)).set (p := ⟨g, 8, none⟩) hog (by simp [kX]) hbg (.bool CH)
        have hrw3 := tag_first (ch := CH) (nb := CH) HX.out.1 HH.out.2.2.2.1 hrw2 (by rw [HC.out.2]; rfl)
        clear cC y8' f8 k4' hrw2 hog q2
        have hO3 := hW3.obj
        have k53 := obj_cell hO3 5
        have hro3 := hW3.ro
        rw [HH.out.2.2.2.2.1] at hro3
        have hbz : base ≤ (w2.setCell ⟨g, 8, none⟩ (.bool CH)).heap.size := by have := hT3.size; omega
        have HN3 := Lib.hid (And.intro hW3 (And.intro hrw3 hT3))
        have hrc3 : ∀ j u, (flatOp (tagX st.t st.fr CH M))[j]? = some u → (w2.setCell ⟨g, 8, none⟩ (.bool CH)).cell? ((⟨g, 0, none⟩ : Addr).add j) = some u := fun j u hj => by
          rw [addz, hrw3.cellAt j (by have := (List.getElem?_eq_some_iff.1 hj).1; rw [flatOp_len, hlT] at this; exact this)]
          exact hj
        clear hW3 hrw3 hT3
        go_wp2_with (at_builtin; refine wpList_append_lies _ rfl _ _ 68 rfl base 124 i0 _ 9 96 Tryz.underlying68 hi0 hz0 hz1 hz2 rfl (by omega) (.slice oo a oc) a _ rfl hro3 ⟨g, 0, none⟩ k lc (flatOp (tagX st.t st.fr CH M)) rfl (by rw [flatOp_len, hlT]) hrc3 (flatOp_one _) (by omega) (by unfold maxLen; omega) (by omega) hbz _ rfl ?_; intro g1 c1 w4 hown4 hgrow4 hat4 hlt4; have oW4 := obj_grown hgrow4 hO3 (far_ownU hO3 hro3 (by decide)); have x5 := obj_cell oW4 5; have xf5 := obj_free oW4 5; have hV := work_more HN3.out.1 HH.out.2.2.2.2.1 HC.out.1 hlT hO3 hro3 hgrow4 hown4 HN3.out.2.2 hbw; clear hown4 hgrow4 hat4 hlt4 hO3 hro3 k53 hrc3; replace hV := Lib.hid hV; clear oW4; go_wp2_with fail)
        have k6 := obj_cell hV.out.1.obj 6
        have HV := Lib.hid (And.intro hV.out.1 (And.intro hV.out.2 (Nat.le_trans hbw hV.out.2.size)))
        clear hV x5 xf5
        generalize w4.setCell ⟨W, 5, none⟩ (.slice (some ⟨g1, 0, none⟩) (a + k) c1) = w5 at *
        obtain ⟨j0, hj0, hy0, hy1, hy2⟩ := info_of repIInfo
        refine wp_region_noPanic ?_
        refine wp_region_gate (S := fun w' => w'.cell? ⟨W, 6, none⟩ = some (.slice so b sc) ∧ B w5 w') 10 [(0, 3), (1, 3), (2, 3), (3, 3), (4, 0), (5, 3), (7, 3), (8, 3), (6, 2), (9, 2), (10, 4), (11, 3), (12, 3), (13, 4)] [0, 0, 2, 4, 8, 0, 32, 0, 128, 320, 528, 2047, 4095, 6143] [0, 0, 2, 4, 8, 0, 32, 0, 128, 320, 528, 1, 2048, 5120] [0, 0, 0, 0, 15376, 0, 0, 0, 0, 0, 0, 0, 0, 0] (by kernel_rfl) (by kernel_rfl) (fun _ _ _ _ _ h => h) ?_ (fun hH => ?_)
        · exact ⟨(B.refl w5).drew.keep k6, (B.refl w5).drew⟩
        refine wpSeqG_free (d := 59) (v := ?_) rfl rfl (by kernel_rfl) (fun w => ?_) ?_
        rotate_left
        · go_simp <;> with_reducible rfl
        dsimp only [List.set_cons_zero, List.set_cons_succ]
        refine wpSeqG_free (d := 60) (v := ?_) rfl rfl (by kernel_rfl) (fun w => ?_) ?_
        rotate_left
        · go_simp <;> with_reducible rfl
        dsimp only [List.set_cons_zero, List.set_cons_succ]
        refine wpSeqG_free (d := 61) (v := ?_) rfl rfl (by kernel_rfl) (fun w => ?_) ?_
        rotate_left
        · go_simp <;> with_reducible rfl
        dsimp only [List.set_cons_zero, List.set_cons_succ]
        refine wpSeqG_free (d := 62) (v := ?_) rfl rfl (by kernel_rfl) (fun w => ?_) ?_
        rotate_left
        · go_simp <;> with_reducible rfl
        dsimp only [List.set_cons_zero, List.set_cons_succ]
        refine wpSeqG_take (d := 63) (v := ?_) rfl rfl (by kernel_rfl) (fun w hS => ?_) ?_
        rotate_left
        · go_simp <;> with_reducible rfl
        dsimp only [List.set_cons_zero, List.set_cons_succ]
        refine wpSeqG_free (d := 64) (v := ?_) rfl rfl (by kernel_rfl) (fun w => ?_) ?_
        rotate_left
        · go_simp <;> with_reducible rfl
        dsimp only [List.set_cons_zero, List.set_cons_succ]
        refine wpSeqG_free (d := 66) (v := ?_) rfl rfl (by kernel_rfl) (fun w => ?_) ?_
        rotate_left
        · go_simp <;> with_reducible rfl
        dsimp only [List.set_cons_zero, List.set_cons_succ]
        refine wpSeqG_free (d := 67) (v := ?_) rfl rfl (by kernel_rfl) (fun w => ?_) ?_
        rotate_left
        · go_simp <;> with_reducible rfl
        dsimp only [List.set_cons_zero, List.set_cons_succ]
        refine wpSeqG_call rfl (by kernel_rfl) (fun K hK => ?_)
        go_simp
        refine hK.out _ _ ?_ (fun hH => ?_)
        · first | exact ⟨((B.refl _).alloc _ _).keep hH.1, hH.2.alloc _ _⟩ | exact ⟨q7.keep hH.1, hH.2.trans q7⟩
        clear hK
        refine wpSeqG_call rfl (by kernel_rfl) (fun K hK => ?_)
        go_simp
        have hsr9 : ∀ j u, ([.int .i64 (i : Int)] : List Value)[j]? = some u → (w5.alloc (.cells #[.int .i64 (i : Int)] 3)).drew.cell? ((⟨w5.heap.size, 0, none⟩ : Addr).add j) = some u := fun j u hj => (B.refl _).drew.keep (newest rfl j u hj)
        refine (repI_any ⟨w5.heap.size, 0, none⟩ 1 k [.int .i64 (i : Int)] rfl (fun u hu => by simp only [List.mem_cons, List.not_mem_nil, or_false] at hu; subst hu; rfl) (by omega) (by omega) _ hsr9).mono ?_
        rintro e w7 ⟨g7, rfl, hrow7, q7⟩
        clear hsr9
        refine hK.out _ _ ?_ (fun hH => ?_)
        · first | exact ⟨((B.refl _).alloc _ _).keep hH.1, hH.2.alloc _ _⟩ | exact ⟨q7.keep hH.1, hH.2.trans q7⟩
        clear hK
        refine wpSeqG_gate rfl (by kernel_rfl) (fun K hK => ?_)
        have hrs7 := row_keep HV.out.1.rs hH.2
        simp only [HH.out.2.2.2.2.2] at hrs7
        refine wp_append_lies _ _ _ 69 rfl base 3 j0 (.int .i64 0) 1 8 Tryz.underlying69 hj0 hy0 hy1 hy2 rfl (by omega) (.slice so b sc) b _ rfl hrs7 ⟨g7, 0, none⟩ k k (repL k [.int .i64 (i : Int)]) rfl (by rw [repL_len]; rfl) (fun j u hj => by rw [addz]; rw [hrow7.cellAt j (by have := (List.getElem?_eq_some_iff.1 hj).1; rw [repL_len] at this; simpa using this)]; exact hj) (fun u hu => by have := repL_mem hu; simp only [List.mem_cons, List.not_mem_nil, or_false] at this; subst this; rfl) (by omega) (by unfold maxLen; omega) (by omega) (by have := hH.2.below.size; have := HV.out.2.2; omega) _ rfl ?_
        intro g8 c8 w8 hown8 hgrow8 hat8 hlt8
        have oW7 := hH.2.obj HV.out.1.obj
        have oW8 := obj_grown hgrow8 oW7 (far_ownU oW7 hrs7 (by decide))
        have x6 := obj_cell oW8 6
        have xf6 := obj_free oW8 6
        try simp only [Act.put, List.setIfInBounds_toArray, List.set_cons_zero, List.set_cons_succ]
        refine hK.out _ _ ?_
        clear hK
        refine wpSeqG_free (d := 70) (v := ?_) rfl rfl (by kernel_rfl) (fun w => ?_) ?_
        rotate_left
        · go_simp <;> with_reducible rfl
        dsimp only [List.set_cons_zero, List.set_cons_succ]
        refine wpSeqG_free (d := 71) (v := ?_) rfl rfl (by kernel_rfl) (fun w => ?_) ?_
        rotate_left
        · go_simp <;> with_reducible rfl
        dsimp only [List.set_cons_zero, List.set_cons_succ]
        refine wpSeqG_gate rfl (by kernel_rfl) (fun K hK => ?_)
        go_simp
        refine hK.out _ _ ?_
        clear hK
        refine wpSeqG_done ?_
        refine NoPanic.normal ?_
        go_wp2
        go_ret
        have hz := work_steps HV.out.1 HH.out.2.2.2.2.2 hH.2 hgrow8 hown8 HV.out.2.1 HV.out.2.2
        exact .inr ⟨by have := HM.out; omega, rfl, hz.2, _, _, hz.1⟩
      · have hrw2 := HX.out.2.1
        obtain ⟨_, cs2, hog⟩ := ownsRow_obj hrw2 (i := g) rfl
        have hW3 := HX.out.2.2.1.other hog HH.out.2.2.1 8 (.bool true)
        have hT3 := HX.out.2.2.2.set (p := ⟨g, 8, none⟩) hog (by simp [kX]) hbg (.bool true)
        have hrw3 := tag_first (ch := CH) (nb := true) HX.out.1 HH.out.2.2.2.1 hrw2 (by rw [HC.out.2]; rfl)
        clear cC hrw2 hog
        have hO3 := hW3.obj
        have k53 := obj_cell hO3 5
        have hro3 := hW3.ro
        rw [HH.out.2.2.2.2.1] at hro3
        have hbz : base ≤ (wo.setCell ⟨g, 8, none⟩ (.bool true)).heap.size := by have := hT3.size; omega
        have HN3 := Lib.hid (And.intro hW3 (And.intro hrw3 hT3))
        have hrc3 : ∀ j u, (flatOp (tagX st.t st.fr CH M))[j]? = some u → (wo.setCell ⟨g, 8, none⟩ (.bool true)).cell? ((⟨g, 0, none⟩ : Addr).add j) = some u := fun j u hj => by
          rw [addz, hrw3.cellAt j (by have := (List.getElem?_eq_some_iff.1 hj).1; rw [flatOp_len, hlT] at this; exact this)]
          exact hj
        clear hW3 hrw3 hT3
        go_wp2_with (at_builtin; refine wpList_append_lies _ rfl _ _ 68 rfl base 124 i0 _ 9 96 Tryz.underlying68 hi0 hz0 hz1 hz2 rfl (by omega) (.slice oo a oc) a _ rfl hro3 ⟨g, 0, none⟩ k lc (flatOp (tagX st.t st.fr CH M)) rfl (by rw [flatOp_len, hlT]) hrc3 (flatOp_one _) (by omega) (by unfold maxLen; omega) (by omega) hbz _ rfl ?_; intro g1 c1 w4 hown4 hgrow4 hat4 hlt4; have oW4 := obj_grown hgrow4 hO3 (far_ownU hO3 hro3 (by decide)); have x5 := obj_cell oW4 5; have xf5 := obj_free oW4 5; have hV := work_more HN3.out.1 HH.out.2.2.2.2.1 HC.out.1 hlT hO3 hro3 hgrow4 hown4 HN3.out.2.2 hbw; clear hown4 hgrow4 hat4 hlt4 hO3 hro3 k53 hrc3; replace hV := Lib.hid hV; clear oW4; go_wp2_with fail)
        have k6 := obj_cell hV.out.1.obj 6
        have HV := Lib.hid (And.intro hV.out.1 (And.intro hV.out.2 (Nat.le_trans hbw hV.out.2.size)))
        clear hV x5 xf5
        generalize w4.setCell ⟨W, 5, none⟩ (.slice (some ⟨g1, 0, none⟩) (a + k) c1) = w5 at *
        obtain ⟨j0, hj0, hy0, hy1, hy2⟩ := info_of repIInfo
        refine wp_region_noPanic ?_
        refine wp_region_gate (S := fun w' => w'.cell? ⟨W, 6, none⟩ = some (.slice so b sc) ∧ B w5 w') 10 [(0, 3), (1, 3), (2, 3), (3, 3), (4, 0), (5, 3), (7, 3), (8, 3), (6, 2), (9, 2), (10, 4), (11, 3), (12, 3), (13, 4)] [0, 0, 2, 4, 8, 0, 32, 0, 128, 320, 528, 2047, 4095, 6143] [0, 0, 2, 4, 8, 0, 32, 0, 128, 320, 528, 1, 2048, 5120] [0, 0, 0, 0, 15376, 0, 0, 0, 0, 0, 0, 0, 0, 0] (by kernel_rfl) (by kernel_rfl) (fun _ _ _ _ _ h => h) ?_ (fun hH => ?_)
        · exact ⟨(B.refl w5).drew.keep k6, (B.refl w5).drew⟩
        refine wpSeqG_free (d := 59) (v := ?_) rfl rfl (by kernel_rfl) (fun w => ?_) ?_
        rotate_left
        · go_simp <;> with_reducible rfl
        dsimp only [List.set_cons_zero, List.set_cons_succ]
        refine wpSeqG_free (d := 60) (v := ?_) rfl rfl (by kernel_rfl) (fun w => ?_) ?_
        rotate_left
        · go_simp <;> with_reducible rfl
        dsimp only [List.set_cons_zero, List.set_cons_succ]
        refine wpSeqG_free (d := 61) (v := ?_) rfl rfl (by kernel_rfl) (fun w => ?_) ?_
        rotate_left
        · go_simp <;> with_reducible rfl
        dsimp only [List.set_cons_zero, List.set_cons_succ]
        refine wpSeqG_free (d := 62) (v := ?_) rfl rfl (by kernel_rfl) (fun w => ?_) ?_
        rotate_left
        · go_simp <;> with_reducible rfl
        dsimp only [List.set_cons_zero, List.set_cons_succ]
        refine wpSeqG_take (d := 63) (v := ?_) rfl rfl (by kernel_rfl) (fun w hS => ?_) ?_
        rotate_left
        · go_simp <;> with_reducible rfl
        dsimp only [List.set_cons_zero, List.set_cons_succ]
        refine wpSeqG_free (d := 64) (v := ?_) rfl rfl (by kernel_rfl) (fun w => ?_) ?_
        rotate_left
        · go_simp <;> with_reducible rfl
        dsimp only [List.set_cons_zero, List.set_cons_succ]
        refine wpSeqG_free (d := 66) (v := ?_) rfl rfl (by kernel_rfl) (fun w => ?_) ?_
        rotate_left
        · go_simp <;> with_reducible rfl
        dsimp only [List.set_cons_zero, List.set_cons_succ]
        refine wpSeqG_free (d := 67) (v := ?_) rfl rfl (by kernel_rfl) (fun w => ?_) ?_
        rotate_left
        · go_simp <;> with_reducible rfl
        dsimp only [List.set_cons_zero, List.set_cons_succ]
        refine wpSeqG_call rfl (by kernel_rfl) (fun K hK => ?_)
        go_simp
        refine hK.out _ _ ?_ (fun hH => ?_)
        · first | exact ⟨((B.refl _).alloc _ _).keep hH.1, hH.2.alloc _ _⟩ | exact ⟨q7.keep hH.1, hH.2.trans q7⟩
        clear hK
        refine wpSeqG_call rfl (by kernel_rfl) (fun K hK => ?_)
        go_simp
        have hsr9 : ∀ j u, ([.int .i64 (i : Int)] : List Value)[j]? = some u → (w5.alloc (.cells #[.int .i64 (i : Int)] 3)).drew.cell? ((⟨w5.heap.size, 0, none⟩ : Addr).add j) = some u := fun j u hj => (B.refl _).drew.keep (newest rfl j u hj)
        refine (repI_any ⟨w5.heap.size, 0, none⟩ 1 k [.int .i64 (i : Int)] rfl (fun u hu => by simp only [List.mem_cons, List.not_mem_nil, or_false] at hu; subst hu; rfl) (by omega) (by omega) _ hsr9).mono ?_
        rintro e w7 ⟨g7, rfl, hrow7, q7⟩
        clear hsr9
        refine hK.out _ _ ?_ (fun hH => ?_)
        · first | exact ⟨((B.refl _).alloc _ _).keep hH.1, hH.2.alloc _ _⟩ | exact ⟨q7.keep hH.1, hH.2.trans q7⟩
        clear hK
        refine wpSeqG_gate rfl (by kernel_rfl) (fun K hK => ?_)
        have hrs7 := row_keep HV.out.1.rs hH.2
        simp only [HH.out.2.2.2.2.2] at hrs7
        refine wp_append_lies _ _ _ 69 rfl base 3 j0 (.int .i64 0) 1 8 Tryz.underlying69 hj0 hy0 hy1 hy2 rfl (by omega) (.slice so b sc) b _ rfl hrs7 ⟨g7, 0, none⟩ k k (repL k [.int .i64 (i : Int)]) rfl (by rw [repL_len]; rfl) (fun j u hj => by rw [addz]; rw [hrow7.cellAt j (by have := (List.getElem?_eq_some_iff.1 hj).1; rw [repL_len] at this; simpa using this)]; exact hj) (fun u hu => by have := repL_mem hu; simp only [List.mem_cons, List.not_mem_nil, or_false] at this; subst this; rfl) (by omega) (by unfold maxLen; omega) (by omega) (by have := hH.2.below.size; have := HV.out.2.2; omega) _ rfl ?_
        intro g8 c8 w8 hown8 hgrow8 hat8 hlt8
        have oW7 := hH.2.obj HV.out.1.obj
        have oW8 := obj_grown hgrow8 oW7 (far_ownU oW7 hrs7 (by decide))
        have x6 := obj_cell oW8 6
        have xf6 := obj_free oW8 6
        try simp only [Act.put, List.setIfInBounds_toArray, List.set_cons_zero, List.set_cons_succ]
        refine hK.out _ _ ?_
        clear hK
        refine wpSeqG_free (d := 70) (v := ?_) rfl rfl (by kernel_rfl) (fun w => ?_) ?_
        rotate_left
        · go_simp <;> with_reducible rfl
        dsimp only [List.set_cons_zero, List.set_cons_succ]
        refine wpSeqG_free (d := 71) (v := ?_) rfl rfl (by kernel_rfl) (fun w => ?_) ?_
        rotate_left
        · go_simp <;> with_reducible rfl
        dsimp only [List.set_cons_zero, List.set_cons_succ]
        refine wpSeqG_gate rfl (by kernel_rfl) (fun K hK => ?_)
        go_simp
        refine hK.out _ _ ?_
        clear hK
        refine wpSeqG_done ?_
        refine NoPanic.normal ?_
        go_wp2
        go_ret
        have hz := work_steps HV.out.1 HH.out.2.2.2.2.2 hH.2 hgrow8 hown8 HV.out.2.1 HV.out.2.2
        exact .inr ⟨by have := HM.out; omega, rfl, hz.2, _, _, hz.1⟩
end
end Go.Proofs.YtjdkhobkdlldnaaGreatDoor

namespace Go.Proofs.YtjdkhobkdlldnaaGreatDoor
open Go.RowKit
set_option linter.unusedVariables false
/-- A row of cells that comes in: nil, or cells from an address on. -/
def RowIn (w : World) (v : Value) (m : Nat) (news : List Value) : Prop :=
  (v = .slice none 0 0 ∧ m = 0 ∧ news = []) ∨ ∃ (ad : Addr) (c : Nat), v = .slice (some ad) m c ∧ ∀ j u, news[j]? = some u → w.cell? (ad.add j) = some u
theorem RowIn.keepB {w w' : World} {v : Value} {m : Nat} {news : List Value} (h : RowIn w v m news) (q : B w w') : RowIn w' v m news := by
  rcases h with h | ⟨ad, c, h1, h2⟩
  · exact .inl h
  · exact .inr ⟨ad, c, h1, fun j u hj => q.keep (h2 j u hj)⟩
theorem RowIn.form {w : World} {v : Value} {m : Nat} {news : List Value} (h : RowIn w v m news) : ∃ ao cap, v = .slice ao m cap := by
  rcases h with ⟨rfl, rfl, _⟩ | ⟨ad, c, rfl, _⟩
  · exact ⟨_, _, rfl⟩
  · exact ⟨_, _, rfl⟩
theorem ownsRow_form {w : World} {base : Nat} {e : TypeId} {size n : Nat} {v : Value} {xs : List Value} (h : w.ownsRow base e size v n xs) : ∃ o c, v = .slice o n c := by
  rcases h.2 with ⟨rfl, rfl⟩ | ⟨g, cap, cur, rfl, _⟩
  · exact ⟨_, _, rfl⟩
  · exact ⟨_, _, rfl⟩
theorem copy_run {P : Program} (w : World) (t ty e : TypeId) (i : TypeInfo) (z : Value) (size bytes : Nat) (ht : P.underlying t = some (.slice e)) (hi : P.info? e = some i) (hz : i.zero = some z)
    (hsize : i.size = size) (hby : i.bytes = bytes) (hzs : z.cells.size = size) (hsz : 0 < size) (v : Value) (m : Nat) (news : List Value) (hv : RowIn w v m news) (hl : news.length = m * size) (h1 : ∀ u ∈ news, u.oneCell' = true)
    (h63 : m ≤ maxLen) (hbytes : m * bytes ≤ 140737488355328) :
    ∃ o c w', (Builtin.append_ #[t, t] ty #[.slice none 0 0, v]).run P w = .ok (.slice o m c) w' ∧ w'.ownsRow w.heap.size e size (.slice o m c) m news ∧ B w w' := by
  rcases hv with ⟨rfl, rfl, rfl⟩ | ⟨ad, c, rfl, hc⟩
  · exact ⟨none, 0, w, run_append_owned_none w w.heap.size t ty e i size ht hi _ 0 [] (World.ownsRow_nil _ _ _ _), World.ownsRow_nil _ _ _ _, B.refl w⟩
  · obtain ⟨v', w', hr, h2, h3, _, h5⟩ := run_append_own_at (P := P) w w.heap.size t ty e i z size bytes ht hi hz hsize hby hzs hsz (.slice none 0 0) 0 [] (World.ownsRow_nil _ _ _ _) ad m c news hl hc h1 (by omega) (by simpa using hbytes) (Nat.le_refl _)
    simp only [Nat.zero_add, List.nil_append] at h2
    obtain ⟨o, c', rfl⟩ := ownsRow_form h2
    exact ⟨o, c', w', hr, h2, (B.refl w).grownBy h3 (fun _ h => by cases h)⟩
theorem wpList_copy {P : Program} (w : World) {ops : Array Oper} {rest : List Oper} {o : Oper} {a : Act} {Q : Exit → Act → World → Prop} (hgd : o.guard = none) (s x : Operand) (t : TypeId)
    (ho : o.op = .call { callee := .builtin .append, args := #[s, x], argTypes := #[t, t] })
    (e : TypeId) (i : TypeInfo) (z : Value) (size bytes : Nat) (ht : P.underlying t = some (.slice e)) (hi : P.info? e = some i) (hz : i.zero = some z)
    (hsize : i.size = size) (hby : i.bytes = bytes) (hzs : z.cells.size = size) (hsz : 0 < size) (v : Value) (hs : a.eval s = .slice none 0 0) (hx : a.eval x = v) (m : Nat) (news : List Value) (hv : RowIn w v m news) (hl : news.length = m * size) (h1 : ∀ u ∈ news, u.oneCell' = true)
    (h63 : m ≤ maxLen) (hbytes : m * bytes ≤ 140737488355328)
    (h : ∀ oN cN w', w'.ownsRow w.heap.size e size (.slice oN m cN) m news → B w w' → wpList P ops Q rest (a.put o.dst (.slice oN m cN)) w') : wpList P ops Q (o :: rest) a w :=
  wpList_plain hgd fun K hK => by
    obtain ⟨oN, cN, w', hr, h2, h3⟩ := copy_run (P := P) w t o.type e i z size bytes ht hi hz hsize hby hzs hsz v m news hv hl h1 h63 hbytes
    unfold Oper.wp execOp
    simp only [ho, resolve, invoke, builtin, Sem.run_bind, Sem.run_pure, Result.andThen_ok, List.map_toArray, List.map_cons, List.map_nil, hs, hx, hr]
    exact hK _ _ (h oN cN w' h2 h3)
end Go.Proofs.YtjdkhobkdlldnaaGreatDoor

namespace Go.Proofs.YtjdkhobkdlldnaaGreatDoor
open Go.RowKit
set_option linter.unusedVariables false
def Fl.cells (f : Fl) : List Value := [.string f.n, .int .i64 f.r, .int .i64 f.c, .int .i64 f.v]
def flatF (L : List Fl) : List Value := L.flatMap Fl.cells
theorem flatF_len (L : List Fl) : (flatF L).length = L.length * 4 := by
  induction L with
  | nil => rfl
  | cons x l ih =>
    show (x.cells ++ flatF l).length = _
    rw [List.length_append, ih, List.length_cons]
    simp [Fl.cells]
    omega
theorem flatF_get : ∀ (L : List Fl) (i j : Nat) (r : Fl), L[i]? = some r → j < 4 → (flatF L)[i * 4 + j]? = r.cells[j]?
  | [], _, _, _, h, _ => by simp at h
  | r :: L, 0, j, r', h, hj => by
    simp at h
    subst h
    rw [Nat.zero_mul, Nat.zero_add]
    show (r.cells ++ flatF L)[j]? = _
    rw [List.getElem?_append_left (by simpa [Fl.cells] using hj)]
  | r :: L, i + 1, j, r', h, hj => by
    show (r.cells ++ flatF L)[(i + 1) * 4 + j]? = _
    rw [List.getElem?_append_right (by simp [Fl.cells]; omega), show (i + 1) * 4 + j - r.cells.length = i * 4 + j by simp [Fl.cells]; omega]
    exact flatF_get L i j r' (by simpa using h) hj
theorem flatF_snoc (L : List Fl) (f : Fl) : flatF (L ++ [f]) = flatF L ++ f.cells := by simp [flatF]
theorem flatR_snoc : ∀ (L : List Rec) (vs : List Value) (r : Rec) (v : Value), L.length = vs.length → flatR (L ++ [r]) (vs ++ [v]) = flatR L vs ++ r.cells v
  | [], [], r, v, _ => by simp [flatR]
  | [], _ :: _, _, _, h => by simp at h
  | _ :: _, [], _, _, h => by simp at h
  | x :: L, u :: vs, r, v, h => by
    show x.cells u ++ flatR (L ++ [r]) (vs ++ [v]) = (x.cells u ++ flatR L vs) ++ _
    rw [flatR_snoc L vs r v (by simpa using h), List.append_assoc]
def ownL (ss tt : List Value) : Bool × Nat → Option Nat
  | (true, i) => (ss[i]?).bind Value.ownBlock
  | (false, i) => (tt[i]?).bind Value.ownBlock
structure Rows (w : World) (base : Nat) (wv tv fv : Value) (d : Dk) (ss tt : List Value) : Prop where
  ws : w.ownsRow base 33 5 wv d.ws.length (flatR d.ws ss)
  ts : w.ownsRow base 35 5 tv d.ts.length (flatR d.ts tt)
  fs : w.ownsRow base 41 4 fv d.fs.length (flatF d.fs)
  sl : ss.length = d.ws.length
  tl : tt.length = d.ts.length
  sh : ∀ (i : Nat) r v, d.ws[i]? = some r → ss[i]? = some v → w.ownsRow base 37 6 v r.l.length (flat r.l)
  th : ∀ (i : Nat) r v, d.ts[i]? = some r → tt[i]? = some v → w.ownsRow base 37 6 v r.l.length (flat r.l)
  wi : ∀ r ∈ d.ws, ∀ s ∈ r.l, s.I
  ti : ∀ r ∈ d.ts, ∀ s ∈ r.l, s.I
  apart : ∀ x y k, ownL ss tt x = some k → ownL ss tt y = some k → x = y
theorem Rows.start (w : World) (base : Nat) : Rows w base (.slice none 0 0) (.slice none 0 0) (.slice none 0 0) dk0 [] [] :=
  ⟨World.ownsRow_nil _ _ _ _, World.ownsRow_nil _ _ _ _, World.ownsRow_nil _ _ _ _, rfl, rfl, fun i r v h => by simp [dk0] at h, fun i r v h => by simp [dk0] at h, fun r h => by simp [dk0] at h, fun r h => by simp [dk0] at h,
    fun x y k h => by obtain ⟨b, i⟩ := x; cases b <;> simp [ownL] at h⟩
theorem isSecs_own {w : World} {base : Nat} {e : TypeId} {v : Value} {l : List Sec} (h : w.ownsRow base e 6 v l.length (flat l)) (hI : ∀ s ∈ l, s.I) : IsSecs w v l := by
  rcases Nat.eq_zero_or_pos l.length with h0 | h0
  · obtain rfl : l = [] := List.length_eq_zero_iff.1 h0
    rcases h.2 with ⟨rfl, _⟩ | ⟨g, cap, cur, rfl, _, _, h1, h2, _⟩
    · exact .inl ⟨rfl, rfl⟩
    · exact .inr ⟨_, cap, rfl, h1, h2, fun i s hs => by simp at hs⟩
  · rcases h.2 with ⟨_, h1⟩ | ⟨g, cap, cur, rfl, h1⟩
    · omega
    · exact secs_own h rfl h0 hI
theorem isRecs_own {w : World} {base : Nat} {e : TypeId} {v : Value} {L : List Rec} {vs : List Value} (h : w.ownsRow base e 5 v L.length (flatR L vs)) (hv : L.length = vs.length) (hs : ∀ (i : Nat) (r : Rec) (v : Value), L[i]? = some r → vs[i]? = some v → IsSecs w v r.l) : IsRecs w v L := by
  have hh := h
  rcases hh.2 with ⟨rfl, h0⟩ | ⟨g, cap, cur, rfl, _, _, h1, h2, _⟩
  · exact .inl ⟨rfl, List.length_eq_zero_iff.1 h0⟩
  · exact recs_cells hv h1 h2 (fun j u hj => by have := h.cells rfl j u hj; rwa [add0] at this) hs
theorem isFls_own {w : World} {base : Nat} {e : TypeId} {v : Value} {L : List Fl} (h : w.ownsRow base e 4 v L.length (flatF L)) : IsFls w v L := by
  have hh := h
  rcases hh.2 with ⟨rfl, h0⟩ | ⟨g, cap, cur, rfl, _, _, h1, h2, _⟩
  · exact .inl ⟨rfl, List.length_eq_zero_iff.1 h0⟩
  · refine .inr ⟨_, cap, rfl, h1, h2, fun i f hf => ?_⟩
    have hc := fun j u hj => h.cells (g := g) rfl j u hj
    have k := fun j (hj : j < 4) u (hu : f.cells[j]? = some u) => hc (i * 4 + j) u ((flatF_get L i j f hf hj).trans hu)
    simp only [add0] at k
    rw [add0]
    exact ⟨k 0 (by omega) _ rfl, k 1 (by omega) _ rfl, k 2 (by omega) _ rfl, k 3 (by omega) _ rfl⟩
section
variable {w w' : World} {base : Nat} {wv tv fv : Value} {d : Dk} {ss tt : List Value}
theorem Rows.dk (h : Rows w base wv tv fv d ss tt) : IsDk w wv tv fv d :=
  ⟨isRecs_own h.ws h.sl.symm (fun i r v hr hv => isSecs_own (h.sh i r v hr hv) (h.wi r (List.mem_of_getElem? hr))),
    isRecs_own h.ts h.tl.symm (fun i r v hr hv => isSecs_own (h.th i r v hr hv) (h.ti r (List.mem_of_getElem? hr))), isFls_own h.fs⟩
/-- All stays where no block of these kinds turns. -/
theorem Rows.keep (h : Rows w base wv tv fv d ss tt) (hk : ∀ i, base ≤ i → ∀ cs e, (e = 33 ∨ e = 35 ∨ e = 41 ∨ e = 37) → w.heap[i]? = some (.cells cs e (0, 0)) → w'.heap[i]? = w.heap[i]?) : Rows w' base wv tv fv d ss tt := by
  have own : ∀ {e size n : Nat} {v : Value} {xs : List Value}, (e = 33 ∨ e = 35 ∨ e = 41 ∨ e = 37) → w.ownsRow base e size v n xs → w'.ownsRow base e size v n xs := fun {e size n v xs} he h => by
    refine ⟨h.1, ?_⟩
    rcases h.2 with hn | ⟨g, cap, cur, rfl, hb, hg, rest⟩
    · exact .inl hn
    · exact .inr ⟨g, cap, cur, rfl, hb, (hk g hb cur e he hg).trans hg, rest⟩
  exact ⟨own (by simp) h.ws, own (by simp) h.ts, own (by simp) h.fs, h.sl, h.tl, fun i r v h1 h2 => own (by simp) (h.sh i r v h1 h2), fun i r v h1 h2 => own (by simp) (h.th i r v h1 h2), h.wi, h.ti, h.apart⟩
theorem Rows.tn {K : List (Option TypeId)} {b : Nat} (h : Rows w base wv tv fv d ss tt) (t : Tn K b w w') (h1 : some 33 ∉ K) (h2 : some 35 ∉ K) (h3 : some 41 ∉ K) (h4 : some 37 ∉ K) : Rows w' base wv tv fv d ss tt :=
  h.keep fun i _ cs e he ho => by rcases he with rfl | rfl | rfl | rfl <;> exact (t.objc ho (by assumption)).trans ho.symm
theorem Rows.b (h : Rows w base wv tv fv d ss tt) (q : B w w') : Rows w' base wv tv fv d ss tt :=
  h.keep fun i _ cs e he ho => q.below.block i (obj_lt ho)
theorem nodup_nil {x : Bool × Nat} {k : Nat} : ownL (ss ++ [.slice none 0 0]) tt x = some k → ownL ss tt x = some k := by
  obtain ⟨b, i⟩ := x
  cases b
  · exact id
  · simp only [ownL]
    intro h
    rcases Nat.lt_trichotomy i ss.length with hi | hi | hi
    · rwa [List.getElem?_append_left hi] at h
    · subst hi
      rw [List.getElem?_append_right (Nat.le_refl _)] at h
      simp [Value.ownBlock] at h
    · rw [List.getElem?_eq_none (by simp; omega)] at h
      cases h
theorem nodup_nilT {x : Bool × Nat} {k : Nat} : ownL ss (tt ++ [.slice none 0 0]) x = some k → ownL ss tt x = some k := by
  obtain ⟨b, i⟩ := x
  cases b
  · simp only [ownL]
    intro h
    rcases Nat.lt_trichotomy i tt.length with hi | hi | hi
    · rwa [List.getElem?_append_left hi] at h
    · subst hi
      rw [List.getElem?_append_right (Nat.le_refl _)] at h
      simp [Value.ownBlock] at h
    · rw [List.getElem?_eq_none (by simp; omega)] at h
      cases h
  · exact id
theorem Rows.addW (h : Rows w base wv tv fv d ss tt) {wv' : Value} {r : Wr} (hr : r.l = []) (hg : w.grownBy w' wv.ownBlock) (ho : w'.ownsRow base 33 5 wv' (d.ws.length + 1) (flatR d.ws ss ++ r.cells (.slice none 0 0))) :
    Rows w' base wv' tv fv { d with ws := d.ws ++ [r] } (ss ++ [.slice none 0 0]) tt := by
  refine ⟨?_, h.ts.kept hg (rows_apart h.ts h.ws (by decide)), h.fs.kept hg (rows_apart h.fs h.ws (by decide)), by simp [h.sl], h.tl, fun i x v hx hv => ?_, fun i x v hx hv => (h.th i x v hx hv).kept hg (rows_apart (h.th i x v hx hv) h.ws (by decide)), fun x hx => ?_, h.ti, fun x y k hx hy => h.apart x y k (nodup_nil hx) (nodup_nil hy)⟩
  · rw [flatR_snoc _ _ _ _ h.sl.symm]
    simpa using ho
  · simp only at hx
    rcases Nat.lt_trichotomy i d.ws.length with hi | hi | hi
    · rw [List.getElem?_append_left hi] at hx
      rw [List.getElem?_append_left (by rw [h.sl]; exact hi)] at hv
      exact (h.sh i x v hx hv).kept hg (rows_apart (h.sh i x v hx hv) h.ws (by decide))
    · subst hi
      rw [List.getElem?_append_right (Nat.le_refl _)] at hx
      rw [List.getElem?_append_right (by rw [h.sl]; exact Nat.le_refl _), h.sl] at hv
      simp at hx hv
      subst hx hv
      rw [hr]
      exact World.ownsRow_nil _ _ _ _
    · rw [List.getElem?_eq_none (by simp; omega)] at hx
      cases hx
  · rcases List.mem_append.1 hx with hx | hx
    · exact h.wi x hx
    · obtain rfl := List.mem_singleton.1 hx
      rw [hr]
      simp
theorem Rows.addT (h : Rows w base wv tv fv d ss tt) {tv' : Value} {r : Wr} (hr : r.l = []) (hg : w.grownBy w' tv.ownBlock) (ho : w'.ownsRow base 35 5 tv' (d.ts.length + 1) (flatR d.ts tt ++ r.cells (.slice none 0 0))) :
    Rows w' base wv tv' fv { d with ts := d.ts ++ [r] } ss (tt ++ [.slice none 0 0]) := by
  refine ⟨h.ws.kept hg (rows_apart h.ws h.ts (by decide)), ?_, h.fs.kept hg (rows_apart h.fs h.ts (by decide)), h.sl, by simp [h.tl], fun i x v hx hv => (h.sh i x v hx hv).kept hg (rows_apart (h.sh i x v hx hv) h.ts (by decide)), fun i x v hx hv => ?_, h.wi, fun x hx => ?_, fun x y k hx hy => h.apart x y k (nodup_nilT hx) (nodup_nilT hy)⟩
  · rw [flatR_snoc _ _ _ _ h.tl.symm]
    simpa using ho
  · simp only at hx
    rcases Nat.lt_trichotomy i d.ts.length with hi | hi | hi
    · rw [List.getElem?_append_left hi] at hx
      rw [List.getElem?_append_left (by rw [h.tl]; exact hi)] at hv
      exact (h.th i x v hx hv).kept hg (rows_apart (h.th i x v hx hv) h.ts (by decide))
    · subst hi
      rw [List.getElem?_append_right (Nat.le_refl _)] at hx
      rw [List.getElem?_append_right (by rw [h.tl]; exact Nat.le_refl _), h.tl] at hv
      simp at hx hv
      subst hx hv
      rw [hr]
      exact World.ownsRow_nil _ _ _ _
    · rw [List.getElem?_eq_none (by simp; omega)] at hx
      cases hx
  · rcases List.mem_append.1 hx with hx | hx
    · exact h.ti x hx
    · obtain rfl := List.mem_singleton.1 hx
      rw [hr]
      simp
theorem Rows.addF (h : Rows w base wv tv fv d ss tt) {fv' : Value} {f : Fl} (hg : w.grownBy w' fv.ownBlock) (ho : w'.ownsRow base 41 4 fv' (d.fs.length + 1) (flatF d.fs ++ f.cells)) :
    Rows w' base wv tv fv' { d with fs := d.fs ++ [f] } ss tt := by
  refine ⟨h.ws.kept hg (rows_apart h.ws h.fs (by decide)), h.ts.kept hg (rows_apart h.ts h.fs (by decide)), ?_, h.sl, h.tl, fun i x v hx hv => (h.sh i x v hx hv).kept hg (rows_apart (h.sh i x v hx hv) h.fs (by decide)), fun i x v hx hv => (h.th i x v hx hv).kept hg (rows_apart (h.th i x v hx hv) h.fs (by decide)), h.wi, h.ti, h.apart⟩
  rw [flatF_snoc]
  simpa using ho
theorem Rows.old (h : Rows w base wv tv fv d ss tt) {x : Bool × Nat} {k : Nat} (hx : ownL ss tt x = some k) : k < w.heap.size := by
  obtain ⟨b, i⟩ := x
  cases b
  · simp only [ownL] at hx
    cases hv : tt[i]? with
    | none => rw [hv] at hx; cases hx
    | some v =>
      rw [hv] at hx
      have hi : i < d.ts.length := by rw [← h.tl]; exact (List.getElem?_eq_some_iff.1 hv).1
      exact ((h.th i _ v (List.getElem?_eq_getElem hi) hv).lt k hx).2
  · simp only [ownL] at hx
    cases hv : ss[i]? with
    | none => rw [hv] at hx; cases hx
    | some v =>
      rw [hv] at hx
      have hi : i < d.ws.length := by rw [← h.sl]; exact (List.getElem?_eq_some_iff.1 hv).1
      exact ((h.sh i _ v (List.getElem?_eq_getElem hi) hv).lt k hx).2
end
end Go.Proofs.YtjdkhobkdlldnaaGreatDoor

namespace Go.Proofs.YtjdkhobkdlldnaaGreatDoor
open Go.RowKit
set_option linter.unusedVariables false
theorem secs_in {w : World} {v : Value} {l : List Sec} (h : IsSecs w v l) : RowIn w v l.length (flat l) := by
  rcases h with ⟨rfl, rfl⟩ | ⟨a, cap, rfl, h2, h3, h4⟩
  · exact .inl ⟨rfl, rfl, rfl⟩
  · exact .inr ⟨a, cap, rfl, secs_news h4⟩
theorem secs_I {w : World} {v : Value} {l : List Sec} (h : IsSecs w v l) : ∀ s ∈ l, s.I := by
  rcases h with ⟨rfl, rfl⟩ | ⟨a, cap, rfl, h2, h3, h4⟩
  · simp
  · intro s hs
    obtain ⟨i, hi⟩ := List.getElem?_of_mem hs
    exact (h4 i s hi).1
theorem fls_in {w : World} {v : Value} {L : List Fl} (h : IsFls w v L) : RowIn w v L.length (flatF L) := by
  rcases h with ⟨rfl, rfl⟩ | ⟨a, cap, rfl, h2, h3, h4⟩
  · exact .inl ⟨rfl, rfl, rfl⟩
  · refine .inr ⟨a, cap, rfl, fun j u hj => ?_⟩
    have hlt : j < (flatF L).length := (List.getElem?_eq_some_iff.1 hj).1
    rw [flatF_len] at hlt
    obtain ⟨i, r, rfl, hr⟩ : ∃ i r, j = i * 4 + r ∧ r < 4 := ⟨j / 4, j % 4, by omega, by omega⟩
    have hi : i < L.length := by omega
    have hg := List.getElem?_eq_getElem hi
    have hs := h4 i _ hg
    rw [flatF_get L i r _ hg hr] at hj
    match r, hr with
    | 0, _ => simp only [Fl.cells, List.getElem?_cons_zero, Option.some.injEq] at hj; rw [Nat.add_zero, ← hj]; exact hs.n
    | 1, _ => rw [add_more _ _ _ (by omega), hs.r]; exact hj
    | 2, _ => rw [add_more _ _ _ (by omega), hs.c]; exact hj
    | 3, _ => rw [add_more _ _ _ (by omega), hs.v]; exact hj
theorem flatF_one (L : List Fl) : ∀ u ∈ flatF L, u.oneCell' = true := by
  intro u hu
  obtain ⟨f, _, hf⟩ := List.mem_flatMap.1 hu
  simp only [Fl.cells, List.mem_cons, List.not_mem_nil, or_false] at hf
  rcases hf with rfl | rfl | rfl | rfl <;> rfl
/-- The shapes' slices of records in memory. -/
theorem recs_vs {w : World} {v : Value} {L : List Rec} (h : IsRecs w v L) : ∃ vs : List Value, vs.length = L.length ∧ (∀ (i : Nat) r u, L[i]? = some r → vs[i]? = some u → IsSecs w u r.l) ∧ RowIn w v L.length (flatR L vs) := by
  rcases h with ⟨rfl, rfl⟩ | ⟨a, cap, rfl, h2, h3, h4⟩
  · exact ⟨[], rfl, fun i r u h => by simp at h, .inl ⟨rfl, rfl, rfl⟩⟩
  · clear h2 h3
    have hex : ∀ i : Nat, ∃ u, ∀ r, L[i]? = some r → w.cell? ⟨(a.add (i * 5)).block, (a.add (i * 5)).off + 4, none⟩ = some u ∧ IsSecs w u r.l := fun i => by
      cases hr : L[i]? with
      | none => exact ⟨.bool false, fun r h => by cases h⟩
      | some r =>
        obtain ⟨u, h1, h2⟩ := (h4 i r hr).l
        exact ⟨u, fun r' h => by obtain rfl := Option.some.inj h; exact ⟨h1, h2⟩⟩
    have hvs : ∃ f : Nat → Value, ∀ i r, L[i]? = some r → w.cell? ⟨(a.add (i * 5)).block, (a.add (i * 5)).off + 4, none⟩ = some (f i) ∧ IsSecs w (f i) r.l := ⟨fun i => Classical.choose (hex i), fun i => Classical.choose_spec (hex i)⟩
    obtain ⟨f, hf⟩ := hvs
    refine ⟨(List.range L.length).map f, by simp, fun i r u hr hu => ?_, .inr ⟨a, cap, rfl, fun j u hj => ?_⟩⟩
    · have hi : i < L.length := (List.getElem?_eq_some_iff.1 hr).1
      rw [List.getElem?_map, List.getElem?_range hi] at hu
      obtain rfl := Option.some.inj hu
      exact (hf i r hr).2
    · have hlt : j < (flatR L ((List.range L.length).map f)).length := (List.getElem?_eq_some_iff.1 hj).1
      rw [flatR_len _ _ (by simp)] at hlt
      obtain ⟨i, r, rfl, hr⟩ : ∃ i r, j = i * 5 + r ∧ r < 5 := ⟨j / 5, j % 5, by omega, by omega⟩
      have hi : i < L.length := by omega
      have hg := List.getElem?_eq_getElem hi
      have hs := h4 i _ hg
      have hl := (hf i _ hg).1
      rw [flatR_get L ((List.range L.length).map f) i r _ (f i) hg (by rw [List.getElem?_map, List.getElem?_range hi]; rfl) hr] at hj
      match r, hr with
      | 0, _ => simp only [Rec.cells, List.getElem?_cons_zero, Option.some.injEq] at hj; rw [Nat.add_zero, ← hj]; exact hs.n
      | 1, _ => rw [add_more _ _ _ (by omega), hs.x]; exact hj
      | 2, _ => rw [add_more _ _ _ (by omega), hs.y]; exact hj
      | 3, _ => rw [add_more _ _ _ (by omega), hs.z]; exact hj
      | 4, _ => rw [add_more _ _ _ (by omega), hl]; exact hj
theorem flatR_one : ∀ (L : List Rec) (vs : List Value), (∀ v ∈ vs, v.oneCell' = true) → ∀ u ∈ flatR L vs, u.oneCell' = true
  | [], _, _, u, hu => by simp [flatR] at hu
  | _ :: _, [], _, u, hu => by simp [flatR] at hu
  | r :: L, v :: vs, h, u, hu => by
    rcases List.mem_append.1 (show u ∈ r.cells v ++ flatR L vs from hu) with hu | hu
    · simp only [Rec.cells, List.mem_cons, List.not_mem_nil, or_false] at hu
      rcases hu with rfl | rfl | rfl | rfl | rfl
      · rfl
      · rfl
      · rfl
      · rfl
      · exact h _ (by simp)
    · exact flatR_one L vs (fun x hx => h x (by simp [hx])) u hu
theorem vs_one {w : World} {L : List Rec} {vs : List Value} (hl : vs.length = L.length) (h : ∀ (i : Nat) r u, L[i]? = some r → vs[i]? = some u → IsSecs w u r.l) : ∀ v ∈ vs, v.oneCell' = true := by
  intro v hv
  obtain ⟨i, hi, rfl⟩ := List.getElem_of_mem hv
  obtain ⟨ao, m, cap, e⟩ := (h i _ _ (List.getElem?_eq_getElem (by omega)) (List.getElem?_eq_getElem hi)).form
  rw [e]
  rfl
theorem lsec_info : (Tryz.prog.info? 37).map (fun i => (i.zero, i.size, i.bytes)) = some (some (.agg #[.bool false, .int .i64 0, .int .i64 0, .int .i64 0, .int .i64 0, .int .i64 0]), 6, 48) := by kernel_rfl
set_option maxRecDepth 100000 in
set_option maxHeartbeats 1000000 in
theorem lsec_any (v : Value) (l : List Sec) (w : World) (h : IsSecs w v l) (h100 : l.length ≤ 1000000) : Calls Tryz.prog 102 #[v] w fun r w' => ∃ o c, r = .returned (.slice o l.length c) ∧ w'.ownsRow w.heap.size 37 6 (.slice o l.length c) l.length (flat l) ∧ B w w' := by
  obtain ⟨i0, hi0, hz0, hz1, hz2⟩ := info_of lsec_info
  have hin := secs_in h
  obtain ⟨ao, cap, rfl⟩ := hin.form
  have hl1 := flat_len l
  have hl2 := flat_one l
  generalize flat l = XS at *
  obtain ⟨m, hm⟩ : ∃ m, l.length = m := ⟨_, rfl⟩
  rw [hm] at hin hl1 h100 ⊢
  have z1 : m ≤ maxLen := by unfold maxLen; omega
  have z2 : m * 48 ≤ 140737488355328 := by omega
  clear hm
  go_enter Tryz.func102, Tryz.ntmps102
  go_wp2_with (at_builtin; refine wpList_copy _ rfl _ _ 31 rfl 37 i0 _ 6 48 Tryz.underlying31 hi0 hz0 hz1 hz2 rfl (by omega) _ rfl rfl m XS hin hl1 hl2 z1 z2 ?_; intro oN cN w2 hown hq)
  go_ret
  exact ⟨oN, cN, rfl, hown, hq⟩
theorem lware_info : (Tryz.prog.info? 33).map (fun i => (i.zero, i.size, i.bytes)) = some (some (.agg #[.string ⟨#[]⟩, .int .i64 0, .int .i64 0, .int .i64 0, .slice none 0 0]), 5, 64) := by kernel_rfl
set_option maxRecDepth 100000 in
set_option maxHeartbeats 1000000 in
theorem lware_any (v : Value) (L : List Rec) (vs : List Value) (w : World) (h : RowIn w v L.length (flatR L vs)) (hvl : vs.length = L.length) (hv1 : ∀ v ∈ vs, v.oneCell' = true) (h100 : L.length ≤ 1000000) : Calls Tryz.prog 99 #[v] w fun r w' => ∃ o c, r = .returned (.slice o L.length c) ∧ w'.ownsRow w.heap.size 33 5 (.slice o L.length c) L.length (flatR L vs) ∧ B w w' := by
  obtain ⟨i0, hi0, hz0, hz1, hz2⟩ := info_of lware_info
  have hin := h
  obtain ⟨ao, cap, rfl⟩ := hin.form
  have hl1 := flatR_len L vs hvl.symm
  have hl2 := flatR_one L vs hv1
  generalize flatR L vs = XS at *
  obtain ⟨m, hm⟩ : ∃ m, L.length = m := ⟨_, rfl⟩
  rw [hm] at hin hl1 h100 ⊢
  have z1 : m ≤ maxLen := by unfold maxLen; omega
  have z2 : m * 64 ≤ 140737488355328 := by omega
  clear hm
  go_enter Tryz.func99, Tryz.ntmps99
  go_wp2_with (at_builtin; refine wpList_copy _ rfl _ _ 22 rfl 33 i0 _ 5 64 Tryz.underlying22 hi0 hz0 hz1 hz2 rfl (by omega) _ rfl rfl m XS hin hl1 hl2 z1 z2 ?_; intro oN cN w2 hown hq)
  go_ret
  exact ⟨oN, cN, rfl, hown, hq⟩
theorem ltip_info : (Tryz.prog.info? 35).map (fun i => (i.zero, i.size, i.bytes)) = some (some (.agg #[.string ⟨#[]⟩, .int .i64 0, .int .i64 0, .int .i64 0, .slice none 0 0]), 5, 64) := by kernel_rfl
set_option maxRecDepth 100000 in
set_option maxHeartbeats 1000000 in
theorem ltip_any (v : Value) (L : List Rec) (vs : List Value) (w : World) (h : RowIn w v L.length (flatR L vs)) (hvl : vs.length = L.length) (hv1 : ∀ v ∈ vs, v.oneCell' = true) (h100 : L.length ≤ 1000000) : Calls Tryz.prog 100 #[v] w fun r w' => ∃ o c, r = .returned (.slice o L.length c) ∧ w'.ownsRow w.heap.size 35 5 (.slice o L.length c) L.length (flatR L vs) ∧ B w w' := by
  obtain ⟨i0, hi0, hz0, hz1, hz2⟩ := info_of ltip_info
  have hin := h
  obtain ⟨ao, cap, rfl⟩ := hin.form
  have hl1 := flatR_len L vs hvl.symm
  have hl2 := flatR_one L vs hv1
  generalize flatR L vs = XS at *
  obtain ⟨m, hm⟩ : ∃ m, L.length = m := ⟨_, rfl⟩
  rw [hm] at hin hl1 h100 ⊢
  have z1 : m ≤ maxLen := by unfold maxLen; omega
  have z2 : m * 64 ≤ 140737488355328 := by omega
  clear hm
  go_enter Tryz.func100, Tryz.ntmps100
  go_wp2_with (at_builtin; refine wpList_copy _ rfl _ _ 23 rfl 35 i0 _ 5 64 Tryz.underlying23 hi0 hz0 hz1 hz2 rfl (by omega) _ rfl rfl m XS hin hl1 hl2 z1 z2 ?_; intro oN cN w2 hown hq)
  go_ret
  exact ⟨oN, cN, rfl, hown, hq⟩
theorem lfill_info : (Tryz.prog.info? 41).map (fun i => (i.zero, i.size, i.bytes)) = some (some (.agg #[.string ⟨#[]⟩, .int .i64 0, .int .i64 0, .int .i64 0]), 4, 40) := by kernel_rfl
set_option maxRecDepth 100000 in
set_option maxHeartbeats 1000000 in
theorem lfill_any (v : Value) (L : List Fl) (w : World) (h : IsFls w v L) (h100 : L.length ≤ 1000000) : Calls Tryz.prog 101 #[v] w fun r w' => ∃ o c, r = .returned (.slice o L.length c) ∧ w'.ownsRow w.heap.size 41 4 (.slice o L.length c) L.length (flatF L) ∧ B w w' := by
  obtain ⟨i0, hi0, hz0, hz1, hz2⟩ := info_of lfill_info
  have hin := fls_in h
  obtain ⟨ao, cap, rfl⟩ := hin.form
  have hl1 := flatF_len L
  have hl2 := flatF_one L
  generalize flatF L = XS at *
  obtain ⟨m, hm⟩ : ∃ m, L.length = m := ⟨_, rfl⟩
  rw [hm] at hin hl1 h100 ⊢
  have z1 : m ≤ maxLen := by unfold maxLen; omega
  have z2 : m * 40 ≤ 140737488355328 := by omega
  clear hm
  go_enter Tryz.func101, Tryz.ntmps101
  go_wp2_with (at_builtin; refine wpList_copy _ rfl _ _ 24 rfl 41 i0 _ 4 40 Tryz.underlying24 hi0 hz0 hz1 hz2 rfl (by omega) _ rfl rfl m XS hin hl1 hl2 z1 z2 ?_; intro oN cN w2 hown hq)
  go_ret
  exact ⟨oN, cN, rfl, hown, hq⟩
end Go.Proofs.YtjdkhobkdlldnaaGreatDoor
