/-
 Contracts and what they rest on.
-/
import Derived.Test.YtalnfojaccfcjaaGreatDoorChecked
import Derived.Deep.CutRange
import Derived.Lib.MinMax
import Derived.Shelf.Abstract
import Derived.Lib.Mul64
import Derived.Outline
import Derived.Maps.OwnOps
import Derived.WalkSpells
import Derived.Deep.RegionWith
import Derived.Shelf.Strings.Builder1
import Derived.Shelf.Small.Bits
import Derived.Shelf.Strings.BuilderF
import Derived.Shelf.Strings.BuilderK
import Derived.Shelf.Strconv.Itoa0
import Derived.Shelf.Strconv.Itoa1
import Derived.Shelf.LaysM
import Derived.Shelf.Strconv.Itoa2
import Derived.Shelf.Strconv.Itoa3
import Derived.Shelf.Strconv.Itoa4
import Derived.Shelf.Strings.Search1
import Derived.Shelf.Strings.Search2
import Derived.Shelf.Strings.Cut
import Derived.Shelf.Strings.Shaped
import Derived.Shelf.Strconv.AppendUint10
import Derived.Shelf.Strconv.AppendInt10
import Derived.Shelf.Strconv.AppendIntPublic10
import Derived.Shelf.Bits.Mul64
import Derived.Test.YtalnfojaccfcjaaGreatDoorProg
import Derived.RegionTactic
import Derived.BigRegion
import Derived.ChangeAlike
import Derived.Test.YtalnfojaccfcjaaGreatDoorY5
namespace Go.Proofs.YtalnfojaccfcjaaGreatDoor
open Go.RowKit Go.Maps Go.WideMaps
theorem str_law : Keyed Tryz.prog 9 := string_keyed Tryz.underlying9
theorem entry_zero (w : World) : (zeroValue 229).run Tryz.prog w = .ok (.pointer none) w := by kernel_rfl
theorem wpList_lookup_any {H : Type} {P : Program} (w : World) {ops : Array Oper} {rest : List Oper} {o : Oper} {a : Act} {Q : Exit → Act → World → Prop}
  (hg : o.guard = none) (m x : Operand) (t : TypeId) (hop : o.op = Op.lookup t m x false)
  (k e : TypeId) (R : Value → Option (DataW H × List MemPlace)) (K : Keyed P k) (ht : P.underlying t = some (.map k e)) {z : Value} (hz : (zeroValue e).run P w = .ok z w) {zd : DataW H} {zp : List MemPlace} (hzd : R z = some (zd, zp)) (b n : Nat) (D : DataW H)
  (hm : a.eval m = .map (some b)) (hown : w.ownsMap P k R b n D) (key : Value) (kl : Lit) (hx : a.eval x = key) (hkey : keyOf P k key = some kl)
  (hK : ∀ (v : Value) (ps : List MemPlace), R v = some (D.atKey kl zd, ps) → wpList P ops Q rest (a.put o.dst v) w) :
  wpList P ops Q (o :: rest) a w := by
 refine wpList_plain hg fun K' hK' => ?_
 obtain ⟨v, ps, hrun, hv⟩ := hown.lookup K ht hz hzd hkey
 unfold Oper.wp
 simp [execOp, hop, hm, hx, hrun, Result.andThen]
 exact hK' _ _ (hK v ps hv)
theorem key_of (l : List Sec) (hl : (keyText l).length ≤ 1150) : keyOf Tryz.prog 9 (.string (keyS l)) = some (.string (keyText l)) := by
 have := keyOf_string_mk (P := Tryz.prog) (k := 9) Tryz.underlying9 (s := keyS l) (by show (keyText l).toArray.size ≤ maxLen; unfold maxLen; simp; omega)
 simpa [keyS] using this
section
variable {T : World → Value → List (Int × Int) → Prop} {c bm base n : Nat} {E : List Ent}
set_option maxRecDepth 100000 in
set_option maxHeartbeats 1600000 in
theorem entry_hit (w : World) (l : List Sec) (hl : (keyText l).length ≤ 1150) (hC : CacheC T w c bm base n E) (e0 : Ent) (he : e0 ∈ E) (hel : e0.l = l) :
  Calls Tryz.prog 138 #[.pointer (some ⟨c, 0, none⟩), .string (keyS l)] w fun e w' => e = .returned (.pointer (some ⟨e0.b, 0, none⟩)) ∧ CacheC T w' c bm base n E ∧ G (CS c bm) w w' := by
 have hkey := key_of l hl
 have q1 := cs_own w c bm 2 (.int .i32 1)
 have p1 : G (fun i => i = c) w (w.setCell ⟨c, 2, none⟩ (.int .i32 1)) := one_own _ _ _ _
 have c2 : w.cell? ⟨c, 2, none⟩ = some (.int .i32 0) := by rw [obj_cell hC.obj]; rfl
 have f2 := obj_free hC.obj 2
 have o1 := obj_set hC.obj 2 (.int .i32 1)
 have hlt := hC.lt
 obtain ⟨D, hD, hF⟩ := hC.map
 have hat := (hF l).trans (entD_some he hel hC.pairL)
 have hD1 := hD.setCell (a := ⟨c, 2, none⟩) (by show bm ≠ c; omega) (.int .i32 1)
 have HC := Lib.hid hC
 clear hC hF hD
 have c4 : (w.setCell ⟨c, 2, none⟩ (.int .i32 1)).cell? ⟨c, 3 + 1, none⟩ = some (.map (some bm)) := by rw [obj_cell o1]; rfl
 have k2 : (w.setCell ⟨c, 2, none⟩ (.int .i32 1)).cell? ⟨c, 2, none⟩ = some (.int .i32 1) := by rw [obj_cell o1]; rfl
 have g2 := obj_free o1 2
 have cL := lock_free c 2 w c2 f2
 have cU := fun u => unlock_deferred c 2 u _ k2 g2
 generalize w.setCell ⟨c, 2, none⟩ (.int .i32 1) = w1 at *
 go_enter_defers Tryz.func138, Tryz.ntmps138
 go_wp2_with (first
  | (go_at_call 156; refine cL.mono ?_; rintro e w1 ⟨rfl, rfl⟩)
  | (at_lookup; refine wpList_lookup_any _ rfl _ _ 205 rfl 9 229 ptrElem str_law Tryz.underlying205 (entry_zero _) (zd := .nil) (zp := []) rfl bm _ D rfl hD1 _ _ rfl hkey ?_; intro pv ps hpv; rw [hat] at hpv; obtain rfl := ptrElem_lit hpv))
 refine leaves_cons (f := 157) (args := #[.pointer (some ⟨c, 2, none⟩)]) (by simp) (by simp [go_sem]) ?_
 refine (cU .returning).mono ?_
 rintro e u' w'' ⟨rfl, rfl, rfl⟩
 have q2 := q1.trans (cs_own _ c bm 2 (.int .i32 0))
 have o2 := obj_set o1 2 (.int .i32 0)
 exact ⟨_, results_tmp rfl _ _ _, rfl, CacheM.put HC.out (p1.trans (one_own _ c 2 _)) o2, q2⟩
set_option maxRecDepth 100000 in
set_option maxHeartbeats 1600000 in
theorem entry_new (w : World) (l : List Sec) (hl : (keyText l).length ≤ 1150) (hC : CacheC T w c bm base n E) (hn : ∀ e ∈ E, e.l ≠ l) (hk : E.length < 1000000) :
  Calls Tryz.prog 138 #[.pointer (some ⟨c, 0, none⟩), .string (keyS l)] w fun e w' => ∃ b, e = .returned (.pointer (some ⟨b, 0, none⟩)) ∧ w.heap.size ≤ b ∧
   w'.heap[b]? = some (.cells #[.int .u32 0, .int .i32 0, .int .u32 0, .pointer none] 232 (0, 0)) ∧
   CacheM T w' c bm base n E.length (E.length + 1) (fun l' => if l' = l then .lit (.int .i64 b) else entD E l') E ∧ G (CS c bm) w w' := by
 have hkey := key_of l hl
 have q1 := cs_own w c bm 2 (.int .i32 1)
 have p1 : G (fun i => i = c) w (w.setCell ⟨c, 2, none⟩ (.int .i32 1)) := one_own _ _ _ _
 have c2 : w.cell? ⟨c, 2, none⟩ = some (.int .i32 0) := by rw [obj_cell hC.obj]; rfl
 have f2 := obj_free hC.obj 2
 have o1 := obj_set hC.obj 2 (.int .i32 1)
 have hlt := hC.lt
 obtain ⟨D, hD, hF⟩ := hC.map
 have hat := (hF l).trans (entD_none hn)
 have hD1 := hD.setCell (a := ⟨c, 2, none⟩) (by show bm ≠ c; omega) (.int .i32 1)
 have HC := Lib.hid hC
 have HF := Lib.hid hF
 clear hC hF hD
 have cL := lock_free c 2 w c2 f2
 generalize w.setCell ⟨c, 2, none⟩ (.int .i32 1) = w1 at *
 have c4 : w1.cell? ⟨c, 3 + 1, none⟩ = some (.map (some bm)) := by rw [obj_cell o1]; rfl
 have b4 : ∀ o, (w1.alloc o).cell? ⟨c, 4, none⟩ = some (.map (some bm)) := fun o => by rw [obj_cell (obj_past o1 o)]; rfl
 go_enter_defers Tryz.func138, Tryz.ntmps138
 go_wp2_with (first
  | (go_at_call 156; refine cL.mono ?_; rintro e w1 ⟨rfl, rfl⟩)
  | (at_lookup; refine wpList_lookup_any _ rfl _ _ 205 rfl 9 229 ptrElem str_law Tryz.underlying205 (entry_zero _) (zd := .nil) (zp := []) rfl bm _ D rfl hD1 _ _ rfl hkey ?_; intro pv ps hpv; rw [hat] at hpv; obtain rfl := ptrElem_nil hpv)
  | (at_mapUpdate; refine wpList_mapUpdate_in _ rfl _ _ _ 205 rfl 9 229 str_law Tryz.underlying205 ptrElem bm _ D rfl (hD1.alloc _) (by unfold maxLen; omega) _ _ _ rfl rfl hkey _ [] (ptrElem_at _) ?_; intro w2 hD2 ht2))
 have gA := ht2.grown
 have qA := (q1.alloc (.cells #[.int .u32 0, .int .i32 0, .int .u32 0, .pointer none] 232)).grown gA (fun k hk => .inl (.inr (Option.some.inj hk).symm))
 have q3 := qA.trans (cs_own w2 c bm 2 (.int .i32 0))
 have o2 : w2.heap[c]? = _ := (gA.block c (by have := obj_lt o1; simp; omega) (fun e => by have := Option.some.inj e; omega)).trans (obj_past o1 _)
 have n2 : w2.heap[w1.heap.size]? = _ := (gA.block w1.heap.size (by simp) (fun e => by have := Option.some.inj e; have := obj_lt o1; omega)).trans (obj_new w1 _)
 have o3 := obj_set o2 2 (.int .i32 0)
 have k2 : w2.cell? ⟨c, 2, none⟩ = some (.int .i32 1) := by rw [obj_cell o2]; rfl
 have D3 := hD2.setCell (a := ⟨c, 2, none⟩) (by show bm ≠ c; omega) (.int .i32 0)
 have hsz : w.heap.size ≤ w1.heap.size := q1.size
 have hb1 : w1.heap.size ≠ c := by have := obj_lt o1; omega
 refine leaves_cons (f := 157) (args := #[.pointer (some ⟨c, 2, none⟩)]) (by simp) (by simp [go_sem]) ?_
 refine (unlock_deferred c 2 .returning _ k2 (obj_free o2 2)).mono ?_
 rintro e u' w'' ⟨rfl, rfl, rfl⟩
 refine ⟨_, results_tmp rfl _ _ _, w1.heap.size, rfl, hsz, obj_other n2 hb1 _, ⟨o3, ⟨_, D3, fun l' => ?_⟩, HC.out.lt, HC.out.lb, Nat.le_trans HC.out.le q3.size, fun e he => (HC.out.ents e he).g q3 HC.out.cs, HC.out.apart⟩, q3⟩
 by_cases cl : l' = l
 ·subst cl
  rw [if_pos rfl, atKey_put_same hD1.isMap (by simp [WideAt.IsKeyLit])]
 ·rw [if_neg cl, atKey_put_other (fun e => cl (key_inj _ _ (Lit.string.inj e)))]
  exact HF.out l'
end
end Go.Proofs.YtalnfojaccfcjaaGreatDoor
namespace Go.Proofs.YtalnfojaccfcjaaGreatDoor
open Go.RowKit
theorem in_any (v a b : Int) (w : World) :
  Calls Tryz.prog 101 #[.int .i64 v, .int .i64 a, .int .i64 b] w fun e w' => e = .returned (.bool (inB v a b)) ∧ w = w' := by
 unfold inB
 have hb : decide (a ≤ v) = true ∨ decide (a ≤ v) = false := by cases decide (a ≤ v) <;> simp
 rcases hb with hb | hb
 all_goals
  rw [hb]
  go_enter Tryz.func101, Tryz.ntmps101
  go_wp2
  go_ret
  exact ⟨rfl, rfl⟩
set_option maxRecDepth 100000 in
set_option maxHeartbeats 2000000 in
theorem r3right_row (a : Addr) (cap : Nat) (l : List Sec) (h2 : l.length ≤ cap) (h3 : cap ≤ maxLen) (w : World) (h4 : ∀ i s, l[i]? = some s → s.I ∧ SecAt w (a.add (i * 6)) s) :
  Calls Tryz.prog 61 #[.slice (some a) l.length cap] w fun e w' => e = .returned (.bool (rightS l)) ∧ Q w w' := by
 unfold maxLen at h3
 have h5 : l.length ≤ 2 ^ 63 - 1 := Nat.le_trans h2 h3
 clear h2 h3
 by_cases n1 : l.length < 1
 ·rw [rightS_short l n1]
  have n1B : decide ((l.length : Int) < 1) = true := decide_eq_true (by omega)
  clear h4
  go_enter Tryz.func61, Tryz.ntmps61
  go_wp2
  go_ret
  exact ⟨rfl, Q.refl w⟩
 have n1B : decide ((l.length : Int) < 1) = false := decide_eq_false (by omega)
 by_cases n2 : 4 < l.length
 ·rw [rightS_long l n2]
  have n2B : decide ((4 : Int) < (l.length : Int)) = true := decide_eq_true (by omega)
  clear h4
  go_enter Tryz.func61, Tryz.ntmps61
  go_wp2
  go_ret
  exact ⟨rfl, Q.refl w⟩
 have n2B : decide ((4 : Int) < (l.length : Int)) = false := decide_eq_false (by omega)
 go_enter Tryz.func61, Tryz.ntmps61
 go_wp2
 go_loopw [3, 4] (fun hh i wr => ∃ (k : Nat), k ≤ l.length ∧ i = .int .i64 k ∧ hh = .int .i64 (hsumI l k) ∧ okTo l k = true ∧ Q w wr) (fun _ i _ => l.length - (intOf i).toNat)
 case atStart => exact ⟨0, Nat.zero_le _, rfl, rfl, rfl, Q.refl w⟩
 case round =>
  obtain ⟨k, hk, rfl, rfl, hok, hq⟩ := hrel
  obtain ⟨t1, t2⟩ := hsum_small l k hok
  have t3 : hsumI l k ≤ 240000 := by omega
  clear t2
  by_cases hl : k < l.length
  ·have hlB : decide (k < l.length) = true := decide_eq_true hl
   have hg := List.getElem?_eq_getElem hl
   have hs := (h4 k _ hg).2.keep hq
   have hsu := hsumI_succ l k _ hg
   have hoku := okTo_succ l k _ hg hok
   have hbad := rightS_bad l k _ hg
   clear h4
   generalize l[k] = s at *
   generalize hsumI l k = t at *
   obtain ⟨f0, f1, f2, f3, f4, f5⟩ := hs
   obtain ⟨m, hm1⟩ : ∃ m, s.h.tmod 100 = m := ⟨_, rfl⟩
   have hsec := secOk_eq s m hm1
   have HS := Lib.hid hsu
   have HM := Lib.hid hg
   clear hsu hg
   have c1 := fun w => in_any s.a0 0 20000 w
   have c2 := fun w => in_any s.a1 1 20000 w
   have c3 := fun w => in_any s.b0 0 20000 w
   have c4 := fun w => in_any s.b1 1 20000 w
   have k1 : decide (s.h < 1) = true ∨ decide (s.h < 1) = false := by cases decide (s.h < 1) <;> simp
   rcases k1 with k1 | k1
   ·have HB := Lib.hid (hbad (by rw [hsec]; simp [k1]))
    clear hbad hsec hoku
    go_wp2
    go_ret
    exact ⟨by rw [HB.out]; rfl, hq.alloc _ _⟩
   ·have k2 : decide (60000 < s.h) = true ∨ decide (60000 < s.h) = false := by cases decide (60000 < s.h) <;> simp
    rcases k2 with k2 | k2
    ·have HB := Lib.hid (hbad (by rw [hsec]; simp [k1, k2]))
     clear hbad hsec hoku
     go_wp2
     go_ret
     exact ⟨by rw [HB.out]; rfl, hq.alloc _ _⟩
    ·have k3 : (m != 0) = true ∨ (m != 0) = false := by cases (m != 0) <;> simp
     rcases k3 with k3 | k3
     ·have HB := Lib.hid (hbad (by rw [hsec]; simp [k1, k2, k3]))
      clear hbad hsec hoku
      go_wp2
      go_ret
      exact ⟨by rw [HB.out]; rfl, hq.alloc _ _⟩
     ·have k4 : inB s.a0 0 20000 = true ∨ inB s.a0 0 20000 = false := by cases inB s.a0 0 20000 <;> simp
      rcases k4 with k4 | k4
      ·rw [k4] at c1
       have k5 : inB s.a1 1 20000 = true ∨ inB s.a1 1 20000 = false := by cases inB s.a1 1 20000 <;> simp
       rcases k5 with k5 | k5
       ·rw [k5] at c2
        have k6 : s.r = true ∨ s.r = false := by cases s.r <;> simp
        rcases k6 with k6 | k6
        ·have k7 : (s.b0 != 0) = true ∨ (s.b0 != 0) = false := by cases (s.b0 != 0) <;> simp
         rcases k7 with k7 | k7
         ·have HB := Lib.hid (hbad (by rw [hsec]; simp [k1, k2, k3, k4, k5, k6, k7]))
          clear hbad hsec hoku
          go_wp2_with fail
          refine (c1 _).mono ?_
          rintro e w1 ⟨rfl, rfl⟩
          go_wp2_with fail
          refine (c2 _).mono ?_
          rintro e w1 ⟨rfl, rfl⟩
          go_wp2
          go_ret
          exact ⟨by rw [HB.out]; rfl, hq.alloc _ _⟩
         ·have k8 : (s.b1 != 0) = true ∨ (s.b1 != 0) = false := by cases (s.b1 != 0) <;> simp
          rcases k8 with k8 | k8
          ·have HB := Lib.hid (hbad (by rw [hsec]; simp [k1, k2, k3, k4, k5, k6, k7, k8]))
           clear hbad hsec hoku
           go_wp2_with fail
           refine (c1 _).mono ?_
           rintro e w1 ⟨rfl, rfl⟩
           go_wp2_with fail
           refine (c2 _).mono ?_
           rintro e w1 ⟨rfl, rfl⟩
           go_wp2
           go_ret
           exact ⟨by rw [HB.out]; rfl, hq.alloc _ _⟩
          ·replace hoku := hoku (by rw [hsec]; simp [k1, k2, k3, k4, k5, k6, k7, k8])
           obtain ⟨z1, z2⟩ := secOk_h s (by rw [hsec]; simp [k1, k2, k3, k4, k5, k6, k7, k8])
           clear hbad hsec
           have HO := Lib.hid hoku
           clear hoku
           go_wp2_with fail
           refine (c1 _).mono ?_
           rintro e w1 ⟨rfl, rfl⟩
           go_wp2_with fail
           refine (c2 _).mono ?_
           rintro e w1 ⟨rfl, rfl⟩
           go_wp2
           go_roundw
           case rel => exact ⟨k + 1, by omega, by go_num, by rw [HS.out], HO.out, hq.alloc _ _⟩
           case measure => simp [intOf]; omega
        ·have k9 : inB s.b0 0 20000 = true ∨ inB s.b0 0 20000 = false := by cases inB s.b0 0 20000 <;> simp
         rcases k9 with k9 | k9
         ·rw [k9] at c3
          have ka : inB s.b1 1 20000 = true ∨ inB s.b1 1 20000 = false := by cases inB s.b1 1 20000 <;> simp
          rcases ka with ka | ka
          ·rw [ka] at c4
           replace hoku := hoku (by rw [hsec]; simp [k1, k2, k3, k4, k5, k6, k9, ka])
           obtain ⟨z1, z2⟩ := secOk_h s (by rw [hsec]; simp [k1, k2, k3, k4, k5, k6, k9, ka])
           clear hbad hsec
           have HO := Lib.hid hoku
           clear hoku
           go_wp2_with fail
           refine (c1 _).mono ?_
           rintro e w1 ⟨rfl, rfl⟩
           go_wp2_with fail
           refine (c2 _).mono ?_
           rintro e w1 ⟨rfl, rfl⟩
           go_wp2_with fail
           refine (c3 _).mono ?_
           rintro e w1 ⟨rfl, rfl⟩
           go_wp2_with fail
           refine (c4 _).mono ?_
           rintro e w1 ⟨rfl, rfl⟩
           go_wp2
           go_roundw
           case rel => exact ⟨k + 1, by omega, by go_num, by rw [HS.out], HO.out, hq.alloc _ _⟩
           case measure => simp [intOf]; omega
          ·rw [ka] at c4
           have HB := Lib.hid (hbad (by rw [hsec]; simp [k1, k2, k3, k4, k5, k6, k9, ka]))
           clear hbad hsec hoku
           go_wp2_with fail
           refine (c1 _).mono ?_
           rintro e w1 ⟨rfl, rfl⟩
           go_wp2_with fail
           refine (c2 _).mono ?_
           rintro e w1 ⟨rfl, rfl⟩
           go_wp2_with fail
           refine (c3 _).mono ?_
           rintro e w1 ⟨rfl, rfl⟩
           go_wp2_with fail
           refine (c4 _).mono ?_
           rintro e w1 ⟨rfl, rfl⟩
           go_wp2
           go_ret
           exact ⟨by rw [HB.out]; rfl, hq.alloc _ _⟩
         ·rw [k9] at c3
          have HB := Lib.hid (hbad (by rw [hsec]; simp [k1, k2, k3, k4, k5, k6, k9]))
          clear hbad hsec hoku
          go_wp2_with fail
          refine (c1 _).mono ?_
          rintro e w1 ⟨rfl, rfl⟩
          go_wp2_with fail
          refine (c2 _).mono ?_
          rintro e w1 ⟨rfl, rfl⟩
          go_wp2_with fail
          refine (c3 _).mono ?_
          rintro e w1 ⟨rfl, rfl⟩
          go_wp2
          go_ret
          exact ⟨by rw [HB.out]; rfl, hq.alloc _ _⟩
       ·rw [k5] at c2
        have HB := Lib.hid (hbad (by rw [hsec]; simp [k1, k2, k3, k4, k5]))
        clear hbad hsec hoku
        go_wp2_with fail
        refine (c1 _).mono ?_
        rintro e w1 ⟨rfl, rfl⟩
        go_wp2_with fail
        refine (c2 _).mono ?_
        rintro e w1 ⟨rfl, rfl⟩
        go_wp2
        go_ret
        exact ⟨by rw [HB.out]; rfl, hq.alloc _ _⟩
      ·rw [k4] at c1
       have HB := Lib.hid (hbad (by rw [hsec]; simp [k1, k2, k3, k4]))
       clear hbad hsec hoku
       go_wp2_with fail
       refine (c1 _).mono ?_
       rintro e w1 ⟨rfl, rfl⟩
       go_wp2
       go_ret
       exact ⟨by rw [HB.out]; rfl, hq.alloc _ _⟩
  ·have hlB : decide (k < l.length) = false := decide_eq_false hl
   obtain rfl : k = l.length := by omega
   have HE := Lib.hid (rightS_end l (by omega) (by omega) hok)
   clear h4 hok
   go_wp2
   go_ret
   exact ⟨by rw [HE.out]; rfl, hq⟩
theorem r3right_any (v : Value) (l : List Sec) (w : World) (hv : IsSecs w v l) :
  Calls Tryz.prog 61 #[v] w fun e w' => e = .returned (.bool (rightS l)) ∧ Q w w' := by
 rcases hv with ⟨rfl, rfl⟩ | ⟨a, cap, rfl, h2, h3, h4⟩
 ·rw [rightS_short [] (by simp)]
  go_enter Tryz.func61, Tryz.ntmps61
  go_wp2
  go_ret
  exact ⟨rfl, Q.refl w⟩
 ·exact r3right_row a cap l h2 h3 w h4
end Go.Proofs.YtalnfojaccfcjaaGreatDoor
namespace Go.Proofs.YtalnfojaccfcjaaGreatDoor
open Go.RowKit
def hi64 (x y : Nat) : Nat := x * y / 18446744073709551616
def lo64 (x y : Nat) : Nat := x * y % 18446744073709551616
theorem halves (x y : Nat) : hi64 x y * 18446744073709551616 + lo64 x y = x * y := Nat.div_add_mod' _ _
end Go.Proofs.YtalnfojaccfcjaaGreatDoor
namespace Go.Proofs.YtalnfojaccfcjaaGreatDoor
structure Dv (N D n qh ql r : Nat) : Prop where
 quo : qh * 18446744073709551616 + ql = N / 2 ^ n / D * 2 ^ n
 rest : r = N / 2 ^ n % D
 lo : ql < 18446744073709551616
theorem div_step (X D b : Nat) (hD : 0 < D) (hb : b < 2) :
  (D ≤ 2 * (X % D) + b → (2 * X + b) / D = 2 * (X / D) + 1 ∧ (2 * X + b) % D = 2 * (X % D) + b - D) ∧
  (¬ D ≤ 2 * (X % D) + b → (2 * X + b) / D = 2 * (X / D) ∧ (2 * X + b) % D = 2 * (X % D) + b) := by
 have h := Nat.div_add_mod X D
 have hl := Nat.mod_lt X hD
 generalize X / D = q at *
 generalize X % D = r at *
 constructor
 ·intro c
  have e : 2 * X + b = (2 * r + b - D) + D * (2 * q + 1) := by rw [Nat.mul_add, Nat.mul_left_comm]; omega
  rw [e, Nat.add_mul_div_left _ _ hD, Nat.add_mul_mod_self_left, Nat.div_eq_of_lt (by omega), Nat.mod_eq_of_lt (by omega)]
  omega
 ·intro c
  have e : 2 * X + b = (2 * r + b) + D * (2 * q) := by rw [Nat.mul_left_comm]; omega
  rw [e, Nat.add_mul_div_left _ _ hD, Nat.add_mul_mod_self_left, Nat.div_eq_of_lt (by omega), Nat.mod_eq_of_lt (by omega)]
  omega
theorem half_step (N m : Nat) : N / 2 ^ m = 2 * (N / 2 ^ (m + 1)) + N / 2 ^ m % 2 := by
 rw [Nat.pow_succ, ← Nat.div_div_eq_div_mul]; omega
theorem Dv.take {N D m qh ql r : Nat} (hD : 0 < D) (d : Dv N D (m + 1) qh ql r) (h : D ≤ 2 * r + N / 2 ^ m % 2) :
  qh * 18446744073709551616 + ql + 2 ^ m = N / 2 ^ m / D * 2 ^ m ∧ 2 * r + N / 2 ^ m % 2 - D = N / 2 ^ m % D := by
 have s := (div_step (N / 2 ^ (m + 1)) D (N / 2 ^ m % 2) hD (Nat.mod_lt _ (by omega))).1
 rw [← d.rest, ← half_step] at s
 have s' := s h
 have q := d.quo
 refine ⟨?_, s'.2.symm⟩
 rw [q, s'.1, Nat.pow_succ, Nat.add_mul, Nat.mul_comm 2, Nat.mul_assoc, Nat.mul_comm (2 ^ m) 2, Nat.one_mul]
theorem Dv.first (N D : Nat) (hN : N < 18446744073709551616 * 18446744073709551616) : Dv N D 128 0 0 0 := by
 have h : N / 2 ^ 128 = 0 := Nat.div_eq_of_lt (Nat.lt_of_lt_of_eq hN (by decide))
 exact ⟨by rw [h, Nat.zero_div, Nat.zero_mul], by rw [h, Nat.zero_mod], by decide⟩
end Go.Proofs.YtalnfojaccfcjaaGreatDoor
namespace Go.Proofs.YtalnfojaccfcjaaGreatDoor
open Go.RowKit
structure Kept (hi lo qh ql : Nat) (w wr : World) : Prop where
 x0 : wr.cell? ⟨w.heap.size, 0, none⟩ = some (.int .u64 hi)
 x1 : wr.cell? ⟨w.heap.size, 1, none⟩ = some (.int .u64 lo)
 y0 : wr.cell? ⟨w.heap.size + 1 + 1, 0, none⟩ = some (.int .u64 qh)
 y1 : wr.cell? ⟨w.heap.size + 1 + 1, 1, none⟩ = some (.int .u64 ql)
 z0 : wr.frozen? ⟨w.heap.size + 1 + 1, 0, none⟩ = false
 z1 : wr.frozen? ⟨w.heap.size + 1 + 1, 1, none⟩ = false
 r0 : ∃ v, wr.cell? ⟨w.heap.size + 1, 0, none⟩ = some v
 r1 : ∃ v, wr.cell? ⟨w.heap.size + 1, 1, none⟩ = some v
 s0 : wr.frozen? ⟨w.heap.size + 1, 0, none⟩ = false
 s1 : wr.frozen? ⟨w.heap.size + 1, 1, none⟩ = false
 q : Q w wr
theorem Kept.low {hi lo qh ql : Nat} {w wr : World} (h : Kept hi lo qh ql w wr) (x : Nat) : Kept hi lo qh x w (wr.setCell ⟨w.heap.size + 1 + 1, 1, none⟩ (.int .u64 x)).drew := by
 have y1 := h.y1
 obtain ⟨v0, e0⟩ := h.r0
 obtain ⟨v1, e1⟩ := h.r1
 exact ⟨by simp [go_sem, h.x0], by simp [go_sem, h.x1], by simp [go_sem, h.y0], by simp [go_sem, h.y1], by simp [go_sem, h.z0], by simp [go_sem, h.z1], ⟨v0, by simp [go_sem, e0]⟩, ⟨v1, by simp [go_sem, e1]⟩, by simp [go_sem, h.s0], by simp [go_sem, h.s1], (h.q.setCell (by simp; omega) _).drew⟩
end Go.Proofs.YtalnfojaccfcjaaGreatDoor
namespace Go.Proofs.YtalnfojaccfcjaaGreatDoor
open Go.RowKit
theorem sideOf_any (s : Sec) (t : Int) (up : Bool) : 0 ≤ (sideOf s t up).1 ∧ (sideOf s t up).1 ≤ 20000 ∧ 0 ≤ (sideOf s t up).2 ∧ (sideOf s t up).2 ≤ 20000 := by
 unfold sideOf
 split
 ·rename_i h
  obtain ⟨h1, h2, h3, h4, h5⟩ := h
  rw [inB_iff] at h2 h3 h4 h5
  obtain ⟨_, _, f1, f2⟩ := side_fits h2.1 h2.2 h3.1 h3.2 (show 0 ≤ min (max t 0) s.h by omega) (by omega) h1 up
  obtain ⟨_, _, g1, g2⟩ := side_fits h4.1 h4.2 h5.1 h5.2 (show 0 ≤ min (max t 0) s.h by omega) (by omega) h1 up
  refine ⟨by simp only; omega, by simp only; omega, ?_, ?_⟩
  ·cases s.r <;> simp <;> omega
  ·cases s.r <;> simp <;> omega
 ·simp
end Go.Proofs.YtalnfojaccfcjaaGreatDoor
namespace Go.Proofs.YtalnfojaccfcjaaGreatDoor
open Go.RowKit
theorem i64_info : ∃ i, Tryz.prog.info? 2 = some i ∧ i.zero = some (.int .i64 0) ∧ i.size = 1 ∧ i.bytes = 8 :=
 Go.info_parts (by kernel_rfl)
end Go.Proofs.YtalnfojaccfcjaaGreatDoor
namespace Go.Proofs.YtalnfojaccfcjaaGreatDoor
open Go.RowKit
def OfRes (T : World → Value → List (Int × Int) → Prop) (l : List Sec) (yes no : Value → Value) (w : World) (e : Ending) (w' : World) : Prop :=
 (rightS l = true ∧ ∃ p, e = .returned (yes p) ∧ T w' p (slAll l) ∧ B w w') ∨ (rightS l = false ∧ e = .returned (no (.pointer none)) ∧ B w w')
structure TBnd (L : List (Int × Int)) : Prop where
 b : ∀ x ∈ L, Bnd x
 n : L.length ≤ 600
theorem TBnd.at {L : List (Int × Int)} (h : TBnd L) (k : Nat) (hk : k ≤ L.length) : 0 ≤ lowT L k ∧ lowT L k ≤ highT L k ∧ highT L k ≤ 24000000000000 := by
 obtain ⟨h1, h2, h3⟩ := table_bnd h.b k
 have := h.n
 refine ⟨h1, h2, ?_⟩
 have : (k : Int) ≤ 600 := by omega
 omega
end Go.Proofs.YtalnfojaccfcjaaGreatDoor
namespace Go.Proofs.YtalnfojaccfcjaaGreatDoor
open Go.RowKit
def OfN (T : World → Value → List (Int × Int) → Prop) : Prop :=
 ∀ (v : Value) (l : List Sec) (w : World), IsSecs w v l → Calls Tryz.prog 141 #[v] w (OfRes (fun w' p L => TabN T w.heap.size w'.heap.size w' p L) l (fun p => .tuple #[p, .int .i64 0]) (fun p => .tuple #[p, .int .i64 23]) w)
section
variable {T : World → Value → List (Int × Int) → Prop} {c bm base n : Nat} {E : List Ent} {F : List Sec → DataW Unit}
structure Made (T : World → Value → List (Int × Int) → Prop) (c bm base n b : Nat) (l : List Sec) (F : List Sec → DataW Unit) (E : List Ent) (w : World) (p : Value) (lo hi : Nat) (w' : World) : Prop where
 obj : w'.heap[b]? = some (.cells #[.int .u32 0, .int .i32 1, .int .u32 0, p] 232 (0, 0))
 tab : TabN T lo hi w' p (slAll l)
 lo : w.heap.size ≤ lo
 cache : CacheM T w' c bm base n (E.length + 1) (E.length + 1) F E
 g : G (fun i => i = c ∨ i = b) w w'
theorem made_all (w w1 : World) (p : Value) (b : Nat) (l : List Sec) (hC : CacheM T w c bm base n E.length (E.length + 1) F E) (hb : base ≤ b) (hbE : ∀ e ∈ E, e.hi ≤ b) (ho : w.heap[b]? = some (.cells #[.int .u32 0, .int .i32 1, .int .u32 0, .pointer none] 232 (0, 0)))
  (q : B w w1) (ht : TabN T w.heap.size w1.heap.size w1 p (slAll l)) :
  Made T c bm base n b l F E w p w.heap.size w1.heap.size ((w1.setCell ⟨b, 3, none⟩ p).setCell ⟨c, 1, none⟩ (.int .i64 (E.length + 1))) := by
 have h1 := hC.lb
 have h2 := hC.lt
 have hlt := obj_lt ho
 have o1 := (q.g (fun _ => False)).obj (fun h => h) ho
 have o2 := obj_set o1 3 p
 have o3 := obj_other o2 (p := ⟨c, 1, none⟩) (by show b ≠ c; omega) (.int .i64 (E.length + 1))
 have k1 := hC.keepB q
 have gb : G (fun i => i = b) w1 (w1.setCell ⟨b, 3, none⟩ p) := one_own _ _ _ _
 have gc : G (fun i => i = c) (w1.setCell ⟨b, 3, none⟩ p) ((w1.setCell ⟨b, 3, none⟩ p).setCell ⟨c, 1, none⟩ (.int .i64 (E.length + 1))) := one_own _ _ _ _
 have oc := obj_other k1.obj (p := ⟨b, 3, none⟩) (by show c ≠ b; omega) p
 have oc2 := obj_set oc 1 (.int .i64 (E.length + 1))
 have gg := (gb.mono (S' := fun i => i = c ∨ i = b) (fun _ _ h => .inr h)).trans (gc.mono (S' := fun i => i = c ∨ i = b) (fun _ _ h => .inl h))
 refine ⟨o3, gg.tabN ht (fun i h3 h4 h5 => ?_), Nat.le_refl _, ?_, (q.g _).trans gg⟩
 ·rcases h5 with rfl | rfl
  ·have := hC.le; omega
  ·omega
 ·obtain ⟨D, hD, hF⟩ := k1.map
  refine ⟨oc2, ⟨D, ?_, hF⟩, h2, h1, Nat.le_trans k1.le gg.size, fun e he => ?_, k1.apart⟩
  ·exact (hD.setCell (a := ⟨b, 3, none⟩) (by show bm ≠ b; omega) _).setCell (a := ⟨c, 1, none⟩) (by show bm ≠ c; omega) _
  ·have h3 := k1.ents e he
   have h4 := hbE e he
   have h5 := h3.ord
   have h6 := h3.low
   have h7 := h3.tab.at_
   have h8 : e.lo < e.hi := by obtain ⟨x, _, y1, y2⟩ := h7; omega
   exact ⟨gg.obj (fun h => by rcases h with h | h <;> omega) h3.obj, gg.tabN h3.tab (fun i z1 z2 h => by rcases h with h | h <;> omega), h3.right, h3.low, h3.ord⟩
set_option maxRecDepth 100000 in
set_option maxHeartbeats 1600000 in
theorem made_any (hOf : OfN T) (w : World) (v : Value) (l : List Sec) (b sB eB cB : Nat) (hC : CacheM T w c bm base n E.length (E.length + 1) F E) (hE : E.length < 1000000) (hv : IsSecs w v l) (hr : rightS l = true)
  (hb : base ≤ b) (hbE : ∀ e ∈ E, e.hi ≤ b) (ho : w.heap[b]? = some (.cells #[.int .u32 0, .int .i32 1, .int .u32 0, .pointer none] 232 (0, 0)))
  (hs : w.cell? ⟨sB, 0, none⟩ = some v) (he : w.cell? ⟨eB, 0, none⟩ = some (.pointer (some ⟨b, 0, none⟩))) (hc : w.cell? ⟨cB, 0, none⟩ = some (.pointer (some ⟨c, 0, none⟩))) :
  Calls Tryz.prog 140 #[.pointer (some ⟨sB, 0, none⟩), .pointer (some ⟨eB, 0, none⟩), .pointer (some ⟨cB, 0, none⟩)] w fun e w' => e = .returned (.tuple #[]) ∧ ∃ p lo hi, Made T c bm base n b l F E w p lo hi w' := by
 have cOf : ∀ w', B w w' → w'.heap.size = w.heap.size → Calls Tryz.prog 141 #[v] w' fun e w'' => ∃ p, e = .returned (.tuple #[p, .int .i64 0]) ∧ TabN T w.heap.size w''.heap.size w'' p (slAll l) ∧ B w w'' := fun w' q hsz => (hOf v l w' (hv.keepB q)).mono fun e w'' h => by
  rcases h with ⟨_, p, h1, h2, h3⟩ | ⟨h0, _⟩
  ·rw [hsz] at h2
   exact ⟨p, h1, h2, q.trans h3⟩
  ·rw [hr] at h0; cases h0
 have all := fun w1 p q ht => made_all w w1 p b l hC hb hbE ho q ht
 have h1 := hC.lb
 have cbB : cB ≠ b := fun e => by
  subst e
  rw [obj_cell ho] at hc
  cases hc
 have cO := hC.obj
 have wE : wrap64 ((E.length : Int) + 1) = (E.length : Int) + 1 := by unfold wrap64; omega
 go_enter Tryz.func140, Tryz.ntmps140
 go_wp2_with fail
 have HA := Lib.hid all
 have HO := Lib.hid ho
 clear all ho hC hbE hv hr hOf
 go_region_with (go_at_call 141; refine (cOf _ ((B.refl w).drew) rfl).mono ?_; rintro e w1 ⟨p, rfl, ht, q1⟩; obtain ⟨x, rfl, hx1, hx2⟩ := ht.at_; have he1 := q1.keep he; have b31 : w1.cell? ⟨b, 3, none⟩ = some (.pointer none) := (q1.keep (by rw [obj_cell HO.out]; rfl)); have bf1 : w1.frozen? ⟨b, 3, none⟩ = false := obj_free ((q1.g (fun _ => False)).obj (fun h => h) HO.out) 3)
 all_goals
  have oc := obj_other ((q1.g (fun _ => False)).obj (fun h => h) cO) (p := ⟨b, 3, none⟩) (by show c ≠ b; omega) (.pointer (some ⟨x, 0, none⟩))
  have cc := (World.cell?_setCell_other w1 ⟨b, 3, none⟩ ⟨cB, 0, none⟩ (.pointer (some ⟨x, 0, none⟩)) (fun e => cbB (congrArg Addr.block e).symm)).trans (q1.keep hc)
  have c1 : (w1.setCell ⟨b, 3, none⟩ (.pointer (some ⟨x, 0, none⟩))).cell? ⟨c, 1, none⟩ = some (.int .i64 E.length) := by rw [obj_cell oc]; rfl
  have cN := count_any c 1 _ 1 _ c1 (obj_free oc 1)
  rw [wE] at cN
  go_wp2_with (go_at_call 137; refine cN.mono ?_; rintro e w2 ⟨rfl, rfl⟩)
  go_end0
  exact ⟨rfl, _, _, _, HA.out w1 _ q1 ht⟩
end
end Go.Proofs.YtalnfojaccfcjaaGreatDoor
namespace Go.Proofs.YtalnfojaccfcjaaGreatDoor
open Go.RowKit
def AtE (T : World → Value → List (Int × Int) → Prop) (c bm base n : Nat) (E : List Ent) (l : List Sec) (lb b : Nat) (w : World) : Prop :=
 (∃ e0 ∈ E, e0.l = l ∧ b = e0.b ∧ CacheC T w c bm base n E) ∨
 ((∀ e ∈ E, e.l ≠ l) ∧ (∀ e ∈ E, e.hi ≤ b) ∧ (base ≤ b ∧ lb ≤ b) ∧ w.heap[b]? = some (.cells #[.int .u32 0, .int .i32 0, .int .u32 0, .pointer none] 232 (0, 0)) ∧
  CacheM T w c bm base n E.length (E.length + 1) (fun l' => if l' = l then .lit (.int .i64 b) else entD E l') E)
structure Mid (T : World → Value → List (Int × Int) → Prop) (c bm base n : Nat) (E : List Ent) (l : List Sec) (v : Value) (w0 : World) (b eB sB cB : Nat) (w : World) : Prop where
 at_ : AtE T c bm base n E l w0.heap.size b w
 secs : IsSecs w v l
 eC : w.cell? ⟨eB, 0, none⟩ = some (.pointer (some ⟨b, 0, none⟩))
 sC : w.cell? ⟨sB, 0, none⟩ = some v
 cC : w.cell? ⟨cB, 0, none⟩ = some (.pointer (some ⟨c, 0, none⟩))
 g : G (CS c bm) w0 w
section
variable {T : World → Value → List (Int × Int) → Prop} {c bm base n : Nat} {E : List Ent} {l : List Sec}
theorem AtE.keepB {w w' : World} {lb b : Nat} (h : AtE T c bm base n E l lb b w) (q : B w w') : AtE T c bm base n E l lb b w' := by
 rcases h with ⟨e0, h1, h2, h3, h4⟩ | ⟨h1, h2, h3, h4, h5⟩
 ·exact .inl ⟨e0, h1, h2, h3, CacheM.keepB h4 q⟩
 ·exact .inr ⟨h1, h2, h3, (q.g (fun _ => False)).obj (fun h => h) h4, h5.keepB q⟩
theorem mid_store {v : Value} {w5 w6 : World} {b eB sB cB : Nat} {u : Value} {F : List Sec → DataW Unit} {m k : Nat} (hC : CacheM T w5 c bm base n m k F E) (hv : IsSecs w5 v l) (sC : w5.cell? ⟨sB, 0, none⟩ = some v) (cC : w5.cell? ⟨cB, 0, none⟩ = some (.pointer (some ⟨c, 0, none⟩)))
  (sne : sB ≠ c ∧ sB ≠ bm) (cne : cB ≠ c ∧ cB ≠ bm) (g : G (CS c bm) w5 w6) (hA : AtE T c bm base n E l w5.heap.size b w6) (heB : w5.heap.size ≤ eB) (hne : b ≠ eB) (hu : w6.cell? ⟨eB, 0, none⟩ = some u) :
  Mid T c bm base n E l v w5 b eB sB cB (w6.setCell ⟨eB, 0, none⟩ (.pointer (some ⟨b, 0, none⟩))) := by
 have his := hC.his
 have h1 := hC.lt
 have h2 := hC.lb
 have h3 := hC.le
 have ge : G (fun i => i = eB) w6 (w6.setCell ⟨eB, 0, none⟩ (.pointer (some ⟨b, 0, none⟩))) := one_own _ _ _ _
 have gg : G (CS c bm) w5 (w6.setCell ⟨eB, 0, none⟩ (.pointer (some ⟨b, 0, none⟩))) := g.setCell (.inr heB) _
 refine ⟨?_, hC.secs hv gg, World.cell?_setCell_same _ _ _ hu, gg.keep (by rintro (h | h); exact sne.1 h; exact sne.2 h) sC, gg.keep (by rintro (h | h); exact cne.1 h; exact cne.2 h) cC, gg⟩
 have ap : ∀ i, i = eB → i ≠ c ∧ i ≠ bm ∧ ∀ e ∈ E, i ≠ e.b ∧ (i < e.lo ∨ e.hi ≤ i) := fun i hi => by
  subst hi
  refine ⟨by omega, by omega, fun e he => ?_⟩
  obtain ⟨y1, y2, y3⟩ := his e he
  exact ⟨by omega, .inr (by omega)⟩
 rcases hA with ⟨e0, k1, k2, k3, k4⟩ | ⟨k1, k2, k3, k4, k5⟩
 ·exact .inl ⟨e0, k1, k2, k3, CacheM.apartG k4 ge ap⟩
 ·exact .inr ⟨k1, k2, k3, ge.obj hne k4, k5.apartG ge ap⟩
theorem mid_new {v : Value} {w5 w6 : World} {b sB cB : Nat} {F : List Sec → DataW Unit} {m k : Nat} {t : TypeId} (hC : CacheM T w5 c bm base n m k F E) (hv : IsSecs w5 v l) (sC : w5.cell? ⟨sB, 0, none⟩ = some v) (cC : w5.cell? ⟨cB, 0, none⟩ = some (.pointer (some ⟨c, 0, none⟩)))
  (sne : sB ≠ c ∧ sB ≠ bm) (cne : cB ≠ c ∧ cB ≠ bm) (g : G (CS c bm) w5 w6) (hA : AtE T c bm base n E l w5.heap.size b w6) :
  Mid T c bm base n E l v w5 b w6.heap.size sB cB (w6.alloc (.cells #[.pointer (some ⟨b, 0, none⟩)] t)) := by
 have gg := g.alloc (.cells #[.pointer (some ⟨b, 0, none⟩)] t)
 exact ⟨hA.keepB ((B.refl w6).alloc _ _), hC.secs hv gg, by simp, gg.keep (by rintro (h | h); exact sne.1 h; exact sne.2 h) sC, gg.keep (by rintro (h | h); exact cne.1 h; exact cne.2 h) cC, gg⟩
theorem new_locked {w : World} {b : Nat} (hn : ∀ e ∈ E, e.hi ≤ b) (hb : base ≤ b) (ho : w.heap[b]? = some (.cells #[.int .u32 0, .int .i32 0, .int .u32 0, .pointer none] 232 (0, 0))) {F : List Sec → DataW Unit} {m k : Nat} (hC : CacheM T w c bm base n m k F E) :
  CacheM T (w.setCell ⟨b, 1, none⟩ (.int .i32 1)) c bm base n m k F E ∧ (w.setCell ⟨b, 1, none⟩ (.int .i32 1)).heap[b]? = some (.cells #[.int .u32 0, .int .i32 1, .int .u32 0, .pointer none] 232 (0, 0)) ∧ G (fun i => i = b) w (w.setCell ⟨b, 1, none⟩ (.int .i32 1)) := by
 have h1 := hC.lt
 have h2 := hC.lb
 have his := hC.his
 refine ⟨hC.apartG (one_own w b 1 _) (fun i hi => ?_), obj_set ho 1 _, one_own _ _ _ _⟩
 subst hi
 refine ⟨by omega, by omega, fun e he => ?_⟩
 have := hn e he
 obtain ⟨y1, y2, y3⟩ := his e he
 exact ⟨by omega, .inr (by omega)⟩
theorem made_end {w w8 : World} {b : Nat} {p : Value} {lo hi : Nat} (hr : rightS l = true) (hn : ∀ e ∈ E, e.l ≠ l) (hb : base ≤ b) (hbE : ∀ e ∈ E, e.hi ≤ b) (hlt : b < w.heap.size)
  (h : Made T c bm base n b l (fun l' => if l' = l then .lit (.int .i64 b) else entD E l') E w p lo hi w8) :
  CacheC T ((w8.drew.setCell ⟨b, 0, none⟩ (.int .u32 1)).setCell ⟨b, 1, none⟩ (.int .i32 0)) c bm base n (E ++ [⟨l, b, p, lo, hi⟩]) ∧
  ((w8.drew.setCell ⟨b, 0, none⟩ (.int .u32 1)).setCell ⟨b, 1, none⟩ (.int .i32 0)).cell? ⟨b, 3, none⟩ = some p ∧
  G (fun i => i = c ∨ i = b) w ((w8.drew.setCell ⟨b, 0, none⟩ (.int .u32 1)).setCell ⟨b, 1, none⟩ (.int .i32 0)) := by
 have h1 := h.cache.lt
 have h2 := h.cache.lb
 have his := h.cache.his
 have hlo := h.lo
 have gb : G (fun i => i = b) w8 ((w8.drew.setCell ⟨b, 0, none⟩ (.int .u32 1)).setCell ⟨b, 1, none⟩ (.int .i32 0)) := (((G.refl (fun i => i = b) w8).drew).trans (one_own _ b 0 _)).trans (one_own _ b 1 _)
 have o1 : w8.drew.heap[b]? = some (.cells #[.int .u32 0, .int .i32 1, .int .u32 0, p] 232 (0, 0)) := h.obj
 have o3 := obj_set (obj_set o1 0 (.int .u32 1)) 1 (.int .i32 0)
 refine ⟨CacheM.more hn (h.cache.apartG gb (fun i hi' => ?_)) ⟨?_, gb.tabN h.tab (fun i y1 y2 y3 => by have y4 : lo ≤ i := y1; omega), hr, hb, by show b < lo; omega⟩ hbE, ?_, h.g.trans (gb.mono (fun _ _ h => .inr h))⟩
 ·subst hi'
  refine ⟨by omega, by omega, fun e he => ?_⟩
  have := hbE e he
  obtain ⟨y1, y2, y3⟩ := his e he
  exact ⟨by omega, .inr (by omega)⟩
 ·simpa using o3
 ·rw [obj_cell o3]
  simp
end
end Go.Proofs.YtalnfojaccfcjaaGreatDoor
namespace Go.Proofs.YtalnfojaccfcjaaGreatDoor
open Go.RowKit
set_option maxRecDepth 100000 in
set_option maxHeartbeats 1600000 in
theorem slow_any (b off : Nat) (cap : Array Value) (R : World → Prop) (w : World)
  (h0 : w.cell? ⟨b, off, none⟩ = some (.int .u32 0)) (h1 : w.cell? ⟨b, off + 1, none⟩ = some (.int .i32 0)) (f1 : w.frozen? ⟨b, off + 1, none⟩ = false)
  (hf : Calls Tryz.prog 140 cap (w.setCell ⟨b, off + 1, none⟩ (.int .i32 1)) fun e w' => e = .returned (.tuple #[]) ∧ R w')
  (hR : ∀ w', R w' → w'.cell? ⟨b, off, none⟩ = some (.int .u32 0) ∧ w'.cell? ⟨b, off + 1, none⟩ = some (.int .i32 1) ∧ w'.frozen? ⟨b, off, none⟩ = false ∧ w'.frozen? ⟨b, off + 1, none⟩ = false) :
  Calls Tryz.prog 136 #[.pointer (some ⟨b, off, none⟩), .func (.func 140) #[] cap] w fun e w' => e = .returned (.tuple #[]) ∧
   ∃ w1, R w1 ∧ w' = (w1.drew.setCell ⟨b, off, none⟩ (.int .u32 1)).setCell ⟨b, off + 1, none⟩ (.int .i32 0) := by
 have hl := run_call_load (P := Tryz.prog) Tryz.func155 (by kernel_rfl) (by kernel_rfl) (by kernel_rfl) .u32 (by kernel_rfl) (w := w.setCell ⟨b, off + 1, none⟩ (.int .i32 1)) (a := ⟨b, off, none⟩) (x := 0) ((World.cell?_setCell_other _ ⟨b, off + 1, none⟩ ⟨b, off, none⟩ _ (by simp)).trans h0)
 have hnot : ∀ (x : Bool) (w : World), (Op.unary .not (.bool x)).run Tryz.prog w = .ok (.bool (!x)) w := fun _ _ => rfl
 have hin : ∀ args w, (callFunc 140 args).run Tryz.prog w = .ok (.enter 140 args) w := enters_of Tryz.func140 (by kernel_rfl) rfl
 go_enter_defers Tryz.func136, Tryz.ntmps136
 go_wp2_with (first | (go_at_call 156; refine (lock_free b (off + 1) _ h1 f1).mono ?_; rintro e w' ⟨rfl, rfl⟩) | (go_at_call 135; go_in))
 refine hf.mono ?_
 rintro e w1 ⟨rfl, hr⟩
 obtain ⟨k0, k1, z0, z1⟩ := hR w1 hr
 go_wp2
 refine leaves_cons (f := 158) (args := #[.pointer (some ⟨b, off, none⟩), .bool true]) (by simp) (by simp [go_sem]) ?_
 refine (store_deferred b off (.int .u32 0) .returning _ k0 z0).mono ?_
 rintro e u' w'' ⟨rfl, rfl, rfl⟩
 refine leaves_cons (f := 157) (args := #[.pointer (some ⟨b, off + 1, none⟩)]) (by simp [settle]) (by simp [go_sem]) ?_
 refine (unlock_deferred b (off + 1) _ _ ?_ (by simp [z1])).mono ?_
 ·refine (World.cell?_setCell_other _ ⟨b, off, none⟩ ⟨b, off + 1, none⟩ _ (by simp)).trans ?_
  rw [World.cell?_drew]
  exact k1
 rintro e u' w'' ⟨rfl, rfl, rfl⟩
 exact ⟨_, results_none rfl _ _ _, rfl, w1, hr, rfl⟩
set_option maxRecDepth 100000 in
set_option maxHeartbeats 1600000 in
theorem do_first (b off : Nat) (cap : Array Value) (R : World → Prop) (w : World)
  (h0 : w.cell? ⟨b, off, none⟩ = some (.int .u32 0)) (h1 : w.cell? ⟨b, off + 1, none⟩ = some (.int .i32 0)) (f1 : w.frozen? ⟨b, off + 1, none⟩ = false)
  (hf : Calls Tryz.prog 140 cap (w.setCell ⟨b, off + 1, none⟩ (.int .i32 1)) fun e w' => e = .returned (.tuple #[]) ∧ R w')
  (hR : ∀ w', R w' → w'.cell? ⟨b, off, none⟩ = some (.int .u32 0) ∧ w'.cell? ⟨b, off + 1, none⟩ = some (.int .i32 1) ∧ w'.frozen? ⟨b, off, none⟩ = false ∧ w'.frozen? ⟨b, off + 1, none⟩ = false) :
  Calls Tryz.prog 117 #[.pointer (some ⟨b, off, none⟩), .func (.func 140) #[] cap] w fun e w' => e = .returned (.tuple #[]) ∧
   ∃ w1, R w1 ∧ w' = (w1.drew.setCell ⟨b, off, none⟩ (.int .u32 1)).setCell ⟨b, off + 1, none⟩ (.int .i32 0) := by
 have hl := run_call_load (P := Tryz.prog) Tryz.func155 (by kernel_rfl) (by kernel_rfl) (by kernel_rfl) .u32 (by kernel_rfl) h0
 have hnot : ∀ (x : Bool) (w : World), (Op.unary .not (.bool x)).run Tryz.prog w = .ok (.bool (!x)) w := fun _ _ => rfl
 have cS := slow_any b off cap R w h0 h1 f1 hf hR
 clear hf hR
 go_enter Tryz.func117, Tryz.ntmps117
 go_wp2_with (first | (go_at_call 136; refine cS.mono ?_; rintro e w' ⟨rfl, w1, hw1, rfl⟩) | (go_at_call 135; go_in))
 go_end0
 exact ⟨rfl, w1, hw1, rfl⟩
set_option maxRecDepth 100000 in
set_option maxHeartbeats 1600000 in
theorem do_done (b off : Nat) (fv : Value) (w : World) (h0 : w.cell? ⟨b, off, none⟩ = some (.int .u32 1)) :
  Calls Tryz.prog 117 #[.pointer (some ⟨b, off, none⟩), fv] w fun e w' => e = .returned (.tuple #[]) ∧ w' = w := by
 have hl := run_call_load (P := Tryz.prog) Tryz.func155 (by kernel_rfl) (by kernel_rfl) (by kernel_rfl) .u32 (by kernel_rfl) h0
 have hnot : ∀ (x : Bool) (w : World), (Op.unary .not (.bool x)).run Tryz.prog w = .ok (.bool (!x)) w := fun _ _ => rfl
 go_enter Tryz.func117, Tryz.ntmps117
 go_wp2
 go_end0
 exact ⟨rfl, rfl⟩
end Go.Proofs.YtalnfojaccfcjaaGreatDoor
namespace Go.Proofs
open Go.Shelf
def Tryz.lays134_ren : Go.Shelf.Ren := ⟨fun | 134 => 217 | 129 => 166 | n => n, fun | 53 => 240 | 3 => 3 | 4 => 4 | 46 => 267 | 5 => 5 | 9 => 9 | n => n, fun | n => n⟩
theorem Tryz.lays134 : Go.Proofs.Lays.n134 Tryz.prog Tryz.lays134_ren := {
 mixed := by kernel_rfl
 f129 := Tryz.func166.trans (congrArg some (by kernel_rfl))
 f134 := Tryz.func217.trans (congrArg some (by kernel_rfl))
 t3 := Tryz.underlying3
 a3 := Tryz.isAgg3
 z3 := Tryz.sizeOf3
 v3 := Tryz.zeroValue3
 t4 := Tryz.underlying4
 a4 := Tryz.isAgg4
 z4 := Tryz.sizeOf4
 v4 := Tryz.zeroValue4
 t5 := Tryz.underlying5
 a5 := Tryz.isAgg5
 z5 := Tryz.sizeOf5
 v5 := Tryz.zeroValue5
 t9 := Tryz.underlying9
 a9 := Tryz.isAgg9
 z9 := Tryz.sizeOf9
 v9 := Tryz.zeroValue9
 t46 := Tryz.underlying267
 a46 := Tryz.isAgg267
 z46 := Tryz.sizeOf267
 v46 := Tryz.zeroValue267
 t53 := Tryz.underlying240
 a53 := Tryz.isAgg240
 z53 := Tryz.sizeOf240
 v53 := Tryz.zeroValue240 }
theorem Tryz.bits_LeadingZeros64 (x : Int) (w : World) (h0 : 0 ≤ x) (h1 : x ≤ 18446744073709551615) :
  Calls Tryz.prog 217 #[.int .u64 x] w fun e w' => e = .returned (.int .i64 (64 - (Lib.bitLen x.toNat : Int))) ∧ w' = w := Any.bits_LeadingZeros64 Tryz.lays134 x w h0 h1
def Tryz.laysM176_ren : Go.Shelf.Ren := ⟨fun | 176 => 161 | 249 => 181 | 288 => 194 | 283 => 146 | 284 => 147 | 285 => 148 | 286 => 149 | 129 => 166 | 317 => 165 | 318 => 167 | 319 => 168 | 320 => 169 | 337 => 183 | 338 => 184 | n => n, fun | 37 => 47 | 2 => 2 | 3 => 3 | 53 => 240 | 4 => 4 | 9 => 9 | 171 => 239 | 0 => 0 | 173 => 243 | 212 => 264 | 51 => 95 | 5 => 5 | 20 => 20 | 213 => 265 | 46 => 267 | 232 => 291 | 233 => 292 | n => n, fun | 17 => 0 | 18 => 2 | 19 => 3 | n => n⟩
theorem Tryz.laysM176 : Go.Proofs.LaysM.n176 Tryz.prog Tryz.laysM176_ren := {
 mixed := by kernel_rfl
 f129 := Tryz.func166.trans (congrArg some (by kernel_rfl))
 f176 := Tryz.func161.trans (congrArg some (by kernel_rfl))
 f249 := Tryz.func181.trans (congrArg some (by kernel_rfl))
 f283 := Tryz.func146.trans (congrArg some (by kernel_rfl))
 f284 := Tryz.func147.trans (congrArg some (by kernel_rfl))
 f285 := Tryz.func148.trans (congrArg some (by kernel_rfl))
 f286 := Tryz.func149.trans (congrArg some (by kernel_rfl))
 f288 := Tryz.func194.trans (congrArg some (by kernel_rfl))
 f317 := Tryz.func165.trans (congrArg some (by kernel_rfl))
 f318 := Tryz.func167.trans (congrArg some (by kernel_rfl))
 f319 := Tryz.func168.trans (congrArg some (by kernel_rfl))
 f320 := Tryz.func169.trans (congrArg some (by kernel_rfl))
 f337 := Tryz.func183.trans (congrArg some (by kernel_rfl))
 f338 := Tryz.func184.trans (congrArg some (by kernel_rfl))
 t0 := Tryz.underlying0
 a0 := Tryz.isAgg0
 z0 := Tryz.sizeOf0
 v0 := Tryz.zeroValue0
 t2 := Tryz.underlying2
 a2 := Tryz.isAgg2
 z2 := Tryz.sizeOf2
 v2 := Tryz.zeroValue2
 t3 := Tryz.underlying3
 a3 := Tryz.isAgg3
 z3 := Tryz.sizeOf3
 v3 := Tryz.zeroValue3
 t4 := Tryz.underlying4
 a4 := Tryz.isAgg4
 z4 := Tryz.sizeOf4
 v4 := Tryz.zeroValue4
 t5 := Tryz.underlying5
 a5 := Tryz.isAgg5
 z5 := Tryz.sizeOf5
 v5 := Tryz.zeroValue5
 t9 := Tryz.underlying9
 a9 := Tryz.isAgg9
 z9 := Tryz.sizeOf9
 v9 := Tryz.zeroValue9
 t20 := Tryz.underlying20
 a20 := Tryz.isAgg20
 z20 := Tryz.sizeOf20
 v20 := Tryz.zeroValue20
 t37 := Tryz.underlying47
 a37 := Tryz.isAgg47
 z37 := Tryz.sizeOf47
 v37 := Tryz.zeroValue47
 t46 := Tryz.underlying267
 a46 := Tryz.isAgg267
 z46 := Tryz.sizeOf267
 v46 := Tryz.zeroValue267
 t51 := Tryz.underlying95
 a51 := Tryz.isAgg95
 z51 := Tryz.sizeOf95
 v51 := Tryz.zeroValue95
 t53 := Tryz.underlying240
 a53 := Tryz.isAgg240
 z53 := Tryz.sizeOf240
 v53 := Tryz.zeroValue240
 t171 := Tryz.underlying239
 a171 := Tryz.isAgg239
 z171 := Tryz.sizeOf239
 v171 := Tryz.zeroValue239
 t173 := Tryz.underlying243
 a173 := Tryz.isAgg243
 z173 := Tryz.sizeOf243
 v173 := Tryz.zeroValue243
 t212 := Tryz.underlying264
 a212 := Tryz.isAgg264
 z212 := Tryz.sizeOf264
 v212 := Tryz.zeroValue264
 t213 := Tryz.underlying265
 a213 := Tryz.isAgg265
 z213 := Tryz.sizeOf265
 t232 := Tryz.underlying291
 a232 := Tryz.isAgg291
 z232 := Tryz.sizeOf291
 v232 := Tryz.zeroValue291
 t233 := Tryz.underlying292
 a233 := Tryz.isAgg292
 z233 := Tryz.sizeOf292
 v233 := Tryz.zeroValue292
 g17 := by kernel_rfl
 g18 := by kernel_rfl
 g19 := by kernel_rfl
 i0 := by kernel_rfl
 i2 := by kernel_rfl
 i3 := by kernel_rfl
 i4 := by kernel_rfl
 i5 := by kernel_rfl
 i9 := by kernel_rfl
 i20 := by kernel_rfl
 i37 := by kernel_rfl
 i46 := by kernel_rfl
 i51 := by kernel_rfl
 i53 := by kernel_rfl
 i171 := by kernel_rfl
 i173 := by kernel_rfl
 i212 := by kernel_rfl
 i232 := by kernel_rfl
 i233 := by kernel_rfl
 m17 := by kernel_rfl
 m18 := by kernel_rfl
 m19 := by kernel_rfl }
open Go.RowKit Go.Sort Go.Lib in
theorem Tryz.strconv_AppendInt_10 (B n : Nat) (i : Int) (h0 : -9223372036854775808 ≤ i) (h1 : i ≤ 9223372036854775807) (sv : Value) (xs : List Value) (w : World) (hown : w.ownsRow B 5 1 sv n xs) (hBw : B ≤ w.heap.size) (hlim : n + 21 ≤ 140737488355328) (htab : Lib.TabBelow Tryz.prog B w "internal/strconv.uint64pow10" .u64 Lib.pow10Tab) :
  Calls Tryz.prog 161 #[sv, .int .i64 i, .int .i64 10] w fun e w' => ∃ v', e = .returned v' ∧ w'.ownsRow B 5 1 v' (n + (Lib.itoa i).length) (xs ++ Lib.byteCells (Lib.itoa i)) ∧ Below B w w' ∧ Lib.OthersKept 5 none w w' := Any.strconv_AppendInt_10 Tryz.laysM176 B n i h0 h1 sv xs w hown hBw hlim htab
def Tryz.lays264_ren : Go.Shelf.Ren := ⟨fun | 264 => 211 | n => n, fun | 53 => 240 | 46 => 267 | n => n, fun | n => n⟩
theorem Tryz.lays264 : Go.Proofs.Lays.n264 Tryz.prog Tryz.lays264_ren := {
 mixed := by kernel_rfl
 f264 := Tryz.func211.trans (congrArg some (by kernel_rfl))
 t46 := Tryz.underlying267
 a46 := Tryz.isAgg267
 z46 := Tryz.sizeOf267
 v46 := Tryz.zeroValue267
 t53 := Tryz.underlying240
 a53 := Tryz.isAgg240
 z53 := Tryz.sizeOf240
 v53 := Tryz.zeroValue240 }
open Go.RowKit Go.Lib in
theorem Tryz.bits_Mul64 (x y : Nat) (hx : x < 18446744073709551616) (hy : y < 18446744073709551616) (w : World) :
  Calls Tryz.prog 211 #[.int .u64 x, .int .u64 y] w fun e w' => e = .returned (.tuple #[.int .u64 ((x * y / 18446744073709551616 : Nat) : Int), .int .u64 ((x * y % 18446744073709551616 : Nat) : Int)]) ∧ w' = w := Any.bits_Mul64 Tryz.lays264 x y hx hy w
end Go.Proofs
