/-
 Contracts and what they rest on.
-/
import Derived.Test.YthlileddhgglnaaGreatDoorChecked
import Derived.Lib.Hide
import Derived.KernelRfl
import Derived.Lib.ConvBytes
import Derived.Deep.CutRange
import Derived.Test.YthlileddhgglnaaGreatDoorY9
namespace Go.Proofs.YthlileddhgglnaaGreatDoor
open Go.RowKit
theorem sec_block {w w' : World} {b : Nat} {s : Sec} (h : SecAt w ⟨b, 0, none⟩ s) (hb : w'.heap[b]? = w.heap[b]?) : SecAt w' ⟨b, 0, none⟩ s :=
 ⟨(World.cell?_of_block (a := ⟨b, 0, none⟩) hb).trans h.r, (World.cell?_of_block (a := ⟨b, 0 + 1, none⟩) hb).trans h.h, (World.cell?_of_block (a := ⟨b, 0 + 2, none⟩) hb).trans h.a0, (World.cell?_of_block (a := ⟨b, 0 + 3, none⟩) hb).trans h.b0,
  (World.cell?_of_block (a := ⟨b, 0 + 4, none⟩) hb).trans h.a1, (World.cell?_of_block (a := ⟨b, 0 + 5, none⟩) hb).trans h.b1⟩
set_option maxRecDepth 100000 in
set_option maxHeartbeats 16000000 in
theorem cof_row (a : Addr) (cap : Nat) (l : List Sec) (w : World) (h4 : ∀ i s, l[i]? = some s → s.I ∧ SecAt w (a.add (i * 6)) s) (hr : rightS l = true)
  (cR : ∀ w', B w w' → Calls Tryz.prog 45 #[.slice (some a) l.length cap] w' fun e w'' => e = .returned (.bool true) ∧ B w' w'')
  (cH : ∀ w', B w w' → Calls Tryz.prog 149 #[.slice (some a) l.length cap] w' fun e w'' => e = .returned (.int .i64 ((slAll l).length * 100)) ∧ B w' w'') :
  Calls Tryz.prog 128 #[.slice (some a) l.length cap] w fun e w' => ∃ p, e = .returned (.tuple #[p, .int .i64 0]) ∧ TabN CTab w.heap.size w'.heap.size w' p (slAll l) ∧ B w w' := by
 obtain ⟨hl1, hl4, hok⟩ := right_all hr
 obtain ⟨i0, hi0, hz0, hz1, hz2⟩ := i64_info
 have hbnd := slAll_bnd hok
 have hnum := slAll_len l hok
 have hsum : hsumI l l.length ≤ 60000 := by
  unfold rightS at hr
  simp only [Bool.and_eq_true, decide_eq_true_eq] at hr
  exact hr.2
 have hlen : (slAll l).length ≤ 600 := by omega
 have hone : 1 ≤ (slAll l).length := by
  obtain ⟨s, l', rfl⟩ : ∃ s l', l = s :: l' := by
   cases l with
   | nil => simp at hl1
   | cons s l' => exact ⟨s, l', rfl⟩
  have h0 := hok s List.mem_cons_self
  have h1 := secOk_h s h0
  have h2 := secOk_mod h0
  show 1 ≤ (slOf s ++ slAll l').length
  rw [List.length_append, slOf_len]
  omega
 obtain ⟨hh, ehh⟩ : ∃ hh : Int, ((slAll l).length : Int) * 100 = hh := ⟨_, rfl⟩
 rw [ehh] at cH
 have HH := Lib.hid ehh
 have HONE := Lib.hid hone
 clear hr hnum hsum ehh hone
 go_enter Tryz.func128, Tryz.ntmps128
 go_wp2_with fail
 refine (cR _ (B.refl w)).mono ?_
 rintro e W1 ⟨rfl, g1⟩
 go_wp2_with fail
 refine (cH _ g1).mono ?_
 rintro e W2 ⟨rfl, g2⟩
 replace g1 := g1.trans g2
 clear cR cH g2
 go_wp2
 have tw0 := two_start W2 w.heap.size 2 157 (.int .i64 hh) g1.below.size (W2.heap.size + 1) (by omega)
 have z0 : (W2.alloc (.cells #[.int .i64 hh, .slice none 0 0, .slice none 0 0] 157)).cell? ⟨W2.heap.size, 0, none⟩ = some (.int .i64 hh) := by simp [go_sem]
 have gF := g1.alloc #[.int .i64 hh, .slice none 0 0, .slice none 0 0] 157
 generalize W2.alloc (.cells #[.int .i64 hh, .slice none 0 0, .slice none 0 0] 157) = WF at *
 obtain ⟨xb0, hx0⟩ : ∃ x, W2.heap.size + 1 = x := ⟨_, rfl⟩
 rw [hx0] at tw0
 generalize W2.heap.size = bt at *
 obtain ⟨BB, hBB⟩ : ∃ BB, w.heap.size = BB := ⟨_, rfl⟩
 rw [hBB] at tw0
 clear g1 hx0
 have H4 := Lib.hid h4
 have HT := Lib.hid tw0
 have HZ := Lib.hid z0
 clear h4 tw0 z0
 go_loopw [5, 6, 21] (fun lo hi i wr => ∃ (k xb : Nat) (v u : Value), k ≤ l.length ∧ lo = .int .i64 (lowT (slAll (l.take k)) (slAll (l.take k)).length) ∧ hi = .int .i64 (highT (slAll (l.take k)) (slAll (l.take k)).length) ∧ i = .int .i64 k ∧
  Two wr BB bt 2 v u (lowL (slAll (l.take k))) (highL (slAll (l.take k))) xb ∧ wr.cell? ⟨bt, 0, none⟩ = some (.int .i64 hh) ∧ B w wr) (fun _ _ i _ => l.length - (intOf i).toNat)
 case atStart => exact ⟨0, xb0, _, _, Nat.zero_le _, by simp [slAll, lowT], by simp [slAll, highT], rfl, HT.out, HZ.out, gF⟩
 case round =>
  clear HT HZ
  obtain ⟨k, xb', v, u, hk, rfl, rfl, rfl, tw, hz, gq⟩ := hrel
  by_cases hl : k < l.length
  ·have hlB : decide (k < l.length) = true := decide_eq_true hl
   have hlI : (k : Int) < (l.length : Int) := by omega
   have hg := List.getElem?_eq_getElem hl
   obtain ⟨hI, hs⟩ := H4.out k _ hg
   have hsk := hok _ (List.getElem_mem hl)
   have hsplit : slAll (l.take (k + 1)) = slAll (l.take k) ++ slOf l[k] := by
    rw [List.take_add_one, hg, slAll_append]; simp [slAll]
   have hpre : (slAll (l.take (k + 1))).length ≤ 600 := by
    have e : slAll l = slAll (l.take (k + 1)) ++ slAll (l.drop (k + 1)) := by rw [← slAll_append, List.take_append_drop]
    rw [e, List.length_append] at hlen
    omega
   have hbk : ∀ x ∈ slAll (l.take (k + 1)), Bnd x := slAll_bnd (fun s hs => hok s (List.mem_of_mem_take hs))
   rw [hsplit] at hpre hbk
   generalize slAll (l.take k) = MK at *
   generalize l[k] = s at *
   obtain ⟨r, h, a0, b0, a1, b1⟩ := s
   obtain ⟨hh1, hh2⟩ := secOk_h _ hsk
   have hmod := secOk_mod hsk
   have hsl : (slOf ⟨r, h, a0, b0, a1, b1⟩).length = (h / 100).toNat := slOf_len _
   have hget : ∀ j : Nat, j < (h / 100).toNat → (slOf ⟨r, h, a0, b0, a1, b1⟩)[j]? = some (100 * lowA ⟨r, h, a0, b0, a1, b1⟩ (100 * (j : Int)), 100 * highA ⟨r, h, a0, b0, a1, b1⟩ (100 * (j : Int))) := fun j hj => by
    unfold slOf
    rw [List.getElem?_map, List.getElem?_range hj]
    rfl
   have hbnds := fun (t : Int) ht => slice_bounds hsk t ht
   generalize slOf ⟨r, h, a0, b0, a1, b1⟩ = SL at *
   simp only at hh1 hh2 hmod
   obtain ⟨f0, f1, f2, f3, f4, f5⟩ := hs.keepB gq
   simp only at f0 f1 f2 f3 f4 f5
   have HK1 := Lib.hid hsplit
   obtain ⟨LO0, hLO0⟩ : ∃ x, lowT MK MK.length = x := ⟨_, rfl⟩
   obtain ⟨HI0, hHI0⟩ : ∃ x, highT MK MK.length = x := ⟨_, rfl⟩
   rw [hLO0, hHI0]
   clear hsplit hs
   go_wp2
   have twx := (tw.stay wr.heap.size (Nat.le_refl _)).keepB ((B.refl wr).alloc #[.bool r, .int .i64 h, .int .i64 a0, .int .i64 b0, .int .i64 a1, .int .i64 b1] 37)
   have hzx := ((B.refl wr).alloc #[.bool r, .int .i64 h, .int .i64 a0, .int .i64 b0, .int .i64 a1, .int .i64 b1] 37).keep hz
   have gqx := gq.alloc #[.bool r, .int .i64 h, .int .i64 a0, .int .i64 b0, .int .i64 a1, .int .i64 b1] 37
   have hsx : SecAt (wr.alloc (.cells #[.bool r, .int .i64 h, .int .i64 a0, .int .i64 b0, .int .i64 a1, .int .i64 b1] 37)) ⟨wr.heap.size, 0, none⟩ ⟨r, h, a0, b0, a1, b1⟩ := by constructor <;> simp [go_sem]
   clear tw hz gq f0 f1 f2 f3 f4 f5
   generalize wr.alloc (.cells #[.bool r, .int .i64 h, .int .i64 a0, .int .i64 b0, .int .i64 a1, .int .i64 b1] 37) = wo at *
   generalize wr.heap.size = xb at *
   have HL := Lib.hid twx
   have HSX := Lib.hid hsx
   have HZX := Lib.hid hzx
   have HOK := Lib.hid (And.intro hok hbnd)
   have HG := Lib.hid hg
   clear twx hsx hzx hok hbnd hg
   go_loopw [5, 6, 9] (fun lo hi i wr => ∃ (j : Nat) (v u : Value), j ≤ (h / 100).toNat ∧ lo = .int .i64 (lowT (MK ++ SL.take j) (MK ++ SL.take j).length) ∧ hi = .int .i64 (highT (MK ++ SL.take j) (MK ++ SL.take j).length) ∧ i = .int .i64 (100 * (j : Int)) ∧
    Two wr BB bt 2 v u (lowL (MK ++ SL.take j)) (highL (MK ++ SL.take j)) xb ∧ wr.cell? ⟨bt, 0, none⟩ = some (.int .i64 hh) ∧ SecAt wr ⟨xb, 0, none⟩ ⟨r, h, a0, b0, a1, b1⟩ ∧ B w wr) (fun _ _ i _ => (h / 100).toNat - ((intOf i) / 100).toNat)
   case atStart => exact ⟨0, v, u, Nat.zero_le _, by simp [hLO0], by simp [hHI0], rfl, by simpa using HL.out, HZX.out, HSX.out, gqx⟩
   case round =>
    clear HL HSX HZX hLO0 hHI0
    obtain ⟨j, v, u, hj, rfl, rfl, rfl, tw, hz, hs, gq⟩ := hrel
    obtain ⟨f0, f1, f2, f3, f4, f5⟩ := hs
    have hs : SecAt wr ⟨xb, 0, none⟩ ⟨r, h, a0, b0, a1, b1⟩ := ⟨f0, f1, f2, f3, f4, f5⟩
    simp only [Nat.zero_add] at f0 f1 f2 f3 f4 f5
    by_cases hjl : j < (h / 100).toNat
    ·have hjB : decide (100 * (j : Int) < h) = true := decide_eq_true (by omega)
     have hgj := hget j hjl
     have hMM : MK ++ SL.take (j + 1) = (MK ++ SL.take j) ++ [(100 * lowA ⟨r, h, a0, b0, a1, b1⟩ (100 * (j : Int)), 100 * highA ⟨r, h, a0, b0, a1, b1⟩ (100 * (j : Int)))] := by
      rw [List.take_add_one, hgj]; simp
     have hMl : (MK ++ SL.take j).length ≤ 599 := by
      rw [List.length_append, List.length_take]
      rw [List.length_append] at hpre
      omega
     have hbM : ∀ x ∈ MK ++ SL.take j, Bnd x := fun x hx => hbk x (by
      rcases List.mem_append.1 hx with h | h
      ·exact List.mem_append.2 (.inl h)
      ·exact List.mem_append.2 (.inr (List.mem_of_mem_take h)))
     obtain ⟨hb1, hb2, hb3⟩ := table_bnd hbM (MK ++ SL.take j).length
     have HRel := Lib.hid hMM
     clear hMM hgj hbM
     obtain ⟨T, hT⟩ : ∃ T : Int, 100 * (j : Int) = T := ⟨_, rfl⟩
     obtain ⟨n, hn⟩ : ∃ n, (MK ++ SL.take j).length = n := ⟨_, rfl⟩
     have lLn := lowL_len (MK ++ SL.take j)
     have lHn := highL_len (MK ++ SL.take j)
     have snL := lowL_snoc (MK ++ SL.take j) (100 * lowA ⟨r, h, a0, b0, a1, b1⟩ T, 100 * highA ⟨r, h, a0, b0, a1, b1⟩ T)
     have snH := highL_snoc (MK ++ SL.take j) (100 * lowA ⟨r, h, a0, b0, a1, b1⟩ T, 100 * highA ⟨r, h, a0, b0, a1, b1⟩ T)
     have sLO := lowT_snoc (MK ++ SL.take j) (100 * lowA ⟨r, h, a0, b0, a1, b1⟩ T, 100 * highA ⟨r, h, a0, b0, a1, b1⟩ T)
     have sHI := highT_snoc (MK ++ SL.take j) (100 * lowA ⟨r, h, a0, b0, a1, b1⟩ T, 100 * highA ⟨r, h, a0, b0, a1, b1⟩ T)
     have snn : ∀ x, ((MK ++ SL.take j) ++ [x]).length = (MK ++ SL.take j).length + 1 := fun x => by rw [List.length_append, List.length_singleton]
     rw [← snn (100 * lowA ⟨r, h, a0, b0, a1, b1⟩ T, 100 * highA ⟨r, h, a0, b0, a1, b1⟩ T)] at sLO sHI
     rw [hT]
     rw [hT] at hjB HRel
     generalize MK ++ SL.take j = M at *
     obtain ⟨LO, hLO⟩ : ∃ LO, lowT M M.length = LO := ⟨_, rfl⟩
     obtain ⟨HI, hHI⟩ : ∃ HI, highT M M.length = HI := ⟨_, rfl⟩
     rw [hLO] at snL sLO hb1 hb2 ⊢
     rw [hHI] at snH sHI hb2 hb3 ⊢
     rw [hn] at lLn lHn hMl hb3
     have hT0 : 0 ≤ T := by omega
     have hT1 : T + 100 ≤ 60000 := by omega
     have eT : IntKind.i64.wrap (T + 100) = T + 100 := wrapI (by omega) (by omega)
     obtain ⟨hx1, hx2, hx3, hx4⟩ := hbnds T hT0
     have cB := fun w => cbounds_any r h a0 b0 a1 b1 T w hI hT0 (by omega) hsk
     generalize lowA ⟨r, h, a0, b0, a1, b1⟩ T = XL at *
     generalize highA ⟨r, h, a0, b0, a1, b1⟩ T = XH at *
     obtain ⟨YL, eYL⟩ : ∃ Y, 100 * XL = Y := ⟨_, rfl⟩
     obtain ⟨YH, eYH⟩ : ∃ Y, 100 * XH = Y := ⟨_, rfl⟩
     obtain ⟨ZL, eZL⟩ : ∃ Z, LO + YL = Z := ⟨_, rfl⟩
     obtain ⟨ZH, eZH⟩ : ∃ Z, HI + YH = Z := ⟨_, rfl⟩
     have wZL : IntKind.i64.wrap ZL = ZL := wrapI (by omega) (by omega)
     have wZH : IntKind.i64.wrap ZH = ZH := wrapI (by omega) (by omega)
     simp only [eYL, eYH, eZL, eZH] at snL snH sLO sHI HRel cB
     have hn600 : n ≤ 599 := hMl
     clear hbnds hget hsk hx1 hx2 hx3 hx4 hb1 hb2 hb3 hpre hbk hlen hMl snn
     go_wp2_with fail
     refine (cB _).mono ?_
     rintro e wS ⟨rfl, qS⟩
     replace tw := tw.keepB qS
     replace hz := qS.keep hz
     replace hs := hs.keepB qS
     replace gq := gq.trans qS
     replace f0 := qS.keep f0
     replace f1 := qS.keep f1
     replace f2 := qS.keep f2
     replace f3 := qS.keep f3
     replace f4 := qS.keep f4
     replace f5 := qS.keep f5
     clear qS cB
     have own1 : ∀ W1, B wS W1 → W1.ownsRow BB 2 1 v n (lowL M) := fun W1 q => by have := (tw.keepB q).l.own; rwa [lLn] at this
     have base0 : BB ≤ wS.heap.size := by rw [← hBB]; exact gq.below.size
     have base1 : ∀ W1, B wS W1 → BB ≤ W1.heap.size := fun W1 q => Nat.le_trans base0 q.below.size
     have xbl : xb < wS.heap.size := World.block_lt_of_cell? wS _ f0
     have hvc := tw.l.cell
     have huc := tw.h.cell
     go_wp2_with fail
     refine wp_region_noPanic ?_
     refine wp_region_fork (S := fun w' => w'.cell? ⟨bt, 1, none⟩ = some v ∧ w'.cell? ⟨bt, 2, none⟩ = some u) 18 (.step 0 3 (.step 1 3 (.step 2 3 (.step 3 3 (.step 4 3 (.step 5 0 (.step 6 3 (.step 9 3 (.step 10 3 (.step 11 3 (.step 12 0 (.step 13 3 (.fork 7 (.fork 8 (.step 14 2 (.step 15 2 (.step 16 3 (.step 17 3 (.step 18 4 (.step 19 3 (.step 20 3 (.step 21 4 (.done))))))))) 14 (.step 8 2 (.step 15 2 (.step 16 3 (.step 17 3 (.step 18 4 (.step 19 3 (.step 20 3 (.step 21 4 (.done)))))))))) 14 (.step 7 2 (.step 8 2 (.step 15 2 (.step 16 3 (.step 17 3 (.step 18 4 (.step 19 3 (.step 20 3 (.step 21 4 (.done))))))))))))))))))))))) [0, 0, 0, 4, 8, 16, 0, 64, 160, 0, 512, 1024, 2048, 0, 8192, 20736, 37373, 102909, 168445, 524287, 1048575, 1572863] [0, 0, 0, 4, 8, 16, 0, 64, 160, 0, 512, 1024, 2048, 0, 8192, 20480, 1, 65536, 131328, 2, 524288, 1081344] [0, 0, 0, 0, 0, 4161824, 0, 0, 0, 0, 0, 0, 4165632, 0, 0, 0, 0, 0, 0, 0, 0, 0] (by kernel_rfl) (by kernel_rfl) (fun _ _ _ _ _ h => h) ?_ (fun hH => ?_)
     ·exact ⟨(Q.refl wS).drew.keep tw.l.cell, (Q.refl wS).drew.keep tw.h.cell⟩
     refine wpSeqF_free (d := 43) (v := ?_) rfl rfl (by kernel_rfl) (fun w => ?_) ?_
     rotate_left
     ·go_simp <;> with_reducible rfl
     try dsimp only [sZ, sS]
     refine wpSeqF_free (d := 44) (v := ?_) rfl rfl (by kernel_rfl) (fun w => ?_) ?_
     rotate_left
     ·go_simp <;> with_reducible rfl
     try dsimp only [sZ, sS]
     refine wpSeqF_free (d := 45) (v := ?_) rfl rfl (by kernel_rfl) (fun w => ?_) ?_
     rotate_left
     ·go_simp <;> with_reducible rfl
     try dsimp only [sZ, sS]
     refine wpSeqF_free (d := 46) (v := ?_) rfl rfl (by kernel_rfl) (fun w => ?_) ?_
     rotate_left
     ·go_simp <;> with_reducible rfl
     try dsimp only [sZ, sS]
     refine wpSeqF_free (d := 47) (v := ?_) rfl rfl (by kernel_rfl) (fun w => ?_) ?_
     rotate_left
     ·go_simp <;> with_reducible rfl
     try dsimp only [sZ, sS]
     refine wpSeqF_take (d := 48) (v := ?_) rfl rfl (by kernel_rfl) (fun w hS => ?_) ?_
     rotate_left
     ·go_simp <;> with_reducible rfl
     try dsimp only [sZ, sS]
     refine wpSeqF_free (d := 49) (v := ?_) rfl rfl (by kernel_rfl) (fun w => ?_) ?_
     rotate_left
     ·go_simp <;> with_reducible rfl
     try dsimp only [sZ, sS]
     refine wpSeqF_free (d := 52) (v := ?_) rfl rfl (by kernel_rfl) (fun w => ?_) ?_
     rotate_left
     ·go_simp <;> with_reducible rfl
     try dsimp only [sZ, sS]
     refine wpSeqF_free (d := 53) (v := ?_) rfl rfl (by kernel_rfl) (fun w => ?_) ?_
     rotate_left
     ·go_simp <;> with_reducible rfl
     try dsimp only [sZ, sS]
     refine wpSeqF_free (d := 54) (v := ?_) rfl rfl (by kernel_rfl) (fun w => ?_) ?_
     rotate_left
     ·go_simp <;> with_reducible rfl
     try dsimp only [sZ, sS]
     refine wpSeqF_take (d := 55) (v := ?_) rfl rfl (by kernel_rfl) (fun w hS => ?_) ?_
     rotate_left
     ·go_simp <;> with_reducible rfl
     try dsimp only [sZ, sS]
     refine wpSeqF_free (d := 56) (v := ?_) rfl rfl (by kernel_rfl) (fun w => ?_) ?_
     rotate_left
     ·go_simp <;> with_reducible rfl
     try dsimp only [sZ, sS]
     refine wpSeqF_fork rfl rfl (by kernel_rfl) (by kernel_rfl) (fun K hK => ?_) (fun K hK => ?_)
     ·go_simp
      refine hK.out _ _ ?_ (fun hH => ?_)
      ·exact ⟨((B.refl _).alloc _ _).keep hH.1, ((B.refl _).alloc _ _).keep hH.2⟩
      clear hK
      refine wpSeqF_fork rfl rfl (by kernel_rfl) (by kernel_rfl) (fun K hK => ?_) (fun K hK => ?_)
      ·refine wp_append_lies _ _ _ 93 rfl BB 2 i0 (.int .i64 0) 1 8 (by kernel_rfl) hi0 hz0 hz1 hz2 rfl (by omega) _ n _ rfl (own1 _ ((B.refl wS).drew.alloc _ _)) ⟨wS.heap.size, 0, none⟩ 1 1 [.int .i64 ZL] rfl rfl (news_plain rfl) (by intro u hu; rw [List.mem_singleton.1 hu]; rfl) (by omega) (by unfold maxLen; omega) (by omega) (base1 _ ((B.refl wS).drew.alloc _ _)) _ rfl ?_
       intro gN cN wN hownN hgrowN hatN hltN
       replace hgrowN : (wS.drew.alloc (.cells #[.int .i64 ZL] 2)).grownBy wN v.ownBlock := hgrowN
       obtain ⟨y1, y2, y3, y4, y5, y6, y7⟩ := two_first tw ((B.refl wS).drew.alloc _ _) hgrowN hatN
       have own2 : ∀ W2, B wN W2 → W2.ownsRow BB 2 1 u n (highL M) := fun W2 q => by have := (y5.keepB q).own; rwa [highL_len, hn] at this
       have base2 : ∀ W2, B wN W2 → BB ≤ W2.heap.size := fun W2 q => Nat.le_trans y6 q.below.size
       refine hK.out _ _ ?_ (fun hH => ?_)
       ·exact ⟨y1, y5.cell⟩
       clear hK
       refine wpSeqF_call rfl (by kernel_rfl) (fun K hK => ?_)
       go_simp
       refine hK.out _ _ ?_ (fun hH => ?_)
       ·exact ⟨((B.refl _).alloc _ _).keep hH.1, ((B.refl _).alloc _ _).keep hH.2⟩
       clear hK
       refine wpSeqF_call rfl (by kernel_rfl) (fun K hK => ?_)
       refine wp_append_lies _ _ _ 93 rfl BB 2 i0 (.int .i64 0) 1 8 (by kernel_rfl) hi0 hz0 hz1 hz2 rfl (by omega) _ n _ rfl (own2 _ ((B.refl wN).alloc _ _)) ⟨wN.heap.size, 0, none⟩ 1 1 [.int .i64 ZH] rfl rfl (news_plain rfl) (by intro u hu; rw [List.mem_singleton.1 hu]; rfl) (by omega) (by unfold maxLen; omega) (by omega) (base2 _ ((B.refl wN).alloc _ _)) _ rfl ?_
       intro gM cM wM hownM hgrowM hatM hltM
       obtain ⟨_, u1, u2, u3, u4, _⟩ := two_mid y1 y2 y5 ((B.refl wN).alloc _ _) hgrowM hatM
       obtain ⟨u5, u6⟩ := two_store u3 u4 (.slice (some ⟨gN, 0, none⟩) (n + 1) cN)
       refine hK.out _ _ ?_ (fun hH => ?_)
       ·exact ⟨u1, u3⟩
       clear hK
       refine wpSeqF_free (d := 59) (v := ?_) rfl rfl (by kernel_rfl) (fun w => ?_) ?_
       rotate_left
       ·go_simp <;> with_reducible rfl
       try dsimp only [sZ, sS]
       refine wpSeqF_free (d := 60) (v := ?_) rfl rfl (by kernel_rfl) (fun w => ?_) ?_
       rotate_left
       ·go_simp <;> with_reducible rfl
       try dsimp only [sZ, sS]
       refine wpSeqF_gate rfl (by kernel_rfl) (fun K hK => ?_)
       go_simp
       refine hK.out _ _ ?_
       clear hK
       refine wpSeqF_free (d := 61) (v := ?_) rfl rfl (by kernel_rfl) (fun w => ?_) ?_
       rotate_left
       ·go_simp <;> with_reducible rfl
       try dsimp only [sZ, sS]
       refine wpSeqF_free (d := 62) (v := ?_) rfl rfl (by kernel_rfl) (fun w => ?_) ?_
       rotate_left
       ·go_simp <;> with_reducible rfl
       try dsimp only [sZ, sS]
       refine wpSeqF_gate rfl (by kernel_rfl) (fun K hK => ?_)
       go_simp
       refine hK.out _ _ ?_
       clear hK
       refine wpSeqF_done ?_
       refine NoPanic.normal ?_
       obtain ⟨tx, hxb, hzc, hgB⟩ := two_grow tw lLn lHn ((B.refl wS).drew.alloc _ _) hownN hgrowN hatN hltN ((B.refl wN).alloc _ _) hownM hgrowM hatM xbl hz
       have gX := hgB w hBB gq
       have sX := sec_block hs hxb
       clear hownN hgrowN hatN hltN hownM hgrowM hatM y1 y2 y3 y4 y5 y6 y7 own2 base2 u1 u2 u3 u4 u5 u6 hH hgB hxb own1 base1 tw
       have TX := Lib.hid tx
       have SX := Lib.hid sX
       have ZX := Lib.hid hzc
       have GX := Lib.hid gX
       clear tx sX hzc gX f0 f1 f2 f3 f4 f5 hs hz gq
       generalize (wM.setCell ⟨bt, 1, none⟩ (.slice (some ⟨gN, 0, none⟩) (n + 1) cN)).setCell ⟨bt, 2, none⟩ (.slice (some ⟨gM, 0, none⟩) (n + 1) cM) = wX at *
       go_wp2
       go_roundw
       case rel => exact ⟨j + 1, _, _, by omega, by rw [HRel.out, sLO], by rw [HRel.out, sHI], by go_num, by rw [HRel.out, snL, snH]; exact TX.out, ZX.out, SX.out, GX.out⟩
       case measure => simp [intOf]; omega
      ·go_simp
       refine hK.out _ _ ?_ (fun hH => ?_)
       ·exact ⟨((B.refl _).alloc _ _).keep hH.1, ((B.refl _).alloc _ _).keep hH.2⟩
       clear hK
       refine wpSeqF_call rfl (by kernel_rfl) (fun K hK => ?_)
       refine wp_append_lies _ _ _ 93 rfl BB 2 i0 (.int .i64 0) 1 8 (by kernel_rfl) hi0 hz0 hz1 hz2 rfl (by omega) _ n _ rfl (own1 _ (((B.refl wS).drew.alloc _ _).alloc _ _)) ⟨wS.heap.size, 0, none⟩ 1 1 [.int .i64 ZL] rfl rfl (fun j u h => ((B.refl _).alloc _ _).keep (news_plain rfl j u h)) (by intro u hu; rw [List.mem_singleton.1 hu]; rfl) (by omega) (by unfold maxLen; omega) (by omega) (base1 _ (((B.refl wS).drew.alloc _ _).alloc _ _)) _ rfl ?_
       intro gN cN wN hownN hgrowN hatN hltN
       replace hgrowN : ((wS.drew.alloc (.cells #[.int .i64 ZL] 2)).alloc (.cells #[.int .i64 ZH] 2)).grownBy wN v.ownBlock := hgrowN
       obtain ⟨y1, y2, y3, y4, y5, y6, y7⟩ := two_first tw (((B.refl wS).drew.alloc _ _).alloc _ _) hgrowN hatN
       have own2 : ∀ W2, B wN W2 → W2.ownsRow BB 2 1 u n (highL M) := fun W2 q => by have := (y5.keepB q).own; rwa [highL_len, hn] at this
       have base2 : ∀ W2, B wN W2 → BB ≤ W2.heap.size := fun W2 q => Nat.le_trans y6 q.below.size
       refine hK.out _ _ ?_ (fun hH => ?_)
       ·exact ⟨y1, y5.cell⟩
       clear hK
       refine wpSeqF_call rfl (by kernel_rfl) (fun K hK => ?_)
       refine wp_append_lies _ _ _ 93 rfl BB 2 i0 (.int .i64 0) 1 8 (by kernel_rfl) hi0 hz0 hz1 hz2 rfl (by omega) _ n _ rfl (own2 _ (B.refl wN)) ⟨wS.heap.size + 1, 0, none⟩ 1 1 [.int .i64 ZH] rfl rfl (news_grown (w := (wS.drew.alloc (.cells #[.int .i64 ZL] 2)).alloc (.cells #[.int .i64 ZH] 2)) (news_plain (w := wS.drew.alloc (.cells #[.int .i64 ZL] 2)) (alloc_size wS.drew _)) hgrowN (by rw [alloc_size, alloc_size]; show _ < wS.heap.size + 1 + 1; omega) (fun e => by have := (tw.l.own.lt _ e.symm).2; omega)) (by intro u hu; rw [List.mem_singleton.1 hu]; rfl) (by omega) (by unfold maxLen; omega) (by omega) (base2 _ (B.refl wN)) _ rfl ?_
       intro gM cM wM hownM hgrowM hatM hltM
       obtain ⟨_, u1, u2, u3, u4, _⟩ := two_mid y1 y2 y5 (B.refl wN) hgrowM hatM
       obtain ⟨u5, u6⟩ := two_store u3 u4 (.slice (some ⟨gN, 0, none⟩) (n + 1) cN)
       refine hK.out _ _ ?_ (fun hH => ?_)
       ·exact ⟨u1, u3⟩
       clear hK
       refine wpSeqF_free (d := 59) (v := ?_) rfl rfl (by kernel_rfl) (fun w => ?_) ?_
       rotate_left
       ·go_simp <;> with_reducible rfl
       try dsimp only [sZ, sS]
       refine wpSeqF_free (d := 60) (v := ?_) rfl rfl (by kernel_rfl) (fun w => ?_) ?_
       rotate_left
       ·go_simp <;> with_reducible rfl
       try dsimp only [sZ, sS]
       refine wpSeqF_gate rfl (by kernel_rfl) (fun K hK => ?_)
       go_simp
       refine hK.out _ _ ?_
       clear hK
       refine wpSeqF_free (d := 61) (v := ?_) rfl rfl (by kernel_rfl) (fun w => ?_) ?_
       rotate_left
       ·go_simp <;> with_reducible rfl
       try dsimp only [sZ, sS]
       refine wpSeqF_free (d := 62) (v := ?_) rfl rfl (by kernel_rfl) (fun w => ?_) ?_
       rotate_left
       ·go_simp <;> with_reducible rfl
       try dsimp only [sZ, sS]
       refine wpSeqF_gate rfl (by kernel_rfl) (fun K hK => ?_)
       go_simp
       refine hK.out _ _ ?_
       clear hK
       refine wpSeqF_done ?_
       refine NoPanic.normal ?_
       obtain ⟨tx, hxb, hzc, hgB⟩ := two_grow tw lLn lHn (((B.refl wS).drew.alloc _ _).alloc _ _) hownN hgrowN hatN hltN (B.refl wN) hownM hgrowM hatM xbl hz
       have gX := hgB w hBB gq
       have sX := sec_block hs hxb
       clear hownN hgrowN hatN hltN hownM hgrowM hatM y1 y2 y3 y4 y5 y6 y7 own2 base2 u1 u2 u3 u4 u5 u6 hH hgB hxb own1 base1 tw
       have TX := Lib.hid tx
       have SX := Lib.hid sX
       have ZX := Lib.hid hzc
       have GX := Lib.hid gX
       clear tx sX hzc gX f0 f1 f2 f3 f4 f5 hs hz gq
       generalize (wM.setCell ⟨bt, 1, none⟩ (.slice (some ⟨gN, 0, none⟩) (n + 1) cN)).setCell ⟨bt, 2, none⟩ (.slice (some ⟨gM, 0, none⟩) (n + 1) cM) = wX at *
       go_wp2
       go_roundw
       case rel => exact ⟨j + 1, _, _, by omega, by rw [HRel.out, sLO], by rw [HRel.out, sHI], by go_num, by rw [HRel.out, snL, snH]; exact TX.out, ZX.out, SX.out, GX.out⟩
       case measure => simp [intOf]; omega
     ·go_simp
      refine hK.out _ _ ?_ (fun hH => ?_)
      ·exact ⟨((B.refl _).alloc _ _).keep hH.1, ((B.refl _).alloc _ _).keep hH.2⟩
      clear hK
      refine wpSeqF_call rfl (by kernel_rfl) (fun K hK => ?_)
      go_simp
      refine hK.out _ _ ?_ (fun hH => ?_)
      ·exact ⟨((B.refl _).alloc _ _).keep hH.1, ((B.refl _).alloc _ _).keep hH.2⟩
      clear hK
      refine wpSeqF_call rfl (by kernel_rfl) (fun K hK => ?_)
      refine wp_append_lies _ _ _ 93 rfl BB 2 i0 (.int .i64 0) 1 8 (by kernel_rfl) hi0 hz0 hz1 hz2 rfl (by omega) _ n _ rfl (own1 _ (((B.refl wS).drew.alloc _ _).alloc _ _)) ⟨wS.heap.size + 1, 0, none⟩ 1 1 [.int .i64 ZL] rfl rfl (news_plain (alloc_size _ _)) (by intro u hu; rw [List.mem_singleton.1 hu]; rfl) (by omega) (by unfold maxLen; omega) (by omega) (base1 _ (((B.refl wS).drew.alloc _ _).alloc _ _)) _ rfl ?_
      intro gN cN wN hownN hgrowN hatN hltN
      replace hgrowN : ((wS.drew.alloc (.cells #[.int .i64 ZH] 2)).alloc (.cells #[.int .i64 ZL] 2)).grownBy wN v.ownBlock := hgrowN
      obtain ⟨y1, y2, y3, y4, y5, y6, y7⟩ := two_first tw (((B.refl wS).drew.alloc _ _).alloc _ _) hgrowN hatN
      have own2 : ∀ W2, B wN W2 → W2.ownsRow BB 2 1 u n (highL M) := fun W2 q => by have := (y5.keepB q).own; rwa [highL_len, hn] at this
      have base2 : ∀ W2, B wN W2 → BB ≤ W2.heap.size := fun W2 q => Nat.le_trans y6 q.below.size
      refine hK.out _ _ ?_ (fun hH => ?_)
      ·exact ⟨y1, y5.cell⟩
      clear hK
      refine wpSeqF_call rfl (by kernel_rfl) (fun K hK => ?_)
      refine wp_append_lies _ _ _ 93 rfl BB 2 i0 (.int .i64 0) 1 8 (by kernel_rfl) hi0 hz0 hz1 hz2 rfl (by omega) _ n _ rfl (own2 _ (B.refl wN)) ⟨wS.heap.size, 0, none⟩ 1 1 [.int .i64 ZH] rfl rfl (news_grown (w := (wS.drew.alloc (.cells #[.int .i64 ZH] 2)).alloc (.cells #[.int .i64 ZL] 2)) (fun j u h => ((B.refl _).alloc _ _).keep (news_plain (w := wS.drew) rfl j u h)) hgrowN (by rw [alloc_size, alloc_size]; show _ < wS.heap.size + 1 + 1; omega) (fun e => by have := (tw.l.own.lt _ e.symm).2; omega)) (by intro u hu; rw [List.mem_singleton.1 hu]; rfl) (by omega) (by unfold maxLen; omega) (by omega) (base2 _ (B.refl wN)) _ rfl ?_
      intro gM cM wM hownM hgrowM hatM hltM
      obtain ⟨_, u1, u2, u3, u4, _⟩ := two_mid y1 y2 y5 (B.refl wN) hgrowM hatM
      obtain ⟨u5, u6⟩ := two_store u3 u4 (.slice (some ⟨gN, 0, none⟩) (n + 1) cN)
      refine hK.out _ _ ?_ (fun hH => ?_)
      ·exact ⟨u1, u3⟩
      clear hK
      refine wpSeqF_free (d := 59) (v := ?_) rfl rfl (by kernel_rfl) (fun w => ?_) ?_
      rotate_left
      ·go_simp <;> with_reducible rfl
      try dsimp only [sZ, sS]
      refine wpSeqF_free (d := 60) (v := ?_) rfl rfl (by kernel_rfl) (fun w => ?_) ?_
      rotate_left
      ·go_simp <;> with_reducible rfl
      try dsimp only [sZ, sS]
      refine wpSeqF_gate rfl (by kernel_rfl) (fun K hK => ?_)
      go_simp
      refine hK.out _ _ ?_
      clear hK
      refine wpSeqF_free (d := 61) (v := ?_) rfl rfl (by kernel_rfl) (fun w => ?_) ?_
      rotate_left
      ·go_simp <;> with_reducible rfl
      try dsimp only [sZ, sS]
      refine wpSeqF_free (d := 62) (v := ?_) rfl rfl (by kernel_rfl) (fun w => ?_) ?_
      rotate_left
      ·go_simp <;> with_reducible rfl
      try dsimp only [sZ, sS]
      refine wpSeqF_gate rfl (by kernel_rfl) (fun K hK => ?_)
      go_simp
      refine hK.out _ _ ?_
      clear hK
      refine wpSeqF_done ?_
      refine NoPanic.normal ?_
      obtain ⟨tx, hxb, hzc, hgB⟩ := two_grow tw lLn lHn (((B.refl wS).drew.alloc _ _).alloc _ _) hownN hgrowN hatN hltN (B.refl wN) hownM hgrowM hatM xbl hz
      have gX := hgB w hBB gq
      have sX := sec_block hs hxb
      clear hownN hgrowN hatN hltN hownM hgrowM hatM y1 y2 y3 y4 y5 y6 y7 own2 base2 u1 u2 u3 u4 u5 u6 hH hgB hxb own1 base1 tw
      have TX := Lib.hid tx
      have SX := Lib.hid sX
      have ZX := Lib.hid hzc
      have GX := Lib.hid gX
      clear tx sX hzc gX f0 f1 f2 f3 f4 f5 hs hz gq
      generalize (wM.setCell ⟨bt, 1, none⟩ (.slice (some ⟨gN, 0, none⟩) (n + 1) cN)).setCell ⟨bt, 2, none⟩ (.slice (some ⟨gM, 0, none⟩) (n + 1) cM) = wX at *
      go_wp2
      go_roundw
      case rel => exact ⟨j + 1, _, _, by omega, by rw [HRel.out, sLO], by rw [HRel.out, sHI], by go_num, by rw [HRel.out, snL, snH]; exact TX.out, ZX.out, SX.out, GX.out⟩
      case measure => simp [intOf]; omega
    ·have hjB : decide (100 * (j : Int) < h) = false := decide_eq_false (by omega)
     obtain rfl : j = (h / 100).toNat := by omega
     rw [← hsl, List.take_length] at tw ⊢
     have HL := Lib.hid tw
     have HZ := Lib.hid hz
     clear tw hz
     go_wp2
     go_roundw
     case rel => exact ⟨k + 1, xb, v, u, by omega, by rw [HK1.out], by rw [HK1.out], by go_num, by rw [HK1.out]; exact HL.out, HZ.out, gq⟩
     case measure => simp [intOf]; omega
  ·have hlB : decide (k < l.length) = false := decide_eq_false hl
   obtain rfl : k = l.length := by omega
   rw [List.take_length] at tw ⊢
   have R := ctab_held HONE.out tw (by rw [hz, HH.out])
   rw [← hBB] at R
   have HR := Lib.hid R
   clear R tw hok hbnd H4 hz
   go_wp2
   go_ret2
   exact ⟨_, rfl, HR.out, gq⟩
theorem cof_held (v : Value) (l : List Sec) (w : World) (hv : IsSecs w v l) :
  Calls Tryz.prog 128 #[v] w (OfRes (fun w' p L => TabN CTab w.heap.size w'.heap.size w' p L) l (fun p => .tuple #[p, .int .i64 0]) (fun p => .tuple #[p, .int .i64 23]) w) := by
 by_cases hr : rightS l = true
 ·have hvv := hv
  rcases hv with ⟨rfl, rfl⟩ | ⟨a, cap, rfl, h2, h3, h4⟩
  ·exact absurd hr (by decide)
  ·have cR : ∀ w', B w w' → Calls Tryz.prog 45 #[.slice (some a) l.length cap] w' fun e w'' => e = .returned (.bool true) ∧ B w' w'' := fun w' q => by
    have := right_code (.slice (some a) l.length cap) l w' (hvv.keepB q)
    rwa [hr] at this
   have cH : ∀ w', B w w' → Calls Tryz.prog 149 #[.slice (some a) l.length cap] w' fun e w'' => e = .returned (.int .i64 ((slAll l).length * 100)) ∧ B w' w'' := fun w' q => by
    have := height_code (.slice (some a) l.length cap) l w' (hvv.keepB q) hr
    rwa [← slAll_len l (right_all hr).2.2, Int.mul_comm] at this
   exact (cof_row a cap l w h4 hr cR cH).mono fun e w' ⟨p, h1, h2, h3⟩ => .inl ⟨hr, p, h1, h2, h3⟩
 ·have hr' : rightS l = false := by simpa using hr
  have c := fun w hv => right_code v l w hv
  rw [hr'] at c
  have HV := Lib.hid hv
  have HR := Lib.hid hr'
  clear hv hr hr'
  go_enter Tryz.func128, Tryz.ntmps128
  go_wp2_with fail
  refine (c _ HV.out).mono ?_
  rintro e W1 ⟨rfl, g1⟩
  go_wp2
  go_ret2
  exact .inr ⟨HR.out, rfl, g1⟩
end Go.Proofs.YthlileddhgglnaaGreatDoor
namespace Go.Proofs.YthlileddhgglnaaGreatDoor
open Go.RowKit
theorem cslices_any (p : Value) (L : List (Int × Int)) (w : World) (hb : TBnd L) (ht : CTab w p L) :
  Calls Tryz.prog 25 #[p] w fun e w' => e = .returned (.int .i64 L.length) ∧ B w w' := by
 obtain ⟨b, aL, cL, aH, cH, hn, rfl, h0, h1, h2, h3, h4⟩ := ht
 have hn6 := hb.n
 clear h0 h2 h3 h4 hb
 obtain ⟨N, hN⟩ : ∃ N, L.length = N := ⟨_, rfl⟩
 rw [hN] at h1 hn6 ⊢
 have w2 : IntKind.i64.wrap (N : Int) = (N : Int) := wrapI (by omega) (by omega)
 go_enter Tryz.func25, Tryz.ntmps25
 go_wp2
 go_ret
 exact ⟨rfl, B.refl _⟩
theorem ctall_any (p : Value) (L : List (Int × Int)) (w : World) (ht : CTab w p L) :
  Calls Tryz.prog 32 #[p] w fun e w' => e = .returned (.int .i64 (L.length * 100)) ∧ B w w' := by
 obtain ⟨b, aL, cL, aH, cH, hn, rfl, h0, h1, h2, h3, h4⟩ := ht
 clear h1 h2 h3 h4
 generalize (L.length : Int) * 100 = X at *
 go_enter Tryz.func32, Tryz.ntmps32
 go_wp2
 go_ret
 exact ⟨rfl, B.refl _⟩
end Go.Proofs.YthlileddhgglnaaGreatDoor
namespace Go.Proofs.YthlileddhgglnaaGreatDoor
open Go.RowKit
theorem ofN_code : OfN CTab := cof_held
def Pow10 (W0 : World) : Prop := Lib.TabBelow Tryz.prog W0.heap.size W0 "internal/strconv.uint64pow10" .u64 Lib.pow10Tab
section
variable {c bm base n : Nat} {E : List Ent} {l : List Sec}
theorem ent_tall (w : World) (hC : CacheC CTab w c bm base n E) (e0 : Ent) (he : e0 ∈ E) {x : Nat} (hx : e0.p = .pointer (some ⟨x, 0, none⟩)) :
  Calls Tryz.prog 32 #[.pointer (some ⟨x, 0, none⟩)] w fun e w' => e = .returned (.int .i64 (hsumI e0.l e0.l.length)) ∧ B w w' := by
 have h := hC.ents e0 he
 have ht := h.tab.held.now
 rw [hx] at ht
 have := ctall_any _ _ w ht
 rwa [Int.mul_comm, slAll_len e0.l (right_all h.right).2.2] at this
end
end Go.Proofs.YthlileddhgglnaaGreatDoor
namespace Go.Proofs.YthlileddhgglnaaGreatDoor
open Go.RowKit
theorem r8lower_any (n : Nat) (w : World) : Calls Tryz.prog 89 #[.int .u8 (n : Int)] w fun e w' => e = .returned (.bool (lowN n)) ∧ w = w' := by
 unfold lowN
 by_cases c : 97 ≤ n
 ·have cB : decide ((97 : Int) ≤ (n : Int)) = true := decide_eq_true (by omega)
  have e2 : decide (n ≤ 122) = decide ((n : Int) ≤ 122) := decide_eq_decide.2 (by omega)
  rw [decide_eq_true c, e2, Bool.true_and]
  go_enter Tryz.func89, Tryz.ntmps89
  go_wp2
  go_ret
  exact ⟨rfl, rfl⟩
 ·have cB : decide ((97 : Int) ≤ (n : Int)) = false := decide_eq_false (by omega)
  rw [decide_eq_false c, Bool.false_and]
  go_enter Tryz.func89, Tryz.ntmps89
  go_wp2
  go_ret
  exact ⟨rfl, rfl⟩
theorem r8digit_any (n : Nat) (w : World) : Calls Tryz.prog 90 #[.int .u8 (n : Int)] w fun e w' => e = .returned (.bool (digN n)) ∧ w = w' := by
 unfold digN
 by_cases c : 48 ≤ n
 ·have cB : decide ((48 : Int) ≤ (n : Int)) = true := decide_eq_true (by omega)
  have e2 : decide (n ≤ 57) = decide ((n : Int) ≤ 57) := decide_eq_decide.2 (by omega)
  rw [decide_eq_true c, e2, Bool.true_and]
  go_enter Tryz.func90, Tryz.ntmps90
  go_wp2
  go_ret
  exact ⟨rfl, rfl⟩
 ·have cB : decide ((48 : Int) ≤ (n : Int)) = false := decide_eq_false (by omega)
  rw [decide_eq_false c, Bool.false_and]
  go_enter Tryz.func90, Tryz.ntmps90
  go_wp2
  go_ret
  exact ⟨rfl, rfl⟩
theorem r8name_any (s : ByteArray) (w : World) : Calls Tryz.prog 49 #[.string s] w fun e w' => e = .returned (.bool (nameS s)) ∧ w = w' := by
 by_cases h1 : s.size < 1
 ·have h1B : decide ((s.size : Int) < 1) = true := decide_eq_true (by omega)
  rw [nameS_size (.inl h1)]
  clear h1
  go_enter Tryz.func49, Tryz.ntmps49
  go_wp2
  go_ret
  exact ⟨rfl, rfl⟩
 have h1B : decide ((s.size : Int) < 1) = false := decide_eq_false (by omega)
 by_cases h2 : 16 < s.size
 ·have h2B : decide ((16 : Int) < (s.size : Int)) = true := decide_eq_true (by omega)
  rw [nameS_size (.inr h2)]
  clear h1 h2
  go_enter Tryz.func49, Tryz.ntmps49
  go_wp2
  go_ret
  exact ⟨rfl, rfl⟩
 have h2B : decide ((16 : Int) < (s.size : Int)) = false := decide_eq_false (by omega)
 have hz : (0 : Int) < (s.size : Int) := by omega
 have hg0 : ∀ h : 0 < s.size, (s[0]'h).toNat = byteAt s 0 := fun h => byteAt_get s 0 h
 have c0 := fun w => r8lower_any (byteAt s 0) w
 cases h3 : lowN (byteAt s 0)
 ·rw [nameS_first h3]
  rw [h3] at c0
  generalize byteAt s 0 = b0 at *
  clear h3
  go_enter Tryz.func49, Tryz.ntmps49
  go_wp2_with fail
  refine (c0 _).mono ?_
  rintro e w1 ⟨rfl, rfl⟩
  go_wp2
  go_ret
  exact ⟨rfl, rfl⟩
 rw [h3] at c0
 have hgood := Lib.hid (fun h => nameS_good (s := s) (by omega) (by omega) h3 h)
 have hbad := @nameS_bad s
 generalize byteAt s 0 = b0 at *
 generalize nameS s = R at *
 clear h3 h1
 go_enter Tryz.func49, Tryz.ntmps49
 go_wp2_with fail
 refine (c0 _).mono ?_
 rintro e w1 ⟨rfl, rfl⟩
 clear c0 hg0
 go_wp2
 go_loopw [3] (fun i wr => ∃ k : Nat, k ≤ s.size ∧ i = .int .i64 k ∧ (∀ j, j < k → (lowN (byteAt s j) || digN (byteAt s j)) = true) ∧ w = wr) (fun i _ => s.size + 1 - (intOf i).toNat)
 case atStart => exact ⟨0, Nat.zero_le _, rfl, fun j hj => by omega, rfl⟩
 case round =>
  obtain ⟨k, hk, rfl, hall, rfl⟩ := hrel
  by_cases hl : k < s.size
  ·have hlB : decide ((k : Int) < (s.size : Int)) = true := decide_eq_true (by omega)
   have hlI : (k : Int) < (s.size : Int) := by omega
   have hkB : (0 : Int) ≤ (k : Int) := by omega
   have wk1 : IntKind.i64.wrap ((k : Int) + 1) = (k : Int) + 1 := by rw [IntKind.wrap_i64]; omega
   have hg : ∀ h : k < s.size, (s[k]'h).toNat = byteAt s k := fun h => byteAt_get s k h
   have c1 := fun w => r8lower_any (byteAt s k) w
   have c2 := fun w => r8digit_any (byteAt s k) w
   have hb := hbad hl
   have hnext : (lowN (byteAt s k) || digN (byteAt s k)) = true → ∀ j, j < k + 1 → (lowN (byteAt s j) || digN (byteAt s j)) = true := fun h j hj => by
    by_cases c : j = k
    ·subst c; exact h
    ·exact hall j (by omega)
   clear hall
   generalize byteAt s k = b at *
   cases h4 : lowN b
   ·cases h5 : digN b
    ·rw [h4, h5] at hb
     obtain rfl := hb rfl
     rw [h4] at c1
     rw [h5] at c2
     clear hnext h4 h5
     go_wp2_with fail
     refine (c1 _).mono ?_
     rintro e w1 ⟨rfl, rfl⟩
     go_wp2_with fail
     refine (c2 _).mono ?_
     rintro e w1 ⟨rfl, rfl⟩
     go_wp2
     go_ret
     exact ⟨rfl, rfl⟩
    ·have HA := Lib.hid (hnext (by rw [h4, h5]; rfl))
     rw [h4] at c1
     rw [h5] at c2
     clear hnext h4 h5 hb
     go_wp2_with fail
     refine (c1 _).mono ?_
     rintro e w1 ⟨rfl, rfl⟩
     go_wp2_with fail
     refine (c2 _).mono ?_
     rintro e w1 ⟨rfl, rfl⟩
     go_wp2
     go_roundw
     case rel => exact ⟨k + 1, by omega, by go_num, HA.out, trivial⟩
     case measure => simp [intOf]; omega
   ·have HA := Lib.hid (hnext (by rw [h4]; rfl))
    rw [h4] at c1
    clear hnext h4 hb c2
    go_wp2_with fail
    refine (c1 _).mono ?_
    rintro e w1 ⟨rfl, rfl⟩
    go_wp2
    go_roundw
    case rel => exact ⟨k + 1, by omega, by go_num, HA.out, trivial⟩
    case measure => simp [intOf]; omega
  ·have hlB : decide ((k : Int) < (s.size : Int)) = false := decide_eq_false (by omega)
   have HR := Lib.hid (hgood.out (fun i hi => hall i (by omega)))
   clear hall hgood hbad
   go_wp2
   go_ret
   exact ⟨by rw [HR.out]; rfl, rfl⟩
end Go.Proofs.YthlileddhgglnaaGreatDoor
namespace Go.Proofs.YthlileddhgglnaaGreatDoor
open Go.RowKit
theorem kind_any (n : Nat) (w : World) : Calls Tryz.prog 108 #[.int .u8 (n : Int)] w fun e w' => e = .returned (.int .i64 ((kindN n : Nat) : Int)) ∧ w = w' := by
 have cs : (n < 9) ∨ (n = 9) ∨ (n = 10) ∨ (11 ≤ n ∧ n ≤ 31) ∨ (n = 32) ∨ (33 ≤ n ∧ n ≤ 34) ∨ (n = 35) ∨ (36 ≤ n ∧ n ≤ 45) ∨ (n = 46) ∨ (n = 47) ∨ (48 ≤ n ∧ n ≤ 57) ∨ (58 ≤ n ∧ n ≤ 64) ∨ (65 ≤ n ∧ n ≤ 90) ∨ (91 ≤ n ∧ n ≤ 96) ∨ (97 ≤ n ∧ n ≤ 122) ∨ (122 < n) := by omega
 rcases cs with c | c | c | c | c | c | c | c | c | c | c | c | c | c | c | c
 ·have hk : kindN n = 0 := by unfold kindN lowN capN digN; simp only [Bool.and_eq_true, decide_eq_true_eq]; repeat (first | rw [if_pos (by omega)] | rw [if_neg (by omega)])
  rw [hk]
  have g97 : decide ((97 : Int) ≤ (n : Int)) = false := decide_eq_false (by omega)
  have g65 : decide ((65 : Int) ≤ (n : Int)) = false := decide_eq_false (by omega)
  have g48 : decide ((48 : Int) ≤ (n : Int)) = false := decide_eq_false (by omega)
  have l122 : decide ((n : Int) ≤ 122) = true := decide_eq_true (by omega)
  have l90 : decide ((n : Int) ≤ 90) = true := decide_eq_true (by omega)
  have l57 : decide ((n : Int) ≤ 57) = true := decide_eq_true (by omega)
  have e46 : ((n : Int) == 46) = false := by simp; omega
  have e32 : ((n : Int) == 32) = false := by simp; omega
  have e9 : ((n : Int) == 9) = false := by simp; omega
  have e10 : ((n : Int) == 10) = false := by simp; omega
  have e35 : ((n : Int) == 35) = false := by simp; omega
  clear c hk
  go_enter Tryz.func108, Tryz.ntmps108
  go_wp2
  go_ret
  exact ⟨rfl, rfl⟩
 ·have hk : kindN n = 5 := by unfold kindN lowN capN digN; simp only [Bool.and_eq_true, decide_eq_true_eq]; repeat (first | rw [if_pos (by omega)] | rw [if_neg (by omega)])
  rw [hk]
  have g97 : decide ((97 : Int) ≤ (n : Int)) = false := decide_eq_false (by omega)
  have g65 : decide ((65 : Int) ≤ (n : Int)) = false := decide_eq_false (by omega)
  have g48 : decide ((48 : Int) ≤ (n : Int)) = false := decide_eq_false (by omega)
  have l122 : decide ((n : Int) ≤ 122) = true := decide_eq_true (by omega)
  have l90 : decide ((n : Int) ≤ 90) = true := decide_eq_true (by omega)
  have l57 : decide ((n : Int) ≤ 57) = true := decide_eq_true (by omega)
  have e46 : ((n : Int) == 46) = false := by simp; omega
  have e32 : ((n : Int) == 32) = false := by simp; omega
  have e9 : ((n : Int) == 9) = true := by simp; omega
  have e10 : ((n : Int) == 10) = false := by simp; omega
  have e35 : ((n : Int) == 35) = false := by simp; omega
  clear c hk
  go_enter Tryz.func108, Tryz.ntmps108
  go_wp2
  go_ret
  exact ⟨rfl, rfl⟩
 ·have hk : kindN n = 6 := by unfold kindN lowN capN digN; simp only [Bool.and_eq_true, decide_eq_true_eq]; repeat (first | rw [if_pos (by omega)] | rw [if_neg (by omega)])
  rw [hk]
  have g97 : decide ((97 : Int) ≤ (n : Int)) = false := decide_eq_false (by omega)
  have g65 : decide ((65 : Int) ≤ (n : Int)) = false := decide_eq_false (by omega)
  have g48 : decide ((48 : Int) ≤ (n : Int)) = false := decide_eq_false (by omega)
  have l122 : decide ((n : Int) ≤ 122) = true := decide_eq_true (by omega)
  have l90 : decide ((n : Int) ≤ 90) = true := decide_eq_true (by omega)
  have l57 : decide ((n : Int) ≤ 57) = true := decide_eq_true (by omega)
  have e46 : ((n : Int) == 46) = false := by simp; omega
  have e32 : ((n : Int) == 32) = false := by simp; omega
  have e9 : ((n : Int) == 9) = false := by simp; omega
  have e10 : ((n : Int) == 10) = true := by simp; omega
  have e35 : ((n : Int) == 35) = false := by simp; omega
  clear c hk
  go_enter Tryz.func108, Tryz.ntmps108
  go_wp2
  go_ret
  exact ⟨rfl, rfl⟩
 ·have hk : kindN n = 0 := by unfold kindN lowN capN digN; simp only [Bool.and_eq_true, decide_eq_true_eq]; repeat (first | rw [if_pos (by omega)] | rw [if_neg (by omega)])
  rw [hk]
  have g97 : decide ((97 : Int) ≤ (n : Int)) = false := decide_eq_false (by omega)
  have g65 : decide ((65 : Int) ≤ (n : Int)) = false := decide_eq_false (by omega)
  have g48 : decide ((48 : Int) ≤ (n : Int)) = false := decide_eq_false (by omega)
  have l122 : decide ((n : Int) ≤ 122) = true := decide_eq_true (by omega)
  have l90 : decide ((n : Int) ≤ 90) = true := decide_eq_true (by omega)
  have l57 : decide ((n : Int) ≤ 57) = true := decide_eq_true (by omega)
  have e46 : ((n : Int) == 46) = false := by simp; omega
  have e32 : ((n : Int) == 32) = false := by simp; omega
  have e9 : ((n : Int) == 9) = false := by simp; omega
  have e10 : ((n : Int) == 10) = false := by simp; omega
  have e35 : ((n : Int) == 35) = false := by simp; omega
  clear c hk
  go_enter Tryz.func108, Tryz.ntmps108
  go_wp2
  go_ret
  exact ⟨rfl, rfl⟩
 ·have hk : kindN n = 5 := by unfold kindN lowN capN digN; simp only [Bool.and_eq_true, decide_eq_true_eq]; repeat (first | rw [if_pos (by omega)] | rw [if_neg (by omega)])
  rw [hk]
  have g97 : decide ((97 : Int) ≤ (n : Int)) = false := decide_eq_false (by omega)
  have g65 : decide ((65 : Int) ≤ (n : Int)) = false := decide_eq_false (by omega)
  have g48 : decide ((48 : Int) ≤ (n : Int)) = false := decide_eq_false (by omega)
  have l122 : decide ((n : Int) ≤ 122) = true := decide_eq_true (by omega)
  have l90 : decide ((n : Int) ≤ 90) = true := decide_eq_true (by omega)
  have l57 : decide ((n : Int) ≤ 57) = true := decide_eq_true (by omega)
  have e46 : ((n : Int) == 46) = false := by simp; omega
  have e32 : ((n : Int) == 32) = true := by simp; omega
  have e9 : ((n : Int) == 9) = false := by simp; omega
  have e10 : ((n : Int) == 10) = false := by simp; omega
  have e35 : ((n : Int) == 35) = false := by simp; omega
  clear c hk
  go_enter Tryz.func108, Tryz.ntmps108
  go_wp2
  go_ret
  exact ⟨rfl, rfl⟩
 ·have hk : kindN n = 0 := by unfold kindN lowN capN digN; simp only [Bool.and_eq_true, decide_eq_true_eq]; repeat (first | rw [if_pos (by omega)] | rw [if_neg (by omega)])
  rw [hk]
  have g97 : decide ((97 : Int) ≤ (n : Int)) = false := decide_eq_false (by omega)
  have g65 : decide ((65 : Int) ≤ (n : Int)) = false := decide_eq_false (by omega)
  have g48 : decide ((48 : Int) ≤ (n : Int)) = false := decide_eq_false (by omega)
  have l122 : decide ((n : Int) ≤ 122) = true := decide_eq_true (by omega)
  have l90 : decide ((n : Int) ≤ 90) = true := decide_eq_true (by omega)
  have l57 : decide ((n : Int) ≤ 57) = true := decide_eq_true (by omega)
  have e46 : ((n : Int) == 46) = false := by simp; omega
  have e32 : ((n : Int) == 32) = false := by simp; omega
  have e9 : ((n : Int) == 9) = false := by simp; omega
  have e10 : ((n : Int) == 10) = false := by simp; omega
  have e35 : ((n : Int) == 35) = false := by simp; omega
  clear c hk
  go_enter Tryz.func108, Tryz.ntmps108
  go_wp2
  go_ret
  exact ⟨rfl, rfl⟩
 ·have hk : kindN n = 7 := by unfold kindN lowN capN digN; simp only [Bool.and_eq_true, decide_eq_true_eq]; repeat (first | rw [if_pos (by omega)] | rw [if_neg (by omega)])
  rw [hk]
  have g97 : decide ((97 : Int) ≤ (n : Int)) = false := decide_eq_false (by omega)
  have g65 : decide ((65 : Int) ≤ (n : Int)) = false := decide_eq_false (by omega)
  have g48 : decide ((48 : Int) ≤ (n : Int)) = false := decide_eq_false (by omega)
  have l122 : decide ((n : Int) ≤ 122) = true := decide_eq_true (by omega)
  have l90 : decide ((n : Int) ≤ 90) = true := decide_eq_true (by omega)
  have l57 : decide ((n : Int) ≤ 57) = true := decide_eq_true (by omega)
  have e46 : ((n : Int) == 46) = false := by simp; omega
  have e32 : ((n : Int) == 32) = false := by simp; omega
  have e9 : ((n : Int) == 9) = false := by simp; omega
  have e10 : ((n : Int) == 10) = false := by simp; omega
  have e35 : ((n : Int) == 35) = true := by simp; omega
  clear c hk
  go_enter Tryz.func108, Tryz.ntmps108
  go_wp2
  go_ret
  exact ⟨rfl, rfl⟩
 ·have hk : kindN n = 0 := by unfold kindN lowN capN digN; simp only [Bool.and_eq_true, decide_eq_true_eq]; repeat (first | rw [if_pos (by omega)] | rw [if_neg (by omega)])
  rw [hk]
  have g97 : decide ((97 : Int) ≤ (n : Int)) = false := decide_eq_false (by omega)
  have g65 : decide ((65 : Int) ≤ (n : Int)) = false := decide_eq_false (by omega)
  have g48 : decide ((48 : Int) ≤ (n : Int)) = false := decide_eq_false (by omega)
  have l122 : decide ((n : Int) ≤ 122) = true := decide_eq_true (by omega)
  have l90 : decide ((n : Int) ≤ 90) = true := decide_eq_true (by omega)
  have l57 : decide ((n : Int) ≤ 57) = true := decide_eq_true (by omega)
  have e46 : ((n : Int) == 46) = false := by simp; omega
  have e32 : ((n : Int) == 32) = false := by simp; omega
  have e9 : ((n : Int) == 9) = false := by simp; omega
  have e10 : ((n : Int) == 10) = false := by simp; omega
  have e35 : ((n : Int) == 35) = false := by simp; omega
  clear c hk
  go_enter Tryz.func108, Tryz.ntmps108
  go_wp2
  go_ret
  exact ⟨rfl, rfl⟩
 ·have hk : kindN n = 4 := by unfold kindN lowN capN digN; simp only [Bool.and_eq_true, decide_eq_true_eq]; repeat (first | rw [if_pos (by omega)] | rw [if_neg (by omega)])
  rw [hk]
  have g97 : decide ((97 : Int) ≤ (n : Int)) = false := decide_eq_false (by omega)
  have g65 : decide ((65 : Int) ≤ (n : Int)) = false := decide_eq_false (by omega)
  have g48 : decide ((48 : Int) ≤ (n : Int)) = false := decide_eq_false (by omega)
  have l122 : decide ((n : Int) ≤ 122) = true := decide_eq_true (by omega)
  have l90 : decide ((n : Int) ≤ 90) = true := decide_eq_true (by omega)
  have l57 : decide ((n : Int) ≤ 57) = true := decide_eq_true (by omega)
  have e46 : ((n : Int) == 46) = true := by simp; omega
  have e32 : ((n : Int) == 32) = false := by simp; omega
  have e9 : ((n : Int) == 9) = false := by simp; omega
  have e10 : ((n : Int) == 10) = false := by simp; omega
  have e35 : ((n : Int) == 35) = false := by simp; omega
  clear c hk
  go_enter Tryz.func108, Tryz.ntmps108
  go_wp2
  go_ret
  exact ⟨rfl, rfl⟩
 ·have hk : kindN n = 0 := by unfold kindN lowN capN digN; simp only [Bool.and_eq_true, decide_eq_true_eq]; repeat (first | rw [if_pos (by omega)] | rw [if_neg (by omega)])
  rw [hk]
  have g97 : decide ((97 : Int) ≤ (n : Int)) = false := decide_eq_false (by omega)
  have g65 : decide ((65 : Int) ≤ (n : Int)) = false := decide_eq_false (by omega)
  have g48 : decide ((48 : Int) ≤ (n : Int)) = false := decide_eq_false (by omega)
  have l122 : decide ((n : Int) ≤ 122) = true := decide_eq_true (by omega)
  have l90 : decide ((n : Int) ≤ 90) = true := decide_eq_true (by omega)
  have l57 : decide ((n : Int) ≤ 57) = true := decide_eq_true (by omega)
  have e46 : ((n : Int) == 46) = false := by simp; omega
  have e32 : ((n : Int) == 32) = false := by simp; omega
  have e9 : ((n : Int) == 9) = false := by simp; omega
  have e10 : ((n : Int) == 10) = false := by simp; omega
  have e35 : ((n : Int) == 35) = false := by simp; omega
  clear c hk
  go_enter Tryz.func108, Tryz.ntmps108
  go_wp2
  go_ret
  exact ⟨rfl, rfl⟩
 ·have hk : kindN n = 3 := by unfold kindN lowN capN digN; simp only [Bool.and_eq_true, decide_eq_true_eq]; repeat (first | rw [if_pos (by omega)] | rw [if_neg (by omega)])
  rw [hk]
  have g97 : decide ((97 : Int) ≤ (n : Int)) = false := decide_eq_false (by omega)
  have g65 : decide ((65 : Int) ≤ (n : Int)) = false := decide_eq_false (by omega)
  have g48 : decide ((48 : Int) ≤ (n : Int)) = true := decide_eq_true (by omega)
  have l122 : decide ((n : Int) ≤ 122) = true := decide_eq_true (by omega)
  have l90 : decide ((n : Int) ≤ 90) = true := decide_eq_true (by omega)
  have l57 : decide ((n : Int) ≤ 57) = true := decide_eq_true (by omega)
  have e46 : ((n : Int) == 46) = false := by simp; omega
  have e32 : ((n : Int) == 32) = false := by simp; omega
  have e9 : ((n : Int) == 9) = false := by simp; omega
  have e10 : ((n : Int) == 10) = false := by simp; omega
  have e35 : ((n : Int) == 35) = false := by simp; omega
  clear c hk
  go_enter Tryz.func108, Tryz.ntmps108
  go_wp2
  go_ret
  exact ⟨rfl, rfl⟩
 ·have hk : kindN n = 0 := by unfold kindN lowN capN digN; simp only [Bool.and_eq_true, decide_eq_true_eq]; repeat (first | rw [if_pos (by omega)] | rw [if_neg (by omega)])
  rw [hk]
  have g97 : decide ((97 : Int) ≤ (n : Int)) = false := decide_eq_false (by omega)
  have g65 : decide ((65 : Int) ≤ (n : Int)) = false := decide_eq_false (by omega)
  have g48 : decide ((48 : Int) ≤ (n : Int)) = true := decide_eq_true (by omega)
  have l122 : decide ((n : Int) ≤ 122) = true := decide_eq_true (by omega)
  have l90 : decide ((n : Int) ≤ 90) = true := decide_eq_true (by omega)
  have l57 : decide ((n : Int) ≤ 57) = false := decide_eq_false (by omega)
  have e46 : ((n : Int) == 46) = false := by simp; omega
  have e32 : ((n : Int) == 32) = false := by simp; omega
  have e9 : ((n : Int) == 9) = false := by simp; omega
  have e10 : ((n : Int) == 10) = false := by simp; omega
  have e35 : ((n : Int) == 35) = false := by simp; omega
  clear c hk
  go_enter Tryz.func108, Tryz.ntmps108
  go_wp2
  go_ret
  exact ⟨rfl, rfl⟩
 ·have hk : kindN n = 2 := by unfold kindN lowN capN digN; simp only [Bool.and_eq_true, decide_eq_true_eq]; repeat (first | rw [if_pos (by omega)] | rw [if_neg (by omega)])
  rw [hk]
  have g97 : decide ((97 : Int) ≤ (n : Int)) = false := decide_eq_false (by omega)
  have g65 : decide ((65 : Int) ≤ (n : Int)) = true := decide_eq_true (by omega)
  have g48 : decide ((48 : Int) ≤ (n : Int)) = true := decide_eq_true (by omega)
  have l122 : decide ((n : Int) ≤ 122) = true := decide_eq_true (by omega)
  have l90 : decide ((n : Int) ≤ 90) = true := decide_eq_true (by omega)
  have l57 : decide ((n : Int) ≤ 57) = false := decide_eq_false (by omega)
  have e46 : ((n : Int) == 46) = false := by simp; omega
  have e32 : ((n : Int) == 32) = false := by simp; omega
  have e9 : ((n : Int) == 9) = false := by simp; omega
  have e10 : ((n : Int) == 10) = false := by simp; omega
  have e35 : ((n : Int) == 35) = false := by simp; omega
  clear c hk
  go_enter Tryz.func108, Tryz.ntmps108
  go_wp2
  go_ret
  exact ⟨rfl, rfl⟩
 ·have hk : kindN n = 0 := by unfold kindN lowN capN digN; simp only [Bool.and_eq_true, decide_eq_true_eq]; repeat (first | rw [if_pos (by omega)] | rw [if_neg (by omega)])
  rw [hk]
  have g97 : decide ((97 : Int) ≤ (n : Int)) = false := decide_eq_false (by omega)
  have g65 : decide ((65 : Int) ≤ (n : Int)) = true := decide_eq_true (by omega)
  have g48 : decide ((48 : Int) ≤ (n : Int)) = true := decide_eq_true (by omega)
  have l122 : decide ((n : Int) ≤ 122) = true := decide_eq_true (by omega)
  have l90 : decide ((n : Int) ≤ 90) = false := decide_eq_false (by omega)
  have l57 : decide ((n : Int) ≤ 57) = false := decide_eq_false (by omega)
  have e46 : ((n : Int) == 46) = false := by simp; omega
  have e32 : ((n : Int) == 32) = false := by simp; omega
  have e9 : ((n : Int) == 9) = false := by simp; omega
  have e10 : ((n : Int) == 10) = false := by simp; omega
  have e35 : ((n : Int) == 35) = false := by simp; omega
  clear c hk
  go_enter Tryz.func108, Tryz.ntmps108
  go_wp2
  go_ret
  exact ⟨rfl, rfl⟩
 ·have hk : kindN n = 1 := by unfold kindN lowN capN digN; simp only [Bool.and_eq_true, decide_eq_true_eq]; repeat (first | rw [if_pos (by omega)] | rw [if_neg (by omega)])
  rw [hk]
  have g97 : decide ((97 : Int) ≤ (n : Int)) = true := decide_eq_true (by omega)
  have g65 : decide ((65 : Int) ≤ (n : Int)) = true := decide_eq_true (by omega)
  have g48 : decide ((48 : Int) ≤ (n : Int)) = true := decide_eq_true (by omega)
  have l122 : decide ((n : Int) ≤ 122) = true := decide_eq_true (by omega)
  have l90 : decide ((n : Int) ≤ 90) = false := decide_eq_false (by omega)
  have l57 : decide ((n : Int) ≤ 57) = false := decide_eq_false (by omega)
  have e46 : ((n : Int) == 46) = false := by simp; omega
  have e32 : ((n : Int) == 32) = false := by simp; omega
  have e9 : ((n : Int) == 9) = false := by simp; omega
  have e10 : ((n : Int) == 10) = false := by simp; omega
  have e35 : ((n : Int) == 35) = false := by simp; omega
  clear c hk
  go_enter Tryz.func108, Tryz.ntmps108
  go_wp2
  go_ret
  exact ⟨rfl, rfl⟩
 ·have hk : kindN n = 0 := by unfold kindN lowN capN digN; simp only [Bool.and_eq_true, decide_eq_true_eq]; repeat (first | rw [if_pos (by omega)] | rw [if_neg (by omega)])
  rw [hk]
  have g97 : decide ((97 : Int) ≤ (n : Int)) = true := decide_eq_true (by omega)
  have g65 : decide ((65 : Int) ≤ (n : Int)) = true := decide_eq_true (by omega)
  have g48 : decide ((48 : Int) ≤ (n : Int)) = true := decide_eq_true (by omega)
  have l122 : decide ((n : Int) ≤ 122) = false := decide_eq_false (by omega)
  have l90 : decide ((n : Int) ≤ 90) = false := decide_eq_false (by omega)
  have l57 : decide ((n : Int) ≤ 57) = false := decide_eq_false (by omega)
  have e46 : ((n : Int) == 46) = false := by simp; omega
  have e32 : ((n : Int) == 32) = false := by simp; omega
  have e9 : ((n : Int) == 9) = false := by simp; omega
  have e10 : ((n : Int) == 10) = false := by simp; omega
  have e35 : ((n : Int) == 35) = false := by simp; omega
  clear c hk
  go_enter Tryz.func108, Tryz.ntmps108
  go_wp2
  go_ret
  exact ⟨rfl, rfl⟩
end Go.Proofs.YthlileddhgglnaaGreatDoor
namespace Go.Proofs.YthlileddhgglnaaGreatDoor
open Go.RowKit
theorem B.bytes {a w : World} (h : B a w) (e : TypeId) (s : ByteArray) : B a (Lib.bytesWorld w e s) :=
 ⟨⟨h.below.os, h.below.tape, h.below.output, by rw [Lib.bytesWorld_size]; have := h.below.size; omega, fun k hk => by
  rw [Lib.bytesWorld_at_old w e s k (Nat.lt_of_lt_of_le hk h.below.size)]
  exact h.below.block k hk⟩⟩
theorem kind_dig {n : Nat} : digN n = true ↔ kindN n = 3 := by
 constructor
 ·intro h
  have := digN_iff.1 h
  unfold kindN lowN capN
  simp only [Bool.and_eq_true, decide_eq_true_eq]
  rw [if_neg (by omega), if_neg (by omega), if_pos h]
 ·intro h
  unfold kindN at h
  split at h; · omega
  split at h; · omega
  split at h
  ·assumption
  repeat' (split at h)
  all_goals omega
end Go.Proofs.YthlileddhgglnaaGreatDoor
