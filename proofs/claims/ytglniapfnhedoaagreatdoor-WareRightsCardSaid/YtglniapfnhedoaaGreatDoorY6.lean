/-
 Contracts and what they rest on.
-/
import Derived.Test.YtglniapfnhedoaaGreatDoorY5
namespace Go.Proofs.YtglniapfnhedoaaGreatDoor
open Go.RowKit
set_option linter.unusedVariables false
def fillsF (ws : List Wr) : Nat → List Nat → List Fl
 | _, [] => []
 | i, x :: l => match atW ws (i : Int) with
  | none => fillsF ws (i + 1) l
  | some (n, r, c) => if 0 < x % 6 then ⟨n, r, c, 60000 + ((x / 6 % 200000 : Nat) : Int)⟩ :: fillsF ws (i + 1) l else fillsF ws (i + 1) l
def seatD (a b c d : Int) (l : List Nat) : Dk := ⟨wares7 a b c d, tips7 c d, fillsF (wares7 a b c d) 0 l⟩
theorem fillIF : (Tryz.prog.info? 41).map (fun i => (i.zero, i.size, i.bytes)) = some (some (.agg #[.string ⟨#[]⟩, .int .i64 0, .int .i64 0, .int .i64 0]), 4, 40) := by kernel_rfl
theorem farF {w : World} {b2 : Nat} {e2 t : TypeId} {s2 n2 : Nat} {v2 : Value} {x2 : List Value} {i : Nat} {cs : Array Value} (ho : w.heap[i]? = some (.cells cs t (0, 0))) (h2 : w.ownsRow b2 e2 s2 v2 n2 x2) (he : t ≠ e2) : v2.ownBlock ≠ some i :=
 obj_apart ho h2 (fun e => he (by simpa [kindO] using e))
set_option maxRecDepth 100000 in
set_option maxHeartbeats 8000000 in
theorem deck_any (a b c d : Int) (lv : Value) (ll : List Nat) (h20 : ll.length ≤ 20) (ha : 0 ≤ a ∧ a ≤ 255) (hb : 0 ≤ b ∧ b ≤ 255) (hc : 0 ≤ c ∧ c ≤ 255) (hd : 0 ≤ d ∧ d ≤ 255) (w : World) (hU : IsU32s w lv ll) :
  Calls Tryz.prog 6 #[.int .u8 a, .int .u8 b, .int .u8 c, .int .u8 d, lv] w fun e w' => ∃ wv tv fv, e = .returned (.agg #[wv, tv, fv]) ∧ IsDk w' wv tv fv (seatD a b c d ll) ∧ B w w' := by
 obtain ⟨lao, lcap, rfl, hlm, hU⟩ := hU
 unfold seatD
 obtain ⟨FF, hFF⟩ : ∃ FF, fillsF (wares7 a b c d) 0 ll = FF := ⟨_, rfl⟩
 rw [hFF]
 have cA := fun w => shape_any a ha.1 ha.2 w
 have cB := fun w => shape_any b hb.1 hb.2 w
 have cO := fun w => outer_new c hc.1 hc.2 w
 have cP := fun w => outer_new d hd.1 hd.2 w
 unfold wares7 at hFF
 unfold wares7 tips7 nameT1 nameT2 namePlate nameTube
 unfold namePlate nameTube at hFF
 obtain ⟨cap, ecap⟩ : ∃ x, cap7 c = x := ⟨_, rfl⟩
 obtain ⟨filt, efilt⟩ : ∃ x, filt7 d = x := ⟨_, rfl⟩
 obtain ⟨err, eerr⟩ : ∃ x, err7 d = x := ⟨_, rfl⟩
 rw [ecap, efilt, eerr]
 have pc : (c % 3 = 0 ∧ cap = 200000) ∨ (c % 3 = 1 ∧ cap = 30000) ∨ (c % 3 = 2 ∧ cap = 5000) := by
  unfold cap7 at ecap
  repeat' split at ecap
  all_goals omega
 have pf : (d % 2 = 0 ∧ filt = 60000) ∨ (d % 2 = 1 ∧ filt = 15000) := by unfold filt7 at efilt; split at efilt <;> omega
 have pe : (d / 2 % 3 = 0 ∧ err = 0) ∨ (d / 2 % 3 = 1 ∧ err = 20) ∨ (d / 2 % 3 = 2 ∧ err = 100) := by
  unfold err7 at eerr
  repeat' split at eerr
  all_goals omega
 clear ecap efilt eerr
 generalize shapeOf (a % 6).toNat = la at *
 generalize shapeOf (b % 6).toNat = lb at *
 have hlo := outer_len (c % 3).toNat
 have hlp := outer_len (d % 3).toNat
 generalize outerOf (c % 3).toNat = lo at *
 generalize outerOf (d % 3).toNat = lp at *
 have HF := Lib.hid (show ([] : List Fl) ++ fillsF [⟨⟨#[112, 108, 97, 116, 101]⟩, a / 6 % 3 + 1, b / 6 % 4 + 2, c % 4 * 500, la⟩, ⟨⟨#[116, 117, 98, 101]⟩, 1, c / 4 % 3 + 2, d % 3 * 300, lb⟩] 0 (ll.drop 0) = FF from hFF)
 have hbW : ∀ x ∈ ([⟨⟨#[112, 108, 97, 116, 101]⟩, a / 6 % 3 + 1, b / 6 % 4 + 2, c % 4 * 500, la⟩, ⟨⟨#[116, 117, 98, 101]⟩, 1, c / 4 % 3 + 2, d % 3 * 300, lb⟩] : List Rec), wareB x := by
  intro x hx
  simp only [List.mem_cons, List.not_mem_nil, or_false] at hx
  rcases hx with rfl | rfl
  ·unfold wareB; simp only; omega
  ·unfold wareB; simp only; omega
 clear hFF
 obtain ⟨TL, hTL⟩ : ∃ TL, ((⟨⟨#[116, 49]⟩, cap, filt, err, lo⟩ : Rec) :: if d % 5 = 0 then [] else [⟨⟨#[116, 50]⟩, 50000, 40000, d % 30, lp⟩]) = TL := ⟨_, rfl⟩
 rw [hTL]
 have HTL := Lib.hid hTL
 clear hTL
 go_enter Tryz.func6, Tryz.ntmps6
 go_wp2_with fail
 refine (cA _).mono ?_
 rintro e w1 ⟨v1, rfl, hv1, q1⟩
 obtain ⟨o1, n1, p1, rfl⟩ := hv1.form
 go_wp2_with fail
 refine (cB _).mono ?_
 rintro e w2 ⟨v2, rfl, hv2, q2⟩
 obtain ⟨o2, n2, p2, rfl⟩ := hv2.form
 go_wp2_with fail
 generalize hX : w2.heap.size + 1 = X at *
 obtain ⟨c3, ec3⟩ : ∃ x, c % 3 = x := ⟨_, rfl⟩
 obtain ⟨d2, ed2⟩ : ∃ x, d % 2 = x := ⟨_, rfl⟩
 obtain ⟨dh, edh⟩ : ∃ x, d / 2 = x := ⟨_, rfl⟩
 obtain ⟨dh3, edh3⟩ : ∃ x, dh % 3 = x := ⟨_, rfl⟩
 have tm1 : c.tmod 3 = c3 := by rw [Int.tmod_eq_emod_of_nonneg (by omega)]; exact ec3
 have tm2 : d.tmod 2 = d2 := by rw [Int.tmod_eq_emod_of_nonneg (by omega)]; exact ed2
 have tm3 : IntKind.u8.wrap (d.tdiv 2) = dh := by rw [Int.tdiv_eq_ediv_of_nonneg (by omega), edh, IntKind.wrap_u8]; omega
 have tm4 : dh.tmod 3 = dh3 := by rw [Int.tmod_eq_emod_of_nonneg (by omega)]; exact edh3
 rw [ec3] at pc
 rw [ed2] at pf
 rw [edh, edh3] at pe
 have obX : ((w2.alloc (.cells #[.string ⟨#[112, 108, 97, 116, 101]⟩, .int .i64 (a / 6 % 3 + 1), .int .i64 (b / 6 % 4 + 2), .int .i64 (c % 4 * 500), .slice o1 n1 p1, .string ⟨#[116, 117, 98, 101]⟩, .int .i64 1, .int .i64 (c / 4 % 3 + 2), .int .i64 (d % 3 * 300), .slice o2 n2 p2] 33)).alloc (.cells #[.slice (some ⟨w2.heap.size, 0, none⟩) 2 2, .slice none 0 0, .slice none 0 0] 26)).heap[X]? = some (.cells #[.slice (some ⟨w2.heap.size, 0, none⟩) 2 2, .slice none 0 0, .slice none 0 0] 26 (0, 0)) := by
  rw [← hX, show w2.heap.size + 1 = (w2.alloc (.cells #[.string ⟨#[112, 108, 97, 116, 101]⟩, .int .i64 (a / 6 % 3 + 1), .int .i64 (b / 6 % 4 + 2), .int .i64 (c % 4 * 500), .slice o1 n1 p1, .string ⟨#[116, 117, 98, 101]⟩, .int .i64 1, .int .i64 (c / 4 % 3 + 2), .int .i64 (d % 3 * 300), .slice o2 n2 p2] 33)).heap.size by simp]
  exact obj_new _ _
 have rw0 : IsRecs (w2.alloc (.cells #[.string ⟨#[112, 108, 97, 116, 101]⟩, .int .i64 (a / 6 % 3 + 1), .int .i64 (b / 6 % 4 + 2), .int .i64 (c % 4 * 500), .slice o1 n1 p1, .string ⟨#[116, 117, 98, 101]⟩, .int .i64 1, .int .i64 (c / 4 % 3 + 2), .int .i64 (d % 3 * 300), .slice o2 n2 p2] 33)) (.slice (some ⟨w2.heap.size, 0, none⟩) 2 2) [⟨⟨#[112, 108, 97, 116, 101]⟩, a / 6 % 3 + 1, b / 6 % 4 + 2, c % 4 * 500, la⟩, ⟨⟨#[116, 117, 98, 101]⟩, 1, c / 4 % 3 + 2, d % 3 * 300, lb⟩] := by
  refine recs_cells (L := [⟨⟨#[112, 108, 97, 116, 101]⟩, a / 6 % 3 + 1, b / 6 % 4 + 2, c % 4 * 500, la⟩, ⟨⟨#[116, 117, 98, 101]⟩, 1, c / 4 % 3 + 2, d % 3 * 300, lb⟩]) (vs := [.slice o1 n1 p1, .slice o2 n2 p2]) rfl (by simp) (by simp [maxLen]) (fun j u hj => ?_) (fun i r v hr hv => ?_)
  ·rw [World.cell?_alloc_new]
   simpa [flatR, Rec.cells] using hj
  ·match i with
   | 0 => obtain rfl := Option.some.inj hr; obtain rfl := Option.some.inj hv; exact (hv1.keep q2).keepB ((B.refl _).alloc _ _)
   | 1 => obtain rfl := Option.some.inj hr; obtain rfl := Option.some.inj hv; exact hv2.keepB ((B.refl _).alloc _ _)
   | n + 2 => simp at hr
 have hu0 : B w (w2.alloc (.cells #[.string ⟨#[112, 108, 97, 116, 101]⟩, .int .i64 (a / 6 % 3 + 1), .int .i64 (b / 6 % 4 + 2), .int .i64 (c % 4 * 500), .slice o1 n1 p1, .string ⟨#[116, 117, 98, 101]⟩, .int .i64 1, .int .i64 (c / 4 % 3 + 2), .int .i64 (d % 3 * 300), .slice o2 n2 p2] 33)) := (((((B.refl w).alloc _ _).trans q1.b).trans q2.b).alloc _ _)
 have obR : (w2.alloc (.cells #[.string ⟨#[112, 108, 97, 116, 101]⟩, .int .i64 (a / 6 % 3 + 1), .int .i64 (b / 6 % 4 + 2), .int .i64 (c % 4 * 500), .slice o1 n1 p1, .string ⟨#[116, 117, 98, 101]⟩, .int .i64 1, .int .i64 (c / 4 % 3 + 2), .int .i64 (d % 3 * 300), .slice o2 n2 p2] 33)).heap[w.heap.size]? = some (.cells #[.slice none 0 0, .slice none 0 0, .slice none 0 0] 26 (0, 0)) := (((q1.b.trans q2.b).alloc _ _)).obj (obj_new w _)
 have hRX : w.heap.size < X := by
  have := q1.below.size
  have := q2.below.size
  simp at *
  omega
 have hu0s : (w2.alloc (.cells #[.string ⟨#[112, 108, 97, 116, 101]⟩, .int .i64 (a / 6 % 3 + 1), .int .i64 (b / 6 % 4 + 2), .int .i64 (c % 4 * 500), .slice o1 n1 p1, .string ⟨#[116, 117, 98, 101]⟩, .int .i64 1, .int .i64 (c / 4 % 3 + 2), .int .i64 (d % 3 * 300), .slice o2 n2 p2] 33)).heap.size = X := by rw [← hX]; simp
 have hu1 : B (w2.alloc (.cells #[.string ⟨#[112, 108, 97, 116, 101]⟩, .int .i64 (a / 6 % 3 + 1), .int .i64 (b / 6 % 4 + 2), .int .i64 (c % 4 * 500), .slice o1 n1 p1, .string ⟨#[116, 117, 98, 101]⟩, .int .i64 1, .int .i64 (c / 4 % 3 + 2), .int .i64 (d % 3 * 300), .slice o2 n2 p2] 33)) ((w2.alloc (.cells #[.string ⟨#[112, 108, 97, 116, 101]⟩, .int .i64 (a / 6 % 3 + 1), .int .i64 (b / 6 % 4 + 2), .int .i64 (c % 4 * 500), .slice o1 n1 p1, .string ⟨#[116, 117, 98, 101]⟩, .int .i64 1, .int .i64 (c / 4 % 3 + 2), .int .i64 (d % 3 * 300), .slice o2 n2 p2] 33)).alloc (.cells #[.slice (some ⟨w2.heap.size, 0, none⟩) 2 2, .slice none 0 0, .slice none 0 0] 26)) := (B.refl _).alloc _ _
 have hsz : X + 1 ≤ ((w2.alloc (.cells #[.string ⟨#[112, 108, 97, 116, 101]⟩, .int .i64 (a / 6 % 3 + 1), .int .i64 (b / 6 % 4 + 2), .int .i64 (c % 4 * 500), .slice o1 n1 p1, .string ⟨#[116, 117, 98, 101]⟩, .int .i64 1, .int .i64 (c / 4 % 3 + 2), .int .i64 (d % 3 * 300), .slice o2 n2 p2] 33)).alloc (.cells #[.slice (some ⟨w2.heap.size, 0, none⟩) 2 2, .slice none 0 0, .slice none 0 0] 26)).heap.size := by
  rw [← hX]; simp
 have k1 := obj_cell obX 1
 clear hv1 hv2 q1 q2
 generalize ((w2.alloc (.cells #[.string ⟨#[112, 108, 97, 116, 101]⟩, .int .i64 (a / 6 % 3 + 1), .int .i64 (b / 6 % 4 + 2), .int .i64 (c % 4 * 500), .slice o1 n1 p1, .string ⟨#[116, 117, 98, 101]⟩, .int .i64 1, .int .i64 (c / 4 % 3 + 2), .int .i64 (d % 3 * 300), .slice o2 n2 p2] 33)).alloc (.cells #[.slice (some ⟨w2.heap.size, 0, none⟩) 2 2, .slice none 0 0, .slice none 0 0] 26)) = U1 at *
 generalize (w2.alloc (.cells #[.string ⟨#[112, 108, 97, 116, 101]⟩, .int .i64 (a / 6 % 3 + 1), .int .i64 (b / 6 % 4 + 2), .int .i64 (c % 4 * 500), .slice o1 n1 p1, .string ⟨#[116, 117, 98, 101]⟩, .int .i64 1, .int .i64 (c / 4 % 3 + 2), .int .i64 (d % 3 * 300), .slice o2 n2 p2] 33)) = U0 at *
 generalize w2.heap.size = Wb at *
 refine wp_region_noPanic ?_
 refine wp_region_slots [(0, 46), (1, 47), (2, 48), (3, 49), (4, 50), (5, 51), (6, 52), (7, 53), (8, 54), (9, 55), (10, 56), (11, 57), (12, 58), (13, 59), (14, 60), (15, 61), (16, 62), (17, 63), (18, 64), (19, 65), (20, 66), (21, 67)] [(22, 2), (23, 0), (24, 2)] [0, 1, 0, 0, 8, 20, 32, 0, 0, 256, 640, 1024, 0, 0, 8192, 16384, 36864, 65536, 0, 262144, 657472, 1048576, 2621442, 8388607, 16777215] [0, 1, 0, 0, 8, 20, 32, 0, 0, 256, 640, 1024, 0, 0, 8192, 16384, 36864, 65536, 0, 262144, 657472, 1048576, 2097154, 0, 12582912] [0, 1, 0, 0, 8, 28, 60, 0, 0, 256, 896, 1920, 0, 0, 8192, 24576, 61440, 126976, 0, 262144, 1048572, 2097148, 4194303, 8388607, 16777215] 4194303 [(fun v _ => v = .pointer (some ⟨X, 1, none⟩)), (fun v _ => v = .slice none 0 0), (Lits 3 [.int .i64 200000, .int .i64 30000, .int .i64 5000]), (fun v _ => v = .int .u8 c), (fun v _ => v = .int .u8 c3), (PtrTo (.int .i64 cap)), (fun v _ => v = .int .i64 cap), (Lits 2 [.int .i64 60000, .int .i64 15000]), (fun v _ => v = .int .u8 d), (fun v _ => v = .int .u8 d2), (PtrTo (.int .i64 filt)), (fun v _ => v = .int .i64 filt), (Lits 3 [.int .i64 0, .int .i64 20, .int .i64 100]), (fun v _ => v = .int .u8 d), (fun v _ => v = .int .u8 dh), (fun v _ => v = .int .u8 dh3), (PtrTo (.int .i64 err)), (fun v _ => v = .int .i64 err), (fun v _ => v = .int .u8 c), (SecsV (X + 1) lo), (RecV (X + 1) ⟨⟨#[116, 49]⟩, cap, filt, err, lo⟩), (RecRow (X + 1) ⟨⟨#[116, 49]⟩, cap, filt, err, lo⟩)] (by kernel_rfl) (by kernel_rfl) (fun _ _ _ _ h => h) ⟨slot_val _, slot_val _, slot_lits _ _, slot_val _, slot_val _, slot_ptr _, slot_val _, slot_lits _ _, slot_val _, slot_val _, slot_ptr _, slot_val _, slot_lits _ _, slot_val _, slot_val _, slot_val _, slot_ptr _, slot_val _, slot_val _, slot_secs _ _, slot_rec _ _, slot_recrow _ _, trivial⟩ ⟨?_, ?_, ?_, ?_, ?_, ?_, ?_, ?_, ?_, ?_, ?_, ?_, ?_, ?_, ?_, ?_, ?_, ?_, ?_, ?_, ?_, ?_, trivial⟩ ?_
 ·intro f w' hf hB
  clear hf
  refine slot_op rfl (fun _ => rfl) (fun T hT K hK => ?_)
  simp only [putsL, List.set_cons_zero, List.set_cons_succ] at hT
  subst hT
  go_simp
  exact hK.out _ _ rfl (B.refl _)
 ·intro f w' hf hB
  have h0 := hf (0, 46) (by simp) (by rfl)
  clear hf
  have e0 : f 0 = _ := h0
  have k1 := hB.keep k1
  refine slot_op rfl (fun _ => rfl) (fun T hT K hK => ?_)
  simp only [putsL, List.set_cons_zero, List.set_cons_succ, e0] at hT
  subst hT
  go_simp
  exact hK.out _ _ rfl (B.refl _)
 ·intro f w' hf hB
  clear hf
  refine slot_op rfl (fun _ => rfl) (fun T hT K hK => ?_)
  simp only [putsL, List.set_cons_zero, List.set_cons_succ] at hT
  subst hT
  go_simp
  refine hK.out _ _ ⟨_, rfl, fun j u hj => ?_⟩ ((B.refl _).alloc _ _)
  rw [World.cell?_alloc_new]
  simpa using hj
 ·intro f w' hf hB
  clear hf
  refine slot_op rfl (fun _ => rfl) (fun T hT K hK => ?_)
  simp only [putsL, List.set_cons_zero, List.set_cons_succ] at hT
  subst hT
  go_simp
  exact hK.out _ _ rfl (B.refl _)
 ·intro f w' hf hB
  have h3 := hf (3, 49) (by simp) (by rfl)
  clear hf
  have e3 : f 3 = _ := h3
  refine slot_op rfl (fun _ => rfl) (fun T hT K hK => ?_)
  simp only [putsL, List.set_cons_zero, List.set_cons_succ, e3] at hT
  subst hT
  go_simp
  exact hK.out _ _ rfl (B.refl _)
 ·intro f w' hf hB
  have h2 := hf (2, 48) (by simp) (by rfl)
  have h4 := hf (4, 50) (by simp) (by rfl)
  clear hf
  obtain ⟨b, e2, hc⟩ := h2
  have e4 : f 4 = _ := h4
  refine slot_op rfl (fun _ => rfl) (fun T hT K hK => ?_)
  simp only [putsL, List.set_cons_zero, List.set_cons_succ, e2, e4] at hT
  subst hT
  rcases pc with ⟨r1, r2⟩ | ⟨r1, r2⟩ | ⟨r1, r2⟩
  ·subst r1 r2
   have hk := hc 0 _ rfl
   go_simp
   exact hK.out _ _ ⟨_, rfl, hk⟩ (B.refl _)
  ·subst r1 r2
   have hk := hc 1 _ rfl
   go_simp
   exact hK.out _ _ ⟨_, rfl, hk⟩ (B.refl _)
  ·subst r1 r2
   have hk := hc 2 _ rfl
   go_simp
   exact hK.out _ _ ⟨_, rfl, hk⟩ (B.refl _)
 ·intro f w' hf hB
  have h5 := hf (5, 51) (by simp) (by rfl)
  clear hf
  obtain ⟨p, e5, hc⟩ := h5
  refine slot_op rfl (fun _ => rfl) (fun T hT K hK => ?_)
  simp only [putsL, List.set_cons_zero, List.set_cons_succ, e5] at hT
  subst hT
  go_simp
  exact hK.out _ _ rfl (B.refl _)
 ·intro f w' hf hB
  clear hf
  refine slot_op rfl (fun _ => rfl) (fun T hT K hK => ?_)
  simp only [putsL, List.set_cons_zero, List.set_cons_succ] at hT
  subst hT
  go_simp
  refine hK.out _ _ ⟨_, rfl, fun j u hj => ?_⟩ ((B.refl _).alloc _ _)
  rw [World.cell?_alloc_new]
  simpa using hj
 ·intro f w' hf hB
  clear hf
  refine slot_op rfl (fun _ => rfl) (fun T hT K hK => ?_)
  simp only [putsL, List.set_cons_zero, List.set_cons_succ] at hT
  subst hT
  go_simp
  exact hK.out _ _ rfl (B.refl _)
 ·intro f w' hf hB
  have h8 := hf (8, 54) (by simp) (by rfl)
  clear hf
  have e8 : f 8 = _ := h8
  refine slot_op rfl (fun _ => rfl) (fun T hT K hK => ?_)
  simp only [putsL, List.set_cons_zero, List.set_cons_succ, e8] at hT
  subst hT
  go_simp
  exact hK.out _ _ rfl (B.refl _)
 ·intro f w' hf hB
  have h7 := hf (7, 53) (by simp) (by rfl)
  have h9 := hf (9, 55) (by simp) (by rfl)
  clear hf
  obtain ⟨b, e7, hc⟩ := h7
  have e9 : f 9 = _ := h9
  refine slot_op rfl (fun _ => rfl) (fun T hT K hK => ?_)
  simp only [putsL, List.set_cons_zero, List.set_cons_succ, e7, e9] at hT
  subst hT
  rcases pf with ⟨r1, r2⟩ | ⟨r1, r2⟩
  ·subst r1 r2
   have hk := hc 0 _ rfl
   go_simp
   exact hK.out _ _ ⟨_, rfl, hk⟩ (B.refl _)
  ·subst r1 r2
   have hk := hc 1 _ rfl
   go_simp
   exact hK.out _ _ ⟨_, rfl, hk⟩ (B.refl _)
 ·intro f w' hf hB
  have h10 := hf (10, 56) (by simp) (by rfl)
  clear hf
  obtain ⟨p, e10, hc⟩ := h10
  refine slot_op rfl (fun _ => rfl) (fun T hT K hK => ?_)
  simp only [putsL, List.set_cons_zero, List.set_cons_succ, e10] at hT
  subst hT
  go_simp
  exact hK.out _ _ rfl (B.refl _)
 ·intro f w' hf hB
  clear hf
  refine slot_op rfl (fun _ => rfl) (fun T hT K hK => ?_)
  simp only [putsL, List.set_cons_zero, List.set_cons_succ] at hT
  subst hT
  go_simp
  refine hK.out _ _ ⟨_, rfl, fun j u hj => ?_⟩ ((B.refl _).alloc _ _)
  rw [World.cell?_alloc_new]
  simpa using hj
 ·intro f w' hf hB
  clear hf
  refine slot_op rfl (fun _ => rfl) (fun T hT K hK => ?_)
  simp only [putsL, List.set_cons_zero, List.set_cons_succ] at hT
  subst hT
  go_simp
  exact hK.out _ _ rfl (B.refl _)
 ·intro f w' hf hB
  have h13 := hf (13, 59) (by simp) (by rfl)
  clear hf
  have e13 : f 13 = _ := h13
  refine slot_op rfl (fun _ => rfl) (fun T hT K hK => ?_)
  simp only [putsL, List.set_cons_zero, List.set_cons_succ, e13] at hT
  subst hT
  go_simp
  exact hK.out _ _ rfl (B.refl _)
 ·intro f w' hf hB
  have h14 := hf (14, 60) (by simp) (by rfl)
  clear hf
  have e14 : f 14 = _ := h14
  refine slot_op rfl (fun _ => rfl) (fun T hT K hK => ?_)
  simp only [putsL, List.set_cons_zero, List.set_cons_succ, e14] at hT
  subst hT
  go_simp
  exact hK.out _ _ rfl (B.refl _)
 ·intro f w' hf hB
  have h12 := hf (12, 58) (by simp) (by rfl)
  have h15 := hf (15, 61) (by simp) (by rfl)
  clear hf
  obtain ⟨b, e12, hc⟩ := h12
  have e15 : f 15 = _ := h15
  refine slot_op rfl (fun _ => rfl) (fun T hT K hK => ?_)
  simp only [putsL, List.set_cons_zero, List.set_cons_succ, e12, e15] at hT
  subst hT
  rcases pe with ⟨r1, r2⟩ | ⟨r1, r2⟩ | ⟨r1, r2⟩
  ·subst r1 r2
   have hk := hc 0 _ rfl
   go_simp
   exact hK.out _ _ ⟨_, rfl, hk⟩ (B.refl _)
  ·subst r1 r2
   have hk := hc 1 _ rfl
   go_simp
   exact hK.out _ _ ⟨_, rfl, hk⟩ (B.refl _)
  ·subst r1 r2
   have hk := hc 2 _ rfl
   go_simp
   exact hK.out _ _ ⟨_, rfl, hk⟩ (B.refl _)
 ·intro f w' hf hB
  have h16 := hf (16, 62) (by simp) (by rfl)
  clear hf
  obtain ⟨p, e16, hc⟩ := h16
  refine slot_op rfl (fun _ => rfl) (fun T hT K hK => ?_)
  simp only [putsL, List.set_cons_zero, List.set_cons_succ, e16] at hT
  subst hT
  go_simp
  exact hK.out _ _ rfl (B.refl _)
 ·intro f w' hf hB
  clear hf
  refine slot_op rfl (fun _ => rfl) (fun T hT K hK => ?_)
  simp only [putsL, List.set_cons_zero, List.set_cons_succ] at hT
  subst hT
  go_simp
  exact hK.out _ _ rfl (B.refl _)
 ·intro f w' hf hB
  have h18 := hf (18, 64) (by simp) (by rfl)
  clear hf
  have e18 : f 18 = _ := h18
  refine slot_op rfl (fun _ => rfl) (fun T hT K hK => ?_)
  simp only [putsL, List.set_cons_zero, List.set_cons_succ, e18] at hT
  subst hT
  go_simp
  (with_reducible refine (cO _).mono ?_)
  rintro e w2 ⟨vo, rfl, hvo, q, hbo⟩
  obtain ⟨oo, no, po, rfl⟩ := hvo.form
  exact hK.out _ _ ⟨_, _, _, rfl, hvo, fun b hb => ⟨Nat.le_trans hsz (Nat.le_trans hB.below.size (hbo b hb)), secs_lt hvo hlo hb⟩⟩ q.b
 ·intro f w' hf hB
  have h6 := hf (6, 52) (by simp) (by rfl)
  have h11 := hf (11, 57) (by simp) (by rfl)
  have h17 := hf (17, 63) (by simp) (by rfl)
  have h19 := hf (19, 65) (by simp) (by rfl)
  clear hf
  have e6 : f 6 = _ := h6
  have e11 : f 11 = _ := h11
  have e17 : f 17 = _ := h17
  obtain ⟨oo, no, po, e19, hvo, hbo⟩ := h19
  refine slot_op rfl (fun _ => rfl) (fun T hT K hK => ?_)
  simp only [putsL, List.set_cons_zero, List.set_cons_succ, e6, e11, e17, e19] at hT
  subst hT
  go_simp
  exact hK.out _ _ ⟨oo, no, po, rfl, hvo, hbo⟩ (B.refl _)
 ·intro f w' hf hB
  have h20 := hf (20, 66) (by simp) (by rfl)
  clear hf
  obtain ⟨oo, no, po, e20, hvo, hbo⟩ := h20
  refine slot_op rfl (fun _ => rfl) (fun T hT K hK => ?_)
  simp only [putsL, List.set_cons_zero, List.set_cons_succ, e20] at hT
  subst hT
  go_simp
  refine hK.out _ _ ⟨_, oo, no, po, rfl, fun j u hj => ?_, hvo.keepB ((B.refl _).alloc _ _), fun b hb => ⟨(hbo b hb).1, Nat.lt_of_lt_of_le (hbo b hb).2 ((B.refl _).alloc _ _).below.size⟩⟩ ((B.refl _).alloc _ _)
  rw [World.cell?_alloc_new]
  simpa [Rec.cells] using hj
 ·intro f w' hf hB T hT
  have h1 : f 1 = _ := hf (1, 47) (by simp)
  have h21 := hf (21, 67) (by simp)
  obtain ⟨B1, oo, no, po, e21, hcs, hvo, hbo⟩ := h21
  clear hf
  simp only [putsL, List.set_cons_zero, List.set_cons_succ, h1, e21] at hT
  subst hT
  obtain ⟨i0, hi0, hz0, hz1, hz2⟩ := info_parts tipInfo
  have hX' := hB.obj obX
  refine wpSeq_call rfl (by kernel_rfl) (fun K hK => ?_)
  refine wp_append_lies _ (.tmp 47) (.tmp 67) 23 rfl U0.heap.size 35 i0 _ 5 64 Tryz.underlying23 hi0 hz0 hz1 hz2 rfl (by omega) (.slice none 0 0) 0 [] rfl (World.ownsRow_nil _ _ _ _) ⟨B1, 0, none⟩ 1 1 (Rec.cells ⟨⟨#[116, 49]⟩, cap, filt, err, lo⟩ (.slice oo no po)) rfl rfl (fun j u hj => by rw [add0]; exact hcs j u hj) (by simp [Rec.cells, Value.oneCell']) (by omega) (by unfold maxLen; omega) (by omega) (Nat.le_trans hu1.below.size hB.below.size) _ rfl (fun g cp w3 hown hgrow hat hlt => ?_)
  refine hK.out _ _ trivial (fun _ => ?_)
  clear hK
  have q3 : B w' w3 := (B.refl w').grownBy hgrow (fun k hk => by cases hk)
  have hgX : X < g := by
   rcases hat with h | h
   ·cases h
   ·have := hB.below.size; omega
  have ob3 := q3.obj hX'
  have kX1 := obj_cell ob3 1
  have fX1 := obj_free ob3 1
  refine wpSeq_take (d := 69) rfl rfl (by kernel_rfl) (fun w hS => by go_simp <;> with_reducible rfl) ?_
  dsimp only [sZ, sS]
  refine wpSeq_call rfl (by kernel_rfl) (fun K hK => ?_)
  go_simp
  refine hK.out _ _ trivial (fun _ => ?_)
  clear hK
  refine wpSeq_done ?_
  refine NoPanic.normal ?_
  have sX : X < w'.heap.size := by have := hB.below.size; omega
  have b4 : B U0 (w3.setCell ⟨X, 1, none⟩ (.slice (some ⟨g, 0, none⟩) 1 cp)) := ((hu1.trans hB).trans q3).setCell (by rw [hu0s]; exact Nat.le_refl _) _
  have ob4 := obj_set ob3 1 (.slice (some ⟨g, 0, none⟩) 1 cp)
  simp only [List.setIfInBounds_toArray, List.set_cons_succ, List.set_cons_zero] at ob4
  have own4 := ownsRow_setCell_other hown (a := ⟨X, 1, none⟩) (by simp [Value.ownBlock]; omega) (.slice (some ⟨g, 0, none⟩) (0 + 1) cp)
  have gX : G (fun i => i = X) w' (w3.setCell ⟨X, 1, none⟩ (.slice (some ⟨g, 0, none⟩) 1 cp)) := G.setCell (S := fun i => i = X) (p := ⟨X, 1, none⟩) (q3.g _) (.inl rfl) _
  have hv4 := isSecs_keepOwn hvo (fun b hb => by have := (hbo b hb).1; omega) gX
  have hb4 : ∀ b, (Value.slice oo no po).ownBlock = some b → X + 1 ≤ b ∧ b < g := fun b hb => by
   have := hbo b hb
   rcases hat with h | h
   ·cases h
   ·omega
  have s4 : g < (w3.setCell ⟨X, 1, none⟩ (.slice (some ⟨g, 0, none⟩) 1 cp)).heap.size := by simpa [World.setCell] using hlt
  simp only [Nat.zero_add] at own4
  replace hv4 : IsSecs (w3.setCell ⟨X, 1, none⟩ (.slice (some ⟨g, 0, none⟩) 1 cp)) (.slice oo no po) lo := hv4
  replace own4 : (w3.setCell ⟨X, 1, none⟩ (.slice (some ⟨g, 0, none⟩) 1 cp)).ownsRow U0.heap.size 35 5 (.slice (some ⟨g, 0, none⟩) 1 cp) 1 (flatR [⟨⟨#[116, 49]⟩, cap, filt, err, lo⟩] [.slice oo no po]) := own4
  clear hX' hvo hbo gX kX1 fX1 ob3 q3 hgrow hat hown hlt hB hcs e21 h1 sX obX k1 hu1 hsz
  generalize w3.setCell ⟨X, 1, none⟩ (.slice (some ⟨g, 0, none⟩) 1 cp) = W4 at *
  clear cA cB
  have obR4 := b4.obj obR
  have wr4 := rw0.keepB b4
  have b04 := hu0.trans b4
  by_cases h5 : d % 5 = 0
  ·have tm5 : d.tmod 5 = 0 := by rw [Int.tmod_eq_emod_of_nonneg (by omega)]; exact h5
   have tp4 : IsRecs W4 (.slice (some ⟨g, 0, none⟩) 1 cp) [⟨⟨#[116, 49]⟩, cap, filt, err, lo⟩] := recs_own (L := [⟨⟨#[116, 49]⟩, cap, filt, err, lo⟩]) (vs := [.slice oo no po]) own4 (by omega) rfl rfl (fun i r v hr hv => by
    match i with
    | 0 => obtain rfl := Option.some.inj hr; obtain rfl := Option.some.inj hv; exact hv4
    | n + 1 => simp at hr)
   have tpT : IsRecs W4 (.slice (some ⟨g, 0, none⟩) 1 cp) TL := by
    have e := HTL.out
    rw [if_pos h5] at e
    rw [← e]; exact tp4
   clear h5 hz0 hi0 hz1 hz2 pc pf pe tm1 tm2 tm3 tm4 ec3 ed2 edh edh3 cO cP own4 hv4 rw0 b4 hu0 hu0s obR hX
   have hnoX : ∀ i, i = X → ∀ k, (∀ r, W4.cell? ⟨i, k, none⟩ ≠ some (.bool r)) ∧ ∀ s, W4.cell? ⟨i, k, none⟩ ≠ some (.string s) := by
    rintro i rfl k
    rw [obj_cell ob4 k]
    match k with
    | 0 => exact ⟨by simp, by simp⟩
    | 1 => exact ⟨by simp, by simp⟩
    | 2 => exact ⟨by simp, by simp⟩
    | n + 3 => exact ⟨by simp, by simp⟩
   obtain ⟨i0f, hi0f, hz0f, hz1f, hz2f⟩ := info_of fillIF
   have hRne : ¬ w.heap.size = X := by omega
   have hXW := obj_lt ob4
   obtain ⟨base, hbase⟩ : ∃ base, W4.heap.size = base := ⟨_, rfl⟩
   obtain ⟨WL, hWL⟩ : ∃ WL : List Rec, [⟨⟨#[112, 108, 97, 116, 101]⟩, a / 6 % 3 + 1, b / 6 % 4 + 2, c % 4 * 500, la⟩, ⟨⟨#[116, 117, 98, 101]⟩, 1, c / 4 % 3 + 2, d % 3 * 300, lb⟩] = WL := ⟨_, rfl⟩
   have hF0 := HF.out
   rw [hWL] at wr4 hbW hF0
   replace hWL := Lib.hid hWL
   obtain ⟨wsv, hwsv⟩ : ∃ wsv : Value, .slice (some ⟨Wb, 0, none⟩) 2 2 = wsv := ⟨_, rfl⟩
   obtain ⟨tsv, htsv⟩ : ∃ tsv : Value, .slice (some ⟨g, 0, none⟩) 1 cp = tsv := ⟨_, rfl⟩
   rw [hwsv] at wr4
   rw [htsv] at tpT
   have ob9 : W4.heap[X]? = some (.cells #[wsv, tsv, .slice none 0 0] 26 (0, 0)) := by rw [← hwsv, ← htsv]; exact ob4
   clear hwsv htsv ob4 HF HTL
   go_wp2_with fail
   go_loopw [12] (fun iv wr => ∃ (i : Nat) (fv : Value) (fs : List Fl), i ≤ ll.length ∧ iv = .int .i64 i ∧ G (fun k => k = X) W4 wr ∧ wr.heap[X]? = some (.cells #[wsv, tsv, fv] 26 (0, 0)) ∧ wr.ownsRow base 41 4 fv fs.length (flatF fs) ∧ fs ++ fillsF WL i (ll.drop i) = FF ∧ fs.length ≤ i) (fun iv _ => ll.length + 1 - (intOf iv).toNat)
   case atStart => exact ⟨0, .slice none 0 0, [], Nat.zero_le _, rfl, G.refl _ _, ob9, World.ownsRow_nil _ _ _ _, hF0, Nat.zero_le _⟩
   case round =>
    obtain ⟨i, fv, fs, hi, rfl, hG, oX, hown, hF, hfi⟩ := hrel
    clear hF0 ob9
    have bwr : B w wr := hG.b b04 (fun k hk => by omega)
    have oRr := hG.obj (b := w.heap.size) hRne obR4
    have hDk : IsDk wr wsv tsv fv ⟨WL, TL, fs⟩ := ⟨isRecs_keepG wr4 hnoX hG, isRecs_keepG tpT hnoX hG, isFls_own hown⟩
    have y0 : wr.cell? ⟨X, 0, none⟩ = some wsv := obj_cell oX 0
    have y1 : wr.cell? ⟨X, 1, none⟩ = some tsv := obj_cell oX 1
    have y2 : wr.cell? ⟨X, 2, none⟩ = some fv := obj_cell oX 2
    by_cases hl : i < ll.length
    ·have hlB : decide ((i : Int) < (ll.length : Int)) = true := decide_eq_true (by omega)
     have hlN : decide (i < ll.length) = true := decide_eq_true hl
     have hlI : (i : Int) < (ll.length : Int) := by omega
     have hi0 : (0 : Int) ≤ (i : Int) := by omega
     have wk1 : IntKind.i64.wrap ((i : Int) + 1) = (i : Int) + 1 := by rw [IntKind.wrap_i64]; omega
     obtain ⟨x, hx⟩ : ∃ x, ll[i] = x := ⟨_, rfl⟩
     have hxe : ll[i]? = some x := by rw [List.getElem?_eq_getElem hl, hx]
     obtain ⟨hx32, lb, lo', hla, hcx⟩ := hU i x hxe
     subst hla
     have hcr := bwr.keep hcx
     have hdrop : ll.drop i = x :: ll.drop (i + 1) := by rw [List.drop_eq_getElem_cons hl, hx]
     rw [hdrop] at hF
     unfold fillsF at hF
     have cAt := r8at_any wsv tsv fv ⟨WL, TL, fs⟩ (i : Int) (by unfold I64; omega) wr hDk hbW
     clear hx hxe hdrop hcx
     simp only at cAt
     cases hat : atW WL (i : Int) with
     | none =>
      rw [hat] at cAt hF
      unfold wellV at cAt
      simp only [Option.isSome_none] at cAt
      go_wp2_with fail
      refine cAt.mono ?_
      rintro _ w5 ⟨rfl, q5⟩
      clear cAt
      have q6 := q5.alloc #[.string ⟨#[]⟩, .int .i64 0, .int .i64 0] 39
      have HZ := Lib.hid (And.intro (hG.trans (q6.g _)) (And.intro (q6.obj oX) (And.intro (ownsRow_keepB hown q6) (And.intro hF (And.intro hfi hl)))))
      clear hG oX hown hF hfi hl hDk bwr oRr q5 q6
      go_wp2
      go_roundw
      case rel =>
       obtain ⟨h1, h2, h3, h4, h5, h6⟩ := HZ.out
       exact ⟨i + 1, fv, fs, by omega, by go_num, h1, h2, h3, h4, by omega⟩
      case measure => have := HZ.out; simp [intOf]; omega
     | some nrc =>
      obtain ⟨n, r, cc⟩ := nrc
      rw [hat] at cAt hF
      dsimp only at hF
      unfold wellV at cAt
      simp only [Option.isSome_some] at cAt
      obtain ⟨r6, hr6⟩ : ∃ r6 : Nat, x % 6 = r6 := ⟨_, rfl⟩
      have rm6 : (x : Int).tmod 6 = (r6 : Int) := by rw [Int.tmod_eq_emod_of_nonneg (by omega)]; omega
      by_cases hz : r6 = 0
      ·have hrB : decide ((0 : Int) < (r6 : Int)) = false := decide_eq_false (by omega)
       have hrN : decide (0 < r6) = false := decide_eq_false (by omega)
       rw [hr6, if_neg (by omega)] at hF
       clear hr6 hz
       go_wp2_with fail
       refine cAt.mono ?_
       rintro _ w5 ⟨rfl, q5⟩
       clear cAt
       have q6 := q5.alloc #[.string n, .int .i64 r, .int .i64 cc] 39
       have hcx6 := q6.keep hcr
       have hcx5 := q5.keep hcr
       have HZ := Lib.hid (And.intro (hG.trans (q6.g _)) (And.intro (q6.obj oX) (And.intro (ownsRow_keepB hown q6) (And.intro hF (And.intro hfi hl)))))
       clear hG oX hown hF hfi hl hDk bwr oRr q5 q6
       go_wp2
       go_roundw
       case rel =>
        obtain ⟨h1, h2, h3, h4, h5, h6⟩ := HZ.out
        exact ⟨i + 1, fv, fs, by omega, by go_num, h1, h2, h3, h4, by omega⟩
       case measure => have := HZ.out; simp [intOf]; omega
      ·have hrB : decide ((0 : Int) < (r6 : Int)) = true := decide_eq_true (by omega)
       have hrN : decide (0 < r6) = true := decide_eq_true (by omega)
       rw [hr6, if_pos (by omega)] at hF
       obtain ⟨dq, hdq⟩ : ∃ dq : Nat, x / 6 = dq := ⟨_, rfl⟩
       obtain ⟨dm, hdm⟩ : ∃ dm : Nat, dq % 200000 = dm := ⟨_, rfl⟩
       rw [hdq, hdm] at hF
       have n1 : IntKind.u32.wrap ((x : Int).tdiv 6) = (dq : Int) := by rw [Int.tdiv_eq_ediv_of_nonneg (by omega), IntKind.wrap_u32]; omega
       have n1' : IntKind.u32.wrap ((x : Int) / 6) = (dq : Int) := by rw [IntKind.wrap_u32]; omega
       have n2 : (dq : Int).tmod 200000 = (dm : Int) := by rw [Int.tmod_eq_emod_of_nonneg (by omega)]; omega
       have n3 : IntKind.i64.wrap (dm : Int) = (dm : Int) := by rw [IntKind.wrap_i64]; omega
       obtain ⟨VV, hVV⟩ : ∃ VV : Int, 60000 + (dm : Int) = VV := ⟨_, rfl⟩
       have n4 : IntKind.i64.wrap (60000 + (dm : Int)) = VV := by rw [IntKind.wrap_i64]; omega
       rw [hVV] at hF
       clear hr6 hz hdq hdm hVV
       go_wp2_with fail
       refine cAt.mono ?_
       rintro _ w5 ⟨rfl, q5⟩
       clear cAt
       have q6 := q5.alloc #[.string n, .int .i64 r, .int .i64 cc] 39
       have oN := obj_new w5 (.cells #[.string n, .int .i64 r, .int .i64 cc] 39)
       have hcx6 := q6.keep hcr
       have hcx5 := q5.keep hcr
       have hG6 := hG.trans (q6.g _)
       have oX6 := q6.obj oX
       have own6 := ownsRow_keepB hown q6
       have HZ := Lib.hid (And.intro hG6 (And.intro oX6 (And.intro own6 (And.intro hF (And.intro hfi (And.intro hl oN))))))
       clear hG6 oX6 own6 oN hG oX hown hF hDk bwr oRr q5 q6 y0 y1 y2
       go_wp2_with fail
       obtain ⟨hG6, oX6, own6, hF, hfi, hl, oN⟩ := HZ.out
       clear HZ hcx5 hcr
       generalize w5.alloc (.cells #[.string n, .int .i64 r, .int .i64 cc] 39) = w6 at *
       generalize w5.heap.size = N at *
       have qA : B w6 (w6.drew.alloc (.cells #[.string n, .int .i64 r, .int .i64 cc, .int .i64 VV] 41)) := (B.refl w6).drew.alloc _ _
       have hownA := ownsRow_keepB own6 qA
       have hbaseA : base ≤ (w6.drew.alloc (.cells #[.string n, .int .i64 r, .int .i64 cc, .int .i64 VV] 41)).heap.size := by rw [← hbase]; exact (hG6.trans (qA.g _)).size
       have s0 : w6.drew.cell? ⟨X, 2, none⟩ = some fv := obj_cell (w := w6.drew) oX6 2
       have s1 : w6.drew.cell? ⟨N, 0, none⟩ = some (.string n) := obj_cell (w := w6.drew) oN 0
       have s2 : w6.drew.cell? ⟨N, 1, none⟩ = some (.int .i64 r) := obj_cell (w := w6.drew) oN 1
       have s3 : w6.drew.cell? ⟨N, 2, none⟩ = some (.int .i64 cc) := obj_cell (w := w6.drew) oN 2
       have s4 : w6.drew.cell? ⟨lb, lo' + i, none⟩ = some (.int .u32 (x : Int)) := hcx6
       have HX := Lib.hid (And.intro hG6 (And.intro own6 (And.intro hF hl)))
       clear hG6 own6 hF hl
       refine wp_region_noPanic ?_
       refine wp_region_gate (S := fun w' => w'.cell? ⟨X, 2, none⟩ = some fv ∧ w'.cell? ⟨N, 0, none⟩ = some (.string n) ∧ w'.cell? ⟨N, 1, none⟩ = some (.int .i64 r) ∧ w'.cell? ⟨N, 2, none⟩ = some (.int .i64 cc) ∧ w'.cell? ⟨lb, lo' + i, none⟩ = some (.int .u32 (x : Int))) 13 [(0, 3), (1, 0), (2, 0), (3, 3), (4, 3), (5, 3), (6, 0), (7, 3), (8, 3), (9, 3), (10, 3), (11, 3), (12, 2), (13, 4), (14, 3), (15, 4)] [0, 1, 0, 0, 0, 24, 32, 64, 128, 256, 512, 1028, 2048, 4098, 16383, 32767] [0, 1, 0, 0, 0, 24, 32, 64, 128, 256, 512, 1028, 2048, 4098, 0, 24576] [0, 57346, 63492, 0, 0, 0, 65472, 0, 0, 0, 0, 0, 0, 0, 0, 0] (by kernel_rfl) (by kernel_rfl) (fun _ _ _ _ _ h => h) ?_ (fun hH => ?_)
       ·exact ⟨s0, s1, s2, s3, s4⟩
       refine wpSeqG_free (d := 105) (v := ?_) rfl rfl (by kernel_rfl) (fun w => ?_) ?_
       rotate_left
       ·go_simp <;> with_reducible rfl
       dsimp only [sZ, sS]
       refine wpSeqG_take (d := 106) (v := ?_) rfl rfl (by kernel_rfl) (fun w hS => ?_) ?_
       rotate_left
       ·go_simp <;> with_reducible rfl
       dsimp only [sZ, sS]
       refine wpSeqG_take (d := 107) (v := ?_) rfl rfl (by kernel_rfl) (fun w hS => ?_) ?_
       rotate_left
       ·go_simp <;> with_reducible rfl
       dsimp only [sZ, sS]
       refine wpSeqG_free (d := 108) (v := ?_) rfl rfl (by kernel_rfl) (fun w => ?_) ?_
       rotate_left
       ·go_simp <;> with_reducible rfl
       dsimp only [sZ, sS]
       refine wpSeqG_free (d := 109) (v := ?_) rfl rfl (by kernel_rfl) (fun w => ?_) ?_
       rotate_left
       ·go_simp <;> with_reducible rfl
       dsimp only [sZ, sS]
       refine wpSeqG_free (d := 110) (v := ?_) rfl rfl (by kernel_rfl) (fun w => ?_) ?_
       rotate_left
       ·go_simp <;> with_reducible rfl
       dsimp only [sZ, sS]
       refine wpSeqG_take (d := 111) (v := ?_) rfl rfl (by kernel_rfl) (fun w hS => ?_) ?_
       rotate_left
       ·go_simp <;> with_reducible rfl
       dsimp only [sZ, sS]
       refine wpSeqG_free (d := 112) (v := ?_) rfl rfl (by kernel_rfl) (fun w => ?_) ?_
       rotate_left
       ·go_simp <;> with_reducible rfl
       dsimp only [sZ, sS]
       refine wpSeqG_free (d := 113) (v := ?_) rfl rfl (by kernel_rfl) (fun w => ?_) ?_
       rotate_left
       ·go_simp <;> with_reducible rfl
       dsimp only [sZ, sS]
       refine wpSeqG_free (d := 114) (v := ?_) rfl rfl (by kernel_rfl) (fun w => ?_) ?_
       rotate_left
       ·go_simp <;> with_reducible rfl
       dsimp only [sZ, sS]
       refine wpSeqG_free (d := 115) (v := ?_) rfl rfl (by kernel_rfl) (fun w => ?_) ?_
       rotate_left
       ·go_simp <;> with_reducible rfl
       dsimp only [sZ, sS]
       refine wpSeqG_free (d := 116) (v := ?_) rfl rfl (by kernel_rfl) (fun w => ?_) ?_
       rotate_left
       ·go_simp <;> with_reducible rfl
       dsimp only [sZ, sS]
       refine wpSeqG_call rfl (by kernel_rfl) (fun K hK => ?_)
       go_simp
       refine hK.out _ _ ?_ (fun hH => ?_)
       ·exact ⟨((B.refl _).alloc _ _).keep hH.1, ((B.refl _).alloc _ _).keep hH.2.1, ((B.refl _).alloc _ _).keep hH.2.2.1, ((B.refl _).alloc _ _).keep hH.2.2.2.1, ((B.refl _).alloc _ _).keep hH.2.2.2.2⟩
       clear hK
       refine wpSeqG_gate rfl (by kernel_rfl) (fun K hK => ?_)
       refine wp_append_lies _ _ _ 24 rfl base 41 i0f (.agg #[.string ⟨#[]⟩, .int .i64 0, .int .i64 0, .int .i64 0]) 4 40 (by kernel_rfl) hi0f hz0f hz1f hz2f rfl (by omega) _ _ _ rfl hownA ⟨w6.heap.size, 0, none⟩ 1 1 [.string n, .int .i64 r, .int .i64 cc, .int .i64 VV] rfl rfl (news_plain rfl) (by intro u hu; simp only [List.mem_cons, List.not_mem_nil, or_false] at hu; rcases hu with rfl | rfl | rfl | rfl <;> rfl) (by omega) (by unfold maxLen; omega) (by omega) hbaseA _ rfl ?_
       intro gN cN w9 hownN hgrowN hatN hltN
       have oX9 := obj_grown hgrowN (qA.obj oX6) (farF (qA.obj oX6) hownA (by decide))
       have yX : w9.cell? ⟨X, 2, none⟩ = some fv := obj_cell oX9 2
       have yF := obj_free oX9 2
       try simp only [Act.put, List.setIfInBounds_toArray, List.set_cons_zero, List.set_cons_succ]
       refine hK.out _ _ ?_
       clear hK
       refine wpSeqG_free (d := 119) (v := ?_) rfl rfl (by kernel_rfl) (fun w => ?_) ?_
       rotate_left
       ·go_simp <;> with_reducible rfl
       dsimp only [sZ, sS]
       refine wpSeqG_gate rfl (by kernel_rfl) (fun K hK => ?_)
       go_simp
       refine hK.out _ _ ?_
       clear hK
       refine wpSeqG_done ?_
       refine NoPanic.normal ?_
       all_goals
        obtain ⟨hG6, own6, hF, hl⟩ := HX.out
        have rowsX : fv.ownBlock ≠ some X := farF (qA.obj oX6) hownA (by decide)
        have hG9 : G (fun k => k = X) W4 w9 := (hG6.trans (qA.g _)).grown hgrowN (fun k hk => by
         have := (ownsRow_obj hownA hk).1
         right
         omega)
        have hG10 := hG9.setCell (p := ⟨X, 2, none⟩) (.inl rfl) (.slice (some ⟨gN, 0, none⟩) (fs.length + 1) cN)
        have oX10 : (w9.setCell ⟨X, 2, none⟩ (.slice (some ⟨gN, 0, none⟩) (fs.length + 1) cN)).heap[X]? = some (.cells #[wsv, tsv, .slice (some ⟨gN, 0, none⟩) (fs.length + 1) cN] 26 (0, 0)) := by simpa using obj_set oX9 2 (.slice (some ⟨gN, 0, none⟩) (fs.length + 1) cN)
        have own10 : (w9.setCell ⟨X, 2, none⟩ (.slice (some ⟨gN, 0, none⟩) (fs.length + 1) cN)).ownsRow base 41 4 (.slice (some ⟨gN, 0, none⟩) (fs.length + 1) cN) (fs ++ [(⟨n, r, cc, VV⟩ : Fl)]).length (flatF (fs ++ [(⟨n, r, cc, VV⟩ : Fl)])) := by
         rw [flatF_snoc, List.length_append]
         exact ownsRow_setCell_other hownN (a := ⟨X, 2, none⟩) (fun e => farF oX9 hownN (by decide) e) (.slice (some ⟨gN, 0, none⟩) (fs.length + 1) cN)
        have hF10 : (fs ++ [(⟨n, r, cc, VV⟩ : Fl)]) ++ fillsF WL (i + 1) (ll.drop (i + 1)) = FF := by rw [List.append_assoc]; exact hF
        have HZ := Lib.hid (And.intro hG10 (And.intro oX10 (And.intro own10 (And.intro hF10 (And.intro hfi hl)))))
        clear hG9 hG10 oX10 own10 hF10 hF hl hG6 own6 HX rowsX oX9 yX yF hownN hgrowN hatN hltN hownA hbaseA qA oX6 oN hcx6 s0 s1 s2 s3 s4 hH
        generalize w9.setCell ⟨X, 2, none⟩ (.slice (some ⟨gN, 0, none⟩) (fs.length + 1) cN) = w10 at *
        go_wp2
        go_roundw
        case rel =>
         obtain ⟨h1, h2, h3, h4, h5, h6⟩ := HZ.out
         exact ⟨i + 1, _, _, by omega, by go_num, h1, h2, h3, h4, by simp; omega⟩
        case measure => have := HZ.out; simp [intOf]; omega
    ·have hlB : decide ((i : Int) < (ll.length : Int)) = false := decide_eq_false (by omega)
     have hlN : decide (i < ll.length) = false := decide_eq_false hl
     rw [List.drop_eq_nil_of_le (by omega)] at hF
     unfold fillsF at hF
     rw [List.append_nil] at hF
     subst hF
     obtain ⟨a0, p0, z0⟩ := hDk.ws.form
     obtain ⟨a1, p1, z1⟩ := hDk.ts.form
     obtain ⟨a2, p2, z2⟩ := hDk.fs.form
     subst z0 z1 z2
     have r0 : wr.cell? ⟨w.heap.size, 0, none⟩ = some (.slice none 0 0) := obj_cell oRr 0
     have r1 : wr.cell? ⟨w.heap.size, 1, none⟩ = some (.slice none 0 0) := obj_cell oRr 1
     have r2 : wr.cell? ⟨w.heap.size, 2, none⟩ = some (.slice none 0 0) := obj_cell oRr 2
     have e0 := obj_free oRr 0
     have e1 := obj_free oRr 1
     have e2 := obj_free oRr 2
     have oE := obj_three oRr (.slice a0 WL.length p0) (.slice a1 TL.length p1) (.slice a2 fs.length p2)
     have hqF := b_three bwr (Nat.le_refl _) (.slice a0 WL.length p0) (.slice a1 TL.length p1) (.slice a2 fs.length p2)
     have hnoR : ∀ i, i = w.heap.size → ∀ k, (∀ r, wr.cell? ⟨i, k, none⟩ ≠ some (.bool r)) ∧ ∀ s, wr.cell? ⟨i, k, none⟩ ≠ some (.string s) := by
      rintro i rfl k
      rw [obj_cell oRr k]
      match k with
      | 0 => exact ⟨by simp, by simp⟩
      | 1 => exact ⟨by simp, by simp⟩
      | 2 => exact ⟨by simp, by simp⟩
      | n + 3 => exact ⟨by simp, by simp⟩
     have g5 := g_three wr w.heap.size (.slice a0 WL.length p0) (.slice a1 TL.length p1) (.slice a2 fs.length p2)
     have hown5 := hown.kept (w' := ((wr.setCell ⟨w.heap.size, 0, none⟩ (.slice a0 WL.length p0)).setCell ⟨w.heap.size, 1, none⟩ (.slice a1 TL.length p1)).setCell ⟨w.heap.size, 2, none⟩ (.slice a2 fs.length p2)) (row := some w.heap.size) ⟨g5.os, g5.tape, g5.output, g5.size, fun k hk he => g5.block k hk (fun e => he (by rw [e]))⟩ (.inr (farF oRr hown (by decide)))
     have hDF : IsDk (((wr.setCell ⟨w.heap.size, 0, none⟩ (.slice a0 WL.length p0)).setCell ⟨w.heap.size, 1, none⟩ (.slice a1 TL.length p1)).setCell ⟨w.heap.size, 2, none⟩ (.slice a2 fs.length p2)) (.slice a0 WL.length p0) (.slice a1 TL.length p1) (.slice a2 fs.length p2) ⟨WL, TL, fs⟩ := ⟨isRecs_keepG hDk.ws hnoR g5, isRecs_keepG hDk.ts hnoR g5, isFls_own hown5⟩
     have HZ := Lib.hid (And.intro oE (And.intro hqF hDF))
     clear oE hqF hDF hown5 g5 hnoR hDk hown oRr bwr hG oX wr4 tpT obR4 b04 hnoX hbW hU
     go_wp2
     obtain ⟨oE, hqF, hDF⟩ := HZ.out
     have c0 := obj_cell oE 0
     have c1 := obj_cell oE 1
     have c2 := obj_cell oE 2
     refine bodyPost_ret (v := .agg #[(.slice a0 WL.length p0), (.slice a1 TL.length p1), (.slice a2 fs.length p2)]) (by simp [results, Tryz.results6, go_sem, c0, c1, c2]) rfl ⟨_, _, _, rfl, by rw [hWL.out]; exact hDF, hqF⟩
  ·obtain ⟨r5, e5⟩ : ∃ r, d % 5 = r := ⟨_, rfl⟩
   have tm5 : d.tmod 5 = r5 := by rw [Int.tmod_eq_emod_of_nonneg (by omega)]; exact e5
   have d5 : decide (0 < r5) = true := decide_eq_true (by omega)
   obtain ⟨d30, e30⟩ : ∃ r, d % 30 = r := ⟨_, rfl⟩
   have tm30 : d.tmod 30 = d30 := by rw [Int.tmod_eq_emod_of_nonneg (by omega)]; exact e30
   have w30 : IntKind.i64.wrap d30 = d30 := wrapI (by omega) (by omega)
   clear pc pf pe tm1 tm2 tm3 tm4 ec3 ed2 edh edh3 cO
   have kx1 : W4.cell? ⟨X, 1, none⟩ = some (.slice (some ⟨g, 0, none⟩) 1 cp) := obj_cell ob4 1
   go_wp2_with fail
   refine wp_region_noPanic ?_
   refine wp_region_slots [(0, 73), (1, 74), (2, 75), (3, 76), (4, 77), (5, 78), (6, 79), (7, 80), (8, 81)] [(9, 2), (10, 0), (11, 2)] [0, 1, 0, 4, 8, 0, 32, 80, 128, 322, 1023, 2047] [0, 1, 0, 4, 8, 0, 32, 80, 128, 258, 0, 1536] [0, 1, 0, 4, 12, 0, 32, 124, 252, 511, 1023, 2047] 511 [(fun v _ => v = .pointer (some ⟨X, 1, none⟩)), (fun v _ => v = .slice (some ⟨g, 0, none⟩) 1 cp), (fun v _ => v = .int .u8 d), (fun v _ => v = .int .u8 d30), (fun v _ => v = .int .i64 d30), (fun v _ => v = .int .u8 d), (SecsV (g + 1) lp), (RecV (g + 1) ⟨⟨#[116, 50]⟩, 50000, 40000, d30, lp⟩), (RecRow (g + 1) ⟨⟨#[116, 50]⟩, 50000, 40000, d30, lp⟩)] (by kernel_rfl) (by kernel_rfl) (fun _ _ _ _ h => h) ⟨slot_val _, slot_val _, slot_val _, slot_val _, slot_val _, slot_val _, slot_secs _ _, slot_rec _ _, slot_recrow _ _, trivial⟩ ⟨?_, ?_, ?_, ?_, ?_, ?_, ?_, ?_, ?_, trivial⟩ ?_
   ·intro f w' hf hB
    clear hf
    refine slot_op rfl (fun _ => rfl) (fun T hT K hK => ?_)
    simp only [putsL, List.set_cons_zero, List.set_cons_succ] at hT
    subst hT
    go_simp
    exact hK.out _ _ rfl (B.refl _)
   ·intro f w' hf hB
    have h0 := hf (0, 73) (by simp) (by rfl)
    clear hf
    have e0 : f 0 = _ := h0
    have k1 := hB.keep kx1
    refine slot_op rfl (fun _ => rfl) (fun T hT K hK => ?_)
    simp only [putsL, List.set_cons_zero, List.set_cons_succ, e0] at hT
    subst hT
    go_simp
    exact hK.out _ _ rfl (B.refl _)
   ·intro f w' hf hB
    clear hf
    refine slot_op rfl (fun _ => rfl) (fun T hT K hK => ?_)
    simp only [putsL, List.set_cons_zero, List.set_cons_succ] at hT
    subst hT
    go_simp
    exact hK.out _ _ rfl (B.refl _)
   ·intro f w' hf hB
    have h2 := hf (2, 75) (by simp) (by rfl)
    clear hf
    have e2 : f 2 = _ := h2
    refine slot_op rfl (fun _ => rfl) (fun T hT K hK => ?_)
    simp only [putsL, List.set_cons_zero, List.set_cons_succ, e2] at hT
    subst hT
    go_simp
    exact hK.out _ _ rfl (B.refl _)
   ·intro f w' hf hB
    have h3 := hf (3, 76) (by simp) (by rfl)
    clear hf
    have e3 : f 3 = _ := h3
    refine slot_op rfl (fun _ => rfl) (fun T hT K hK => ?_)
    simp only [putsL, List.set_cons_zero, List.set_cons_succ, e3] at hT
    subst hT
    go_simp
    exact hK.out _ _ rfl (B.refl _)
   ·intro f w' hf hB
    clear hf
    refine slot_op rfl (fun _ => rfl) (fun T hT K hK => ?_)
    simp only [putsL, List.set_cons_zero, List.set_cons_succ] at hT
    subst hT
    go_simp
    exact hK.out _ _ rfl (B.refl _)
   ·intro f w' hf hB
    have h5 := hf (5, 78) (by simp) (by rfl)
    clear hf
    have e5 : f 5 = _ := h5
    refine slot_op rfl (fun _ => rfl) (fun T hT K hK => ?_)
    simp only [putsL, List.set_cons_zero, List.set_cons_succ, e5] at hT
    subst hT
    go_simp
    (with_reducible refine (cP _).mono ?_)
    rintro e w2 ⟨vo, rfl, hvo, q, hbo⟩
    obtain ⟨o7, n7, p7, rfl⟩ := hvo.form
    exact hK.out _ _ ⟨_, _, _, rfl, hvo, fun b hb => ⟨Nat.le_trans s4 (Nat.le_trans hB.below.size (hbo b hb)), secs_lt hvo hlp hb⟩⟩ q.b
   ·intro f w' hf hB
    have h4 := hf (4, 77) (by simp) (by rfl)
    have h6 := hf (6, 79) (by simp) (by rfl)
    clear hf
    have e4 : f 4 = _ := h4
    obtain ⟨o7, n7, p7, e6, hvo, hbo⟩ := h6
    refine slot_op rfl (fun _ => rfl) (fun T hT K hK => ?_)
    simp only [putsL, List.set_cons_zero, List.set_cons_succ, e4, e6] at hT
    subst hT
    go_simp
    exact hK.out _ _ ⟨o7, n7, p7, rfl, hvo, hbo⟩ (B.refl _)
   ·intro f w' hf hB
    have h7 := hf (7, 80) (by simp) (by rfl)
    clear hf
    obtain ⟨o7, n7, p7, e7, hvo, hbo⟩ := h7
    refine slot_op rfl (fun _ => rfl) (fun T hT K hK => ?_)
    simp only [putsL, List.set_cons_zero, List.set_cons_succ, e7] at hT
    subst hT
    go_simp
    refine hK.out _ _ ⟨_, o7, n7, p7, rfl, fun j u hj => ?_, hvo.keepB ((B.refl _).alloc _ _), fun b hb => ⟨(hbo b hb).1, Nat.lt_of_lt_of_le (hbo b hb).2 ((B.refl _).alloc _ _).below.size⟩⟩ ((B.refl _).alloc _ _)
    rw [World.cell?_alloc_new]
    simpa [Rec.cells] using hj
   ·intro f w' hf hB T hT
    have h1 : f 1 = _ := hf (1, 74) (by simp)
    have h8 := hf (8, 81) (by simp)
    obtain ⟨B2, o7, n7, p7, e8, hcs, hvp, hbp⟩ := h8
    clear hf
    simp only [putsL, List.set_cons_zero, List.set_cons_succ, h1, e8] at hT
    subst hT
    have obX' := hB.obj ob4
    have own' := ownsRow_keepB own4 hB
    have hv' := hv4.keepB hB
    refine wpSeq_call rfl (by kernel_rfl) (fun K hK => ?_)
    refine wp_append_lies _ (.tmp 74) (.tmp 81) 23 rfl U0.heap.size 35 i0 _ 5 64 Tryz.underlying23 hi0 hz0 hz1 hz2 rfl (by omega) (.slice (some ⟨g, 0, none⟩) 1 cp) 1 (flatR [⟨⟨#[116, 49]⟩, cap, filt, err, lo⟩] [.slice oo no po]) rfl own' ⟨B2, 0, none⟩ 1 1 (Rec.cells ⟨⟨#[116, 50]⟩, 50000, 40000, d30, lp⟩ (.slice o7 n7 p7)) rfl rfl (fun j u hj => by rw [add0]; exact hcs j u hj) (by simp [Rec.cells, Value.oneCell']) (by omega) (by unfold maxLen; omega) (by omega) (Nat.le_trans b4.below.size hB.below.size) _ rfl (fun g2 cp2 w5 hown hgrow hat hlt => ?_)
    refine hK.out _ _ trivial (fun _ => ?_)
    clear hK
    have sX : X < w'.heap.size := (Array.getElem?_eq_some_iff.1 obX').1
    have hg2 : X < g2 := by
     rcases hat with h | h
     ·cases h; exact hgX
     ·omega
    have gg : G (fun i => i = g) w' w5 := (G.refl _ w').grown hgrow (fun k hk => .inl (by cases hk; rfl))
    have ob5 := gg.obj (by omega) obX'
    have kX1 := obj_cell ob5 1
    have fX1 := obj_free ob5 1
    refine wpSeq_take (d := 83) rfl rfl (by kernel_rfl) (fun w hS => by go_simp <;> with_reducible rfl) ?_
    dsimp only [sZ, sS]
    refine wpSeq_call rfl (by kernel_rfl) (fun K hK => ?_)
    go_simp
    refine hK.out _ _ trivial (fun _ => ?_)
    clear hK
    refine wpSeq_done ?_
    refine NoPanic.normal ?_
    have gX : G (fun i => i = X ∨ i = g) w' (w5.setCell ⟨X, 1, none⟩ (.slice (some ⟨g2, 0, none⟩) 2 cp2)) := G.setCell (S := fun i => i = X ∨ i = g) (p := ⟨X, 1, none⟩) (gg.mono (fun _ _ h => .inr h)) (.inl (.inl rfl)) _
    have b6 : B U0 (w5.setCell ⟨X, 1, none⟩ (.slice (some ⟨g2, 0, none⟩) 2 cp2)) := gX.b (b4.trans hB) (fun i hi => by omega)
    have ob6 := obj_set ob5 1 (.slice (some ⟨g2, 0, none⟩) 2 cp2)
    simp only [List.setIfInBounds_toArray, List.set_cons_succ, List.set_cons_zero] at ob6
    have own6 := ownsRow_setCell_other hown (a := ⟨X, 1, none⟩) (by simp [Value.ownBlock]; omega) (.slice (some ⟨g2, 0, none⟩) 2 cp2)
    replace own6 : (w5.setCell ⟨X, 1, none⟩ (.slice (some ⟨g2, 0, none⟩) 2 cp2)).ownsRow U0.heap.size 35 5 (.slice (some ⟨g2, 0, none⟩) 2 cp2) 2 (flatR [⟨⟨#[116, 49]⟩, cap, filt, err, lo⟩, ⟨⟨#[116, 50]⟩, 50000, 40000, d30, lp⟩] [.slice oo no po, .slice o7 n7 p7]) := own6
    have hv6 := isSecs_keepOwn hv' (fun b hb => by have := hb4 b hb; omega) gX
    have hp6 := isSecs_keepOwn hvp (fun b hb => by have := (hbp b hb).1; omega) gX
    have tp6 : IsRecs (w5.setCell ⟨X, 1, none⟩ (.slice (some ⟨g2, 0, none⟩) 2 cp2)) (.slice (some ⟨g2, 0, none⟩) 2 cp2) [⟨⟨#[116, 49]⟩, cap, filt, err, lo⟩, ⟨⟨#[116, 50]⟩, 50000, 40000, d30, lp⟩] := recs_own (L := [⟨⟨#[116, 49]⟩, cap, filt, err, lo⟩, ⟨⟨#[116, 50]⟩, 50000, 40000, d30, lp⟩]) (vs := [.slice oo no po, .slice o7 n7 p7]) own6 (by omega) rfl rfl (fun i r v hr hv => by
     match i with
     | 0 => obtain rfl := Option.some.inj hr; obtain rfl := Option.some.inj hv; exact hv6
     | 1 => obtain rfl := Option.some.inj hr; obtain rfl := Option.some.inj hv; exact hp6
     | n + 2 => simp at hr)
    have tpT : IsRecs (w5.setCell ⟨X, 1, none⟩ (.slice (some ⟨g2, 0, none⟩) 2 cp2)) (.slice (some ⟨g2, 0, none⟩) 2 cp2) TL := by
     have e := HTL.out
     rw [if_neg h5, e30] at e
     rw [← e]; exact tp6
    replace obR4 := b6.obj obR
    replace wr4 := rw0.keepB b6
    replace b04 := hu0.trans b6
    clear h5 e5 tm5 d5 e30 tm30 w30 kX1 fX1 kx1 ob5 ob4 own4 own' own6 hv4 hv' hv6 hvp hp6 tp6 gX gg hown hgrow hat hlt obX' rw0 b4 b6 hB hu0 hu0s obR hX hz0 hz1 hz2 hi0 hcs hbp hb4 s4 sX hgX h1 e8 cP
    generalize w5.setCell ⟨X, 1, none⟩ (.slice (some ⟨g2, 0, none⟩) 2 cp2) = W6 at *
    have hnoX : ∀ i, i = X → ∀ k, (∀ r, W6.cell? ⟨i, k, none⟩ ≠ some (.bool r)) ∧ ∀ s, W6.cell? ⟨i, k, none⟩ ≠ some (.string s) := by
     rintro i rfl k
     rw [obj_cell ob6 k]
     match k with
     | 0 => exact ⟨by simp, by simp⟩
     | 1 => exact ⟨by simp, by simp⟩
     | 2 => exact ⟨by simp, by simp⟩
     | n + 3 => exact ⟨by simp, by simp⟩
    obtain ⟨i0f, hi0f, hz0f, hz1f, hz2f⟩ := info_of fillIF
    have hRne : ¬ w.heap.size = X := by omega
    have hXW := obj_lt ob6
    obtain ⟨base, hbase⟩ : ∃ base, W6.heap.size = base := ⟨_, rfl⟩
    obtain ⟨WL, hWL⟩ : ∃ WL : List Rec, [⟨⟨#[112, 108, 97, 116, 101]⟩, a / 6 % 3 + 1, b / 6 % 4 + 2, c % 4 * 500, la⟩, ⟨⟨#[116, 117, 98, 101]⟩, 1, c / 4 % 3 + 2, d % 3 * 300, lb⟩] = WL := ⟨_, rfl⟩
    have hF0 := HF.out
    rw [hWL] at wr4 hbW hF0
    replace hWL := Lib.hid hWL
    obtain ⟨wsv, hwsv⟩ : ∃ wsv : Value, .slice (some ⟨Wb, 0, none⟩) 2 2 = wsv := ⟨_, rfl⟩
    obtain ⟨tsv, htsv⟩ : ∃ tsv : Value, .slice (some ⟨g2, 0, none⟩) 2 cp2 = tsv := ⟨_, rfl⟩
    rw [hwsv] at wr4
    rw [htsv] at tpT
    have ob9 : W6.heap[X]? = some (.cells #[wsv, tsv, .slice none 0 0] 26 (0, 0)) := by rw [← hwsv, ← htsv]; exact ob6
    clear hwsv htsv ob6 HF HTL
    go_wp2_with fail
    go_loopw [12] (fun iv wr => ∃ (i : Nat) (fv : Value) (fs : List Fl), i ≤ ll.length ∧ iv = .int .i64 i ∧ G (fun k => k = X) W6 wr ∧ wr.heap[X]? = some (.cells #[wsv, tsv, fv] 26 (0, 0)) ∧ wr.ownsRow base 41 4 fv fs.length (flatF fs) ∧ fs ++ fillsF WL i (ll.drop i) = FF ∧ fs.length ≤ i) (fun iv _ => ll.length + 1 - (intOf iv).toNat)
    case atStart => exact ⟨0, .slice none 0 0, [], Nat.zero_le _, rfl, G.refl _ _, ob9, World.ownsRow_nil _ _ _ _, hF0, Nat.zero_le _⟩
    case round =>
     obtain ⟨i, fv, fs, hi, rfl, hG, oX, hown, hF, hfi⟩ := hrel
     clear hF0 ob9
     have bwr : B w wr := hG.b b04 (fun k hk => by omega)
     have oRr := hG.obj (b := w.heap.size) hRne obR4
     have hDk : IsDk wr wsv tsv fv ⟨WL, TL, fs⟩ := ⟨isRecs_keepG wr4 hnoX hG, isRecs_keepG tpT hnoX hG, isFls_own hown⟩
     have y0 : wr.cell? ⟨X, 0, none⟩ = some wsv := obj_cell oX 0
     have y1 : wr.cell? ⟨X, 1, none⟩ = some tsv := obj_cell oX 1
     have y2 : wr.cell? ⟨X, 2, none⟩ = some fv := obj_cell oX 2
     by_cases hl : i < ll.length
     ·have hlB : decide ((i : Int) < (ll.length : Int)) = true := decide_eq_true (by omega)
      have hlN : decide (i < ll.length) = true := decide_eq_true hl
      have hlI : (i : Int) < (ll.length : Int) := by omega
      have hi0 : (0 : Int) ≤ (i : Int) := by omega
      have wk1 : IntKind.i64.wrap ((i : Int) + 1) = (i : Int) + 1 := by rw [IntKind.wrap_i64]; omega
      obtain ⟨x, hx⟩ : ∃ x, ll[i] = x := ⟨_, rfl⟩
      have hxe : ll[i]? = some x := by rw [List.getElem?_eq_getElem hl, hx]
      obtain ⟨hx32, lb, lo', hla, hcx⟩ := hU i x hxe
      subst hla
      have hcr := bwr.keep hcx
      have hdrop : ll.drop i = x :: ll.drop (i + 1) := by rw [List.drop_eq_getElem_cons hl, hx]
      rw [hdrop] at hF
      unfold fillsF at hF
      have cAt := r8at_any wsv tsv fv ⟨WL, TL, fs⟩ (i : Int) (by unfold I64; omega) wr hDk hbW
      clear hx hxe hdrop hcx
      simp only at cAt
      cases hat : atW WL (i : Int) with
      | none =>
       rw [hat] at cAt hF
       unfold wellV at cAt
       simp only [Option.isSome_none] at cAt
       go_wp2_with fail
       refine cAt.mono ?_
       rintro _ w5 ⟨rfl, q5⟩
       clear cAt
       have q6 := q5.alloc #[.string ⟨#[]⟩, .int .i64 0, .int .i64 0] 39
       have HZ := Lib.hid (And.intro (hG.trans (q6.g _)) (And.intro (q6.obj oX) (And.intro (ownsRow_keepB hown q6) (And.intro hF (And.intro hfi hl)))))
       clear hG oX hown hF hfi hl hDk bwr oRr q5 q6
       go_wp2
       go_roundw
       case rel =>
        obtain ⟨h1, h2, h3, h4, h5, h6⟩ := HZ.out
        exact ⟨i + 1, fv, fs, by omega, by go_num, h1, h2, h3, h4, by omega⟩
       case measure => have := HZ.out; simp [intOf]; omega
      | some nrc =>
       obtain ⟨n, r, cc⟩ := nrc
       rw [hat] at cAt hF
       dsimp only at hF
       unfold wellV at cAt
       simp only [Option.isSome_some] at cAt
       obtain ⟨r6, hr6⟩ : ∃ r6 : Nat, x % 6 = r6 := ⟨_, rfl⟩
       have rm6 : (x : Int).tmod 6 = (r6 : Int) := by rw [Int.tmod_eq_emod_of_nonneg (by omega)]; omega
       by_cases hz : r6 = 0
       ·have hrB : decide ((0 : Int) < (r6 : Int)) = false := decide_eq_false (by omega)
        have hrN : decide (0 < r6) = false := decide_eq_false (by omega)
        rw [hr6, if_neg (by omega)] at hF
        clear hr6 hz
        go_wp2_with fail
        refine cAt.mono ?_
        rintro _ w5 ⟨rfl, q5⟩
        clear cAt
        have q6 := q5.alloc #[.string n, .int .i64 r, .int .i64 cc] 39
        have hcx6 := q6.keep hcr
        have hcx5 := q5.keep hcr
        have HZ := Lib.hid (And.intro (hG.trans (q6.g _)) (And.intro (q6.obj oX) (And.intro (ownsRow_keepB hown q6) (And.intro hF (And.intro hfi hl)))))
        clear hG oX hown hF hfi hl hDk bwr oRr q5 q6
        go_wp2
        go_roundw
        case rel =>
         obtain ⟨h1, h2, h3, h4, h5, h6⟩ := HZ.out
         exact ⟨i + 1, fv, fs, by omega, by go_num, h1, h2, h3, h4, by omega⟩
        case measure => have := HZ.out; simp [intOf]; omega
       ·have hrB : decide ((0 : Int) < (r6 : Int)) = true := decide_eq_true (by omega)
        have hrN : decide (0 < r6) = true := decide_eq_true (by omega)
        rw [hr6, if_pos (by omega)] at hF
        obtain ⟨dq, hdq⟩ : ∃ dq : Nat, x / 6 = dq := ⟨_, rfl⟩
        obtain ⟨dm, hdm⟩ : ∃ dm : Nat, dq % 200000 = dm := ⟨_, rfl⟩
        rw [hdq, hdm] at hF
        have n1 : IntKind.u32.wrap ((x : Int).tdiv 6) = (dq : Int) := by rw [Int.tdiv_eq_ediv_of_nonneg (by omega), IntKind.wrap_u32]; omega
        have n1' : IntKind.u32.wrap ((x : Int) / 6) = (dq : Int) := by rw [IntKind.wrap_u32]; omega
        have n2 : (dq : Int).tmod 200000 = (dm : Int) := by rw [Int.tmod_eq_emod_of_nonneg (by omega)]; omega
        have n3 : IntKind.i64.wrap (dm : Int) = (dm : Int) := by rw [IntKind.wrap_i64]; omega
        obtain ⟨VV, hVV⟩ : ∃ VV : Int, 60000 + (dm : Int) = VV := ⟨_, rfl⟩
        have n4 : IntKind.i64.wrap (60000 + (dm : Int)) = VV := by rw [IntKind.wrap_i64]; omega
        rw [hVV] at hF
        clear hr6 hz hdq hdm hVV
        go_wp2_with fail
        refine cAt.mono ?_
        rintro _ w5 ⟨rfl, q5⟩
        clear cAt
        have q6 := q5.alloc #[.string n, .int .i64 r, .int .i64 cc] 39
        have oN := obj_new w5 (.cells #[.string n, .int .i64 r, .int .i64 cc] 39)
        have hcx6 := q6.keep hcr
        have hcx5 := q5.keep hcr
        have hG6 := hG.trans (q6.g _)
        have oX6 := q6.obj oX
        have own6 := ownsRow_keepB hown q6
        have HZ := Lib.hid (And.intro hG6 (And.intro oX6 (And.intro own6 (And.intro hF (And.intro hfi (And.intro hl oN))))))
        clear hG6 oX6 own6 oN hG oX hown hF hDk bwr oRr q5 q6 y0 y1 y2
        go_wp2_with fail
        obtain ⟨hG6, oX6, own6, hF, hfi, hl, oN⟩ := HZ.out
        clear HZ hcx5 hcr
        generalize w5.alloc (.cells #[.string n, .int .i64 r, .int .i64 cc] 39) = w6 at *
        generalize w5.heap.size = N at *
        have qA : B w6 (w6.drew.alloc (.cells #[.string n, .int .i64 r, .int .i64 cc, .int .i64 VV] 41)) := (B.refl w6).drew.alloc _ _
        have hownA := ownsRow_keepB own6 qA
        have hbaseA : base ≤ (w6.drew.alloc (.cells #[.string n, .int .i64 r, .int .i64 cc, .int .i64 VV] 41)).heap.size := by rw [← hbase]; exact (hG6.trans (qA.g _)).size
        have s0 : w6.drew.cell? ⟨X, 2, none⟩ = some fv := obj_cell (w := w6.drew) oX6 2
        have s1 : w6.drew.cell? ⟨N, 0, none⟩ = some (.string n) := obj_cell (w := w6.drew) oN 0
        have s2 : w6.drew.cell? ⟨N, 1, none⟩ = some (.int .i64 r) := obj_cell (w := w6.drew) oN 1
        have s3 : w6.drew.cell? ⟨N, 2, none⟩ = some (.int .i64 cc) := obj_cell (w := w6.drew) oN 2
        have s4 : w6.drew.cell? ⟨lb, lo' + i, none⟩ = some (.int .u32 (x : Int)) := hcx6
        have HX := Lib.hid (And.intro hG6 (And.intro own6 (And.intro hF hl)))
        clear hG6 own6 hF hl
        refine wp_region_noPanic ?_
        refine wp_region_gate (S := fun w' => w'.cell? ⟨X, 2, none⟩ = some fv ∧ w'.cell? ⟨N, 0, none⟩ = some (.string n) ∧ w'.cell? ⟨N, 1, none⟩ = some (.int .i64 r) ∧ w'.cell? ⟨N, 2, none⟩ = some (.int .i64 cc) ∧ w'.cell? ⟨lb, lo' + i, none⟩ = some (.int .u32 (x : Int))) 13 [(0, 3), (1, 0), (2, 0), (3, 3), (4, 3), (5, 3), (6, 0), (7, 3), (8, 3), (9, 3), (10, 3), (11, 3), (12, 2), (13, 4), (14, 3), (15, 4)] [0, 1, 0, 0, 0, 24, 32, 64, 128, 256, 512, 1028, 2048, 4098, 16383, 32767] [0, 1, 0, 0, 0, 24, 32, 64, 128, 256, 512, 1028, 2048, 4098, 0, 24576] [0, 57346, 63492, 0, 0, 0, 65472, 0, 0, 0, 0, 0, 0, 0, 0, 0] (by kernel_rfl) (by kernel_rfl) (fun _ _ _ _ _ h => h) ?_ (fun hH => ?_)
        ·exact ⟨s0, s1, s2, s3, s4⟩
        refine wpSeqG_free (d := 105) (v := ?_) rfl rfl (by kernel_rfl) (fun w => ?_) ?_
        rotate_left
        ·go_simp <;> with_reducible rfl
        dsimp only [sZ, sS]
        refine wpSeqG_take (d := 106) (v := ?_) rfl rfl (by kernel_rfl) (fun w hS => ?_) ?_
        rotate_left
        ·go_simp <;> with_reducible rfl
        dsimp only [sZ, sS]
        refine wpSeqG_take (d := 107) (v := ?_) rfl rfl (by kernel_rfl) (fun w hS => ?_) ?_
        rotate_left
        ·go_simp <;> with_reducible rfl
        dsimp only [sZ, sS]
        refine wpSeqG_free (d := 108) (v := ?_) rfl rfl (by kernel_rfl) (fun w => ?_) ?_
        rotate_left
        ·go_simp <;> with_reducible rfl
        dsimp only [sZ, sS]
        refine wpSeqG_free (d := 109) (v := ?_) rfl rfl (by kernel_rfl) (fun w => ?_) ?_
        rotate_left
        ·go_simp <;> with_reducible rfl
        dsimp only [sZ, sS]
        refine wpSeqG_free (d := 110) (v := ?_) rfl rfl (by kernel_rfl) (fun w => ?_) ?_
        rotate_left
        ·go_simp <;> with_reducible rfl
        dsimp only [sZ, sS]
        refine wpSeqG_take (d := 111) (v := ?_) rfl rfl (by kernel_rfl) (fun w hS => ?_) ?_
        rotate_left
        ·go_simp <;> with_reducible rfl
        dsimp only [sZ, sS]
        refine wpSeqG_free (d := 112) (v := ?_) rfl rfl (by kernel_rfl) (fun w => ?_) ?_
        rotate_left
        ·go_simp <;> with_reducible rfl
        dsimp only [sZ, sS]
        refine wpSeqG_free (d := 113) (v := ?_) rfl rfl (by kernel_rfl) (fun w => ?_) ?_
        rotate_left
        ·go_simp <;> with_reducible rfl
        dsimp only [sZ, sS]
        refine wpSeqG_free (d := 114) (v := ?_) rfl rfl (by kernel_rfl) (fun w => ?_) ?_
        rotate_left
        ·go_simp <;> with_reducible rfl
        dsimp only [sZ, sS]
        refine wpSeqG_free (d := 115) (v := ?_) rfl rfl (by kernel_rfl) (fun w => ?_) ?_
        rotate_left
        ·go_simp <;> with_reducible rfl
        dsimp only [sZ, sS]
        refine wpSeqG_free (d := 116) (v := ?_) rfl rfl (by kernel_rfl) (fun w => ?_) ?_
        rotate_left
        ·go_simp <;> with_reducible rfl
        dsimp only [sZ, sS]
        refine wpSeqG_call rfl (by kernel_rfl) (fun K hK => ?_)
        go_simp
        refine hK.out _ _ ?_ (fun hH => ?_)
        ·exact ⟨((B.refl _).alloc _ _).keep hH.1, ((B.refl _).alloc _ _).keep hH.2.1, ((B.refl _).alloc _ _).keep hH.2.2.1, ((B.refl _).alloc _ _).keep hH.2.2.2.1, ((B.refl _).alloc _ _).keep hH.2.2.2.2⟩
        clear hK
        refine wpSeqG_gate rfl (by kernel_rfl) (fun K hK => ?_)
        refine wp_append_lies _ _ _ 24 rfl base 41 i0f (.agg #[.string ⟨#[]⟩, .int .i64 0, .int .i64 0, .int .i64 0]) 4 40 (by kernel_rfl) hi0f hz0f hz1f hz2f rfl (by omega) _ _ _ rfl hownA ⟨w6.heap.size, 0, none⟩ 1 1 [.string n, .int .i64 r, .int .i64 cc, .int .i64 VV] rfl rfl (news_plain rfl) (by intro u hu; simp only [List.mem_cons, List.not_mem_nil, or_false] at hu; rcases hu with rfl | rfl | rfl | rfl <;> rfl) (by omega) (by unfold maxLen; omega) (by omega) hbaseA _ rfl ?_
        intro gN cN w9 hownN hgrowN hatN hltN
        have oX9 := obj_grown hgrowN (qA.obj oX6) (farF (qA.obj oX6) hownA (by decide))
        have yX : w9.cell? ⟨X, 2, none⟩ = some fv := obj_cell oX9 2
        have yF := obj_free oX9 2
        try simp only [Act.put, List.setIfInBounds_toArray, List.set_cons_zero, List.set_cons_succ]
        refine hK.out _ _ ?_
        clear hK
        refine wpSeqG_free (d := 119) (v := ?_) rfl rfl (by kernel_rfl) (fun w => ?_) ?_
        rotate_left
        ·go_simp <;> with_reducible rfl
        dsimp only [sZ, sS]
        refine wpSeqG_gate rfl (by kernel_rfl) (fun K hK => ?_)
        go_simp
        refine hK.out _ _ ?_
        clear hK
        refine wpSeqG_done ?_
        refine NoPanic.normal ?_
        all_goals
         obtain ⟨hG6, own6, hF, hl⟩ := HX.out
         have rowsX : fv.ownBlock ≠ some X := farF (qA.obj oX6) hownA (by decide)
         have hG9 : G (fun k => k = X) W6 w9 := (hG6.trans (qA.g _)).grown hgrowN (fun k hk => by
          have := (ownsRow_obj hownA hk).1
          right
          omega)
         have hG10 := hG9.setCell (p := ⟨X, 2, none⟩) (.inl rfl) (.slice (some ⟨gN, 0, none⟩) (fs.length + 1) cN)
         have oX10 : (w9.setCell ⟨X, 2, none⟩ (.slice (some ⟨gN, 0, none⟩) (fs.length + 1) cN)).heap[X]? = some (.cells #[wsv, tsv, .slice (some ⟨gN, 0, none⟩) (fs.length + 1) cN] 26 (0, 0)) := by simpa using obj_set oX9 2 (.slice (some ⟨gN, 0, none⟩) (fs.length + 1) cN)
         have own10 : (w9.setCell ⟨X, 2, none⟩ (.slice (some ⟨gN, 0, none⟩) (fs.length + 1) cN)).ownsRow base 41 4 (.slice (some ⟨gN, 0, none⟩) (fs.length + 1) cN) (fs ++ [(⟨n, r, cc, VV⟩ : Fl)]).length (flatF (fs ++ [(⟨n, r, cc, VV⟩ : Fl)])) := by
          rw [flatF_snoc, List.length_append]
          exact ownsRow_setCell_other hownN (a := ⟨X, 2, none⟩) (fun e => farF oX9 hownN (by decide) e) (.slice (some ⟨gN, 0, none⟩) (fs.length + 1) cN)
         have hF10 : (fs ++ [(⟨n, r, cc, VV⟩ : Fl)]) ++ fillsF WL (i + 1) (ll.drop (i + 1)) = FF := by rw [List.append_assoc]; exact hF
         have HZ := Lib.hid (And.intro hG10 (And.intro oX10 (And.intro own10 (And.intro hF10 (And.intro hfi hl)))))
         clear hG9 hG10 oX10 own10 hF10 hF hl hG6 own6 HX rowsX oX9 yX yF hownN hgrowN hatN hltN hownA hbaseA qA oX6 oN hcx6 s0 s1 s2 s3 s4 hH
         generalize w9.setCell ⟨X, 2, none⟩ (.slice (some ⟨gN, 0, none⟩) (fs.length + 1) cN) = w10 at *
         go_wp2
         go_roundw
         case rel =>
          obtain ⟨h1, h2, h3, h4, h5, h6⟩ := HZ.out
          exact ⟨i + 1, _, _, by omega, by go_num, h1, h2, h3, h4, by simp; omega⟩
         case measure => have := HZ.out; simp [intOf]; omega
     ·have hlB : decide ((i : Int) < (ll.length : Int)) = false := decide_eq_false (by omega)
      have hlN : decide (i < ll.length) = false := decide_eq_false hl
      rw [List.drop_eq_nil_of_le (by omega)] at hF
      unfold fillsF at hF
      rw [List.append_nil] at hF
      subst hF
      obtain ⟨a0, p0, z0⟩ := hDk.ws.form
      obtain ⟨a1, p1, z1⟩ := hDk.ts.form
      obtain ⟨a2, p2, z2⟩ := hDk.fs.form
      subst z0 z1 z2
      have r0 : wr.cell? ⟨w.heap.size, 0, none⟩ = some (.slice none 0 0) := obj_cell oRr 0
      have r1 : wr.cell? ⟨w.heap.size, 1, none⟩ = some (.slice none 0 0) := obj_cell oRr 1
      have r2 : wr.cell? ⟨w.heap.size, 2, none⟩ = some (.slice none 0 0) := obj_cell oRr 2
      have e0 := obj_free oRr 0
      have e1 := obj_free oRr 1
      have e2 := obj_free oRr 2
      have oE := obj_three oRr (.slice a0 WL.length p0) (.slice a1 TL.length p1) (.slice a2 fs.length p2)
      have hqF := b_three bwr (Nat.le_refl _) (.slice a0 WL.length p0) (.slice a1 TL.length p1) (.slice a2 fs.length p2)
      have hnoR : ∀ i, i = w.heap.size → ∀ k, (∀ r, wr.cell? ⟨i, k, none⟩ ≠ some (.bool r)) ∧ ∀ s, wr.cell? ⟨i, k, none⟩ ≠ some (.string s) := by
       rintro i rfl k
       rw [obj_cell oRr k]
       match k with
       | 0 => exact ⟨by simp, by simp⟩
       | 1 => exact ⟨by simp, by simp⟩
       | 2 => exact ⟨by simp, by simp⟩
       | n + 3 => exact ⟨by simp, by simp⟩
      have g5 := g_three wr w.heap.size (.slice a0 WL.length p0) (.slice a1 TL.length p1) (.slice a2 fs.length p2)
      have hown5 := hown.kept (w' := ((wr.setCell ⟨w.heap.size, 0, none⟩ (.slice a0 WL.length p0)).setCell ⟨w.heap.size, 1, none⟩ (.slice a1 TL.length p1)).setCell ⟨w.heap.size, 2, none⟩ (.slice a2 fs.length p2)) (row := some w.heap.size) ⟨g5.os, g5.tape, g5.output, g5.size, fun k hk he => g5.block k hk (fun e => he (by rw [e]))⟩ (.inr (farF oRr hown (by decide)))
      have hDF : IsDk (((wr.setCell ⟨w.heap.size, 0, none⟩ (.slice a0 WL.length p0)).setCell ⟨w.heap.size, 1, none⟩ (.slice a1 TL.length p1)).setCell ⟨w.heap.size, 2, none⟩ (.slice a2 fs.length p2)) (.slice a0 WL.length p0) (.slice a1 TL.length p1) (.slice a2 fs.length p2) ⟨WL, TL, fs⟩ := ⟨isRecs_keepG hDk.ws hnoR g5, isRecs_keepG hDk.ts hnoR g5, isFls_own hown5⟩
      have HZ := Lib.hid (And.intro oE (And.intro hqF hDF))
      clear oE hqF hDF hown5 g5 hnoR hDk hown oRr bwr hG oX wr4 tpT obR4 b04 hnoX hbW hU
      go_wp2
      obtain ⟨oE, hqF, hDF⟩ := HZ.out
      have c0 := obj_cell oE 0
      have c1 := obj_cell oE 1
      have c2 := obj_cell oE 2
      refine bodyPost_ret (v := .agg #[(.slice a0 WL.length p0), (.slice a1 TL.length p1), (.slice a2 fs.length p2)]) (by simp [results, Tryz.results6, go_sem, c0, c1, c2]) rfl ⟨_, _, _, rfl, by rw [hWL.out]; exact hDF, hqF⟩
end Go.Proofs.YtglniapfnhedoaaGreatDoor
