/-
  Each cache has tables of its own; what is handed in may be changed behind it.
-/
import Derived.Test.YtppiocopokbdlaaDoorL6a
import Derived.Test.YtppiocopokbdlaaDoorSeat1n
import Derived.Test.YtppiocopokbdlaaDoorSecq
namespace Go.Proofs.YtppiocopokbdlaaDoor
open Go.RowKit

theorem apart_one (w : World) (g k : Nat) (v : Value) : G (fun i => i = g) w (w.setCell ⟨g, k, none⟩ v) := one_own w g k v
theorem shape_first (m : Nat) (hm : m < 6) : ∃ s l, shapeOf m = s :: l ∧ s.h ≤ hsumI (shapeOf m) (shapeOf m).length ∧ 0 ≤ s.h ∧ s.h ≤ 60000 := by
  match m, hm with
  | 0, _ => exact ⟨_, _, rfl, by decide, by decide, by decide⟩
  | 1, _ => exact ⟨_, _, rfl, by decide, by decide, by decide⟩
  | 2, _ => exact ⟨_, _, rfl, by decide, by decide, by decide⟩
  | 3, _ => exact ⟨_, _, rfl, by decide, by decide, by decide⟩
  | 4, _ => exact ⟨_, _, rfl, by decide, by decide, by decide⟩
  | 5, _ => exact ⟨_, _, rfl, by decide, by decide, by decide⟩

set_option maxRecDepth 100000 in
set_option maxHeartbeats 8000000 in
theorem own_law (k : Int) (hk : (Lit.int .u8 k).wf = true) (w : World) (hp : Pow10 w) : Calls Tryd.prog 5 #[.int .u8 k] w fun e w' => e = .returned (.bool true) ∧ B w w' := by
  obtain ⟨k1, k2⟩ := u8_wf hk
  have cK := known6_any w hp
  have cN := fun w => cnew_any CTab w
  have cS := fun w => shape_new k k1 k2 w
  have hm : (k % 6).toNat < 6 := by omega
  generalize (k % 6).toNat = m at *
  have hr := shape_right m
  obtain ⟨i0, hi0, hz0, hz1, hz2⟩ := info_parts secInfo
  have hnot : ∀ (x : Bool) (w : World), (Op.unary .not (.bool x)).run Tryd.prog w = .ok (.bool (!x)) w := fun _ _ => rfl
  go_enter Tryd.func5, Tryd.ntmps5
  go_wp2_with fail
  refine cK.mono ?_
  rintro e w1 ⟨rfl, b1⟩
  go_wp2_with fail
  refine (cN _).mono ?_
  rintro e w2 ⟨c, bm, base, rfl, hC2, hbm, hb2, q2⟩
  go_wp2_with fail
  refine (cN _).mono ?_
  rintro e w3 ⟨d, bd, basd, rfl, hD3, hbd, hb3, q3⟩
  have hC3 := CacheM.keepB hC2 q3
  have b3 := (b1.trans q2).trans q3
  have z1 := b1.below.size
  have z2 := q2.below.size
  clear hC2 q2 q3
  go_wp2_with fail
  refine (cS _).mono ?_
  rintro e w4 ⟨v4, rfl, hv4, q4, hg4⟩
  have hC4 := CacheM.keepB hC3 q4.b
  have hD4 := CacheM.keepB hD3 q4.b
  have b4 := b3.trans q4.b
  have z4 := q4.b.below.size
  clear hC3 hD3 q4 b3
  obtain ⟨s0, l', hl, hle, hh0, hh1⟩ := shape_first m hm
  have hlen := right_all hr
  have hf0 : (flat (shapeOf m))[1]? = some (.int .i64 s0.h) := by
    have := flat_get (shapeOf m) 0 1 s0 (by rw [hl]; rfl) (by omega)
    simpa [Sec.cells] using this
  generalize shapeOf m = L at *
  rcases hv4 with ⟨rfl, rfl⟩ | ⟨a, cap, rfl, h2, h3, h4⟩
  · simp at hlen
  have hI : ∀ s ∈ L, s.I := fun s hs => by obtain ⟨q, hq⟩ := List.getElem?_of_mem hs; exact (h4 q s hq).1
  have fl1 := flat_len L
  have fl2 := secs_news h4
  have m1 : 0 + L.length ≤ maxLen := by unfold maxLen; omega
  have m2 : (0 + L.length) * 48 ≤ 140737488355328 := by omega
  have HL := Lib.hid hl
  have HC := Lib.hid hC4
  have HD := Lib.hid hD4
  clear hl hC4 hD4 h4
  go_wp2_with (at_builtin; refine wpList_append_lies _ rfl _ _ 23 rfl w4.heap.size 47 i0 _ 6 48 Tryd.underlying23 hi0 hz0 hz1 hz2 rfl (by omega) (.slice none 0 0) 0 [] rfl (World.ownsRow_nil _ _ _ _) a L.length cap (flat L) rfl fl1 fl2 (flat_one L) (by omega) m1 m2 (Nat.le_refl _) w4.heap.size rfl ?_; intro gb cp w5 hown hgrow hat hlt; simp only [Nat.zero_add, List.nil_append] at hown; have b5 := (B.refl w4).grownBy hgrow (fun _ h => by cases h); have hC5 := CacheM.keepB HC.out b5; have hD5 := CacheM.keepB HD.out b5; replace b4 := b4.trans b5; have hgb := (hown.lt gb rfl).1; clear hgrow hat b5 HC HD)
  have hv5 : IsSecs w5 (.slice (some ⟨gb, 0, none⟩) L.length cp) L := secs_own hown rfl (by omega) hI
  refine (ctab_first w w5 _ b4 hp (by omega) hC5 (by omega) (by simp) hv5 hr (fun e h => by cases h)).mono ?_
  rintro e w6 ⟨x, e0, rfl, hx, hel, heb, hC6, b6, g6⟩
  have x1 := hC5.lt
  have x2 := hC5.lb
  have x3 := hD5.lt
  have x4 := hD5.lb
  have x5 := (hown.lt gb rfl).2
  obtain ⟨x6, x7, x8⟩ := CacheM.his hC6 e0 (by simp)
  have hD6 := CacheM.apartG hD5 g6 (fun i hi => ⟨by rcases hi with rfl | rfl <;> omega, by rcases hi with rfl | rfl <;> omega, fun e he => by cases he⟩)
  have hown6 := own_keep hown (fun g hg => by cases hg; exact g6.block gb x5 (by rintro (h | h) <;> omega))
  have hcell := (hown6.cellAt 1 (by omega)).trans hf0
  have hfr := hown6.frozenAt 1
  have hone := apart_one w6 gb 1 (.int .i64 (s0.h + 100))
  have hC7 := CacheM.apartG hC6 hone (fun i hi => by subst hi; exact ⟨by omega, by omega, fun e he => by obtain rfl : e = e0 := (by simpa using he); omega⟩)
  have hD7 := CacheM.apartG hD6 hone (fun i hi => by subst hi; exact ⟨by omega, by omega, fun e he => by cases he⟩)
  have b7 : B w (w6.setCell ⟨gb, 1, none⟩ (.int .i64 (s0.h + 100))) := b6.setCell (p := ⟨gb, 1, none⟩) (by have := b4.below.size; show w.heap.size ≤ gb; omega) _
  have hw : IntKind.i64.wrap (s0.h + 100) = s0.h + 100 := wrapI (by omega) (by omega)
  have hn : (0 : Int) < (L.length : Int) := by omega
  have HC7 := Lib.hid hC7
  have HD7 := Lib.hid hD7
  have z7 : (w6.setCell ⟨gb, 1, none⟩ (.int .i64 (s0.h + 100))).heap.size = w6.heap.size := by simp [World.setCell]
  clear hC5 hD5 hC6 hD6 hown hown6 hone g6 b6 hC7 hD7 hv5
  go_wp2_with fail
  refine (cS _).mono ?_
  rintro e w8 ⟨v8, rfl, hv8, q8, _⟩
  have hC8 := CacheM.keepB HC7.out q8.b
  have hD8 := CacheM.keepB HD7.out q8.b
  have b8 := b7.trans q8.b
  have z8 := q8.b.below.size
  rw [z7] at z8
  clear HC7 HD7 b7 q8 hcell hfr z7
  go_wp2_with fail
  refine (ctab_again w w8 v8 b8 hp (by omega) hC8 (by omega) (by simp) hv8 e0 (by simp) hel hx).mono ?_
  rintro e w9 ⟨rfl, hC9, b9, g9⟩
  have hD9 := CacheM.apartG hD8 g9 (fun i hi => ⟨by rcases hi with rfl | rfl <;> omega, by rcases hi with rfl | rfl <;> omega, fun e he => by cases he⟩)
  have z9 := g9.size
  clear hC8 hD8 b8 g9 hv8
  go_wp2_with fail
  refine (cS _).mono ?_
  rintro e w10 ⟨v10, rfl, hv10, q10, _⟩
  have hC10 := CacheM.keepB hC9 q10.b
  have hD10 := CacheM.keepB hD9 q10.b
  have b10 := b9.trans q10.b
  have z10 := q10.b.below.size
  clear hC9 hD9 b9 q10
  go_wp2_with fail
  refine (ctab_first w w10 v10 b10 hp (by omega) hD10 (by omega) (by simp) hv10 hr (fun e h => by cases h)).mono ?_
  rintro e w11 ⟨y, e1, rfl, hy, hfl, hfb, hD11, b11, g11⟩
  have hC11 := CacheM.apartG hC10 g11 (fun i hi => ⟨by rcases hi with rfl | rfl <;> omega, by rcases hi with rfl | rfl <;> omega, fun e he => by obtain rfl : e = e0 := (by simpa using he); rcases hi with rfl | rfl <;> omega⟩)
  have t0 := (hC11.ents e0 (by simp)).tab
  have t1 := (hD11.ents e1 (by simp)).tab
  have t2 := (hD11.ents e1 (by simp)).ord
  obtain ⟨cs0, ty0, ob0⟩ := t0.ob x hx
  obtain ⟨cs1, ty1, ob1⟩ := t1.ob y hy
  have hxy : x ≠ y := by
    obtain ⟨x', ex, y1, y2⟩ := t0.at_
    obtain ⟨x'', ex', y3, y4⟩ := t1.at_
    rw [hx] at ex
    rw [hy] at ex'
    simp only [Value.pointer.injEq, Option.some.injEq, Addr.mk.injEq] at ex ex'
    omega
  have p1 := ptr_eq x
  have p2 := ptr_neq_other hxy ob0 ob1
  have cB1 : Calls Tryd.prog 14 #[.pointer (some ⟨c, 0, none⟩)] w11 fun e w' => e = .returned (.int .i64 1) ∧ w' = w11 := by simpa using cbuilt_any w11 hC11
  have cB2 : Calls Tryd.prog 14 #[.pointer (some ⟨d, 0, none⟩)] w11 fun e w' => e = .returned (.int .i64 1) ∧ w' = w11 := by simpa using cbuilt_any w11 hD11
  have cA : Calls Tryd.prog 12 #[.pointer (some ⟨d, 0, none⟩)] w11 fun e w' => e = .returned (.int .i64 1) ∧ w' = w11 := by simpa using casked_any w11 hD11
  have cT := fun w' (q : B w11 w') => ent_tall w' (CacheM.keepB hC11 q) e0 (by simp) hx
  have cW := fun w' (q : B w11 w') => ent_tall w' (CacheM.keepB hD11 q) e1 (by simp) hy
  rw [hel] at cT
  rw [hfl] at cW
  have hleB := decide_eq_true hle
  generalize hsumI L L.length = X at *
  clear hC10 hD10 b10 g11 hC11 hD11 t0 t1 ob0 ob1 cS cN hn hw hle hr hf0
  go_wp2_with (first | (go_at_call 14; with_reducible refine cB1.mono ?_; rintro e w12 ⟨rfl, rfl⟩) | (go_at_call 14; with_reducible refine cB2.mono ?_; rintro e w12 ⟨rfl, rfl⟩) | (go_at_call 12; with_reducible refine cA.mono ?_; rintro e w12 ⟨rfl, rfl⟩))
  refine (cT _ (B.refl _)).mono ?_
  rintro e wA ⟨rfl, qA⟩
  go_wp2_with fail
  refine (cT _ qA).mono ?_
  rintro e wB ⟨rfl, qB⟩
  go_wp2_with fail
  refine (cW _ (qA.trans qB)).mono ?_
  rintro e wC ⟨rfl, qC⟩
  go_wp2
  go_ret
  exact ⟨rfl, ((b11.trans qA).trans qB).trans qC⟩
theorem own_ok (k : Int) (hk : (Lit.int .u8 k).wf = true) (w : World) (htab : Lib.TabIs Tryd.prog w "internal/strconv.uint64pow10" .u64 Lib.pow10Tab) :
    Calls Tryd.prog 5 #[.int .u8 k] w fun e w' => e = .returned (.bool true) ∧ B w w' := own_law k hk w (Lib.tabBelow_of_tabIs htab)
end Go.Proofs.YtppiocopokbdlaaDoor
