/-
  Shapes of any numbers have each a table of their own.
-/
import Derived.Test.YtppiocopokbdlaaDoorL6a
import Derived.Test.YtppiocopokbdlaaDoorSeat2
import Derived.Test.YtppiocopokbdlaaDoorR3same
namespace Go.Proofs.YtppiocopokbdlaaDoor
open Go.RowKit

set_option maxRecDepth 100000 in
set_option maxHeartbeats 16000000 in
theorem cwild_main (v0 v1 : Value) (n0 n1 : Nat) (rd : Bool) (w : World) (h0 : IsU16 w v0 n0) (h1 : IsU16 w v1 n1) (hp : Pow10 w) (c0 : n0 ≤ 30) (c1 : n1 ≤ 30) :
    Calls Tryd.prog 4 #[v0, v1, .bool rd] w fun e w' => e = .returned (.bool true) ∧ B w w' := by
  have cK := known6_any w hp
  have cN := fun w => cnew_any CTab w
  have cX := fun w' (q : B w w') => wild_any v0 n0 rd w' (h0.keepB q)
  have cY := fun w' (q : B w w') => wild_any v1 n1 (!rd) w' (h1.keepB q)
  obtain ⟨ao0, cap0, rfl, _⟩ := h0.form
  obtain ⟨ao1, cap1, rfl, _⟩ := h1.form
  have d0 : decide (30 < (n0 : Int)) = false := decide_eq_false (by omega)
  have d1 : decide (30 < (n1 : Int)) = false := decide_eq_false (by omega)
  obtain ⟨i0, hi0, hz0, hz1, hz2⟩ := info_parts secInfo
  have hnot : ∀ (x : Bool) (w : World), (Op.unary .not (.bool x)).run Tryd.prog w = .ok (.bool (!x)) w := fun _ _ => rfl
  clear h0 h1
  go_enter Tryd.func4, Tryd.ntmps4
  go_wp2_with fail
  refine cK.mono ?_
  rintro e w1 ⟨rfl, b1⟩
  go_wp2_with fail
  refine (cN _).mono ?_
  rintro e w2 ⟨c, bm, base, rfl, hC2, hbm, hb2, q2⟩
  have b2 := b1.trans q2
  have z1 := b1.below.size
  clear q2 b1
  go_wp2_with fail
  refine (cX _ b2).mono ?_
  rintro e w3 ⟨vx, lx, rfl, hvx, hrx, q3⟩
  have hC3 := CacheM.keepB hC2 q3
  have b3 := b2.trans q3
  clear hC2 b2 q3
  go_wp2_with fail
  refine (cY _ b3).mono ?_
  rintro e w4 ⟨vy, ly, rfl, hvy, hry, q4⟩
  have hC4 := CacheM.keepB hC3 q4
  have b4 := b3.trans q4
  have hx4 := hvx.keepB q4
  clear hC3 b3 q4 hvx
  go_wp2_with fail
  refine (ctab_first w w4 vx b4 hp (by omega) hC4 (by omega) (by simp) hx4 hrx (fun e h => by cases h)).mono ?_
  rintro e w8 ⟨x, e0, rfl, hpx, hel, _, hC8, b8, g8⟩
  have hx8 := hC4.secs hx4 g8
  have hy8 := hC4.secs hvy g8
  have hxl := right_all hrx
  clear hC4 b4 g8 hx4 hvy
  by_cases hs : lx = ly
  · have HS := Lib.hid hs
    clear hs
    go_wp2_with fail
    refine (ctab_again w w8 vy b8 hp (by omega) hC8 (by omega) (by simp) hy8 e0 (by simp) (hel.trans HS.out) hpx).mono ?_
    rintro e w9 ⟨rfl, hC9, b9, g9⟩
    have hx9 := hC8.secs hx8 g9
    have hy9 := hC8.secs hy8 g9
    clear hC8 b8 g9 hx8 hy8
    rcases hx9 with ⟨rfl, rfl⟩ | ⟨a, cap, rfl, h2, h3, h4⟩
    · simp at hxl
    have hI : ∀ s ∈ lx, s.I := fun s hs => by obtain ⟨q, hq⟩ := List.getElem?_of_mem hs; exact (h4 q s hq).1
    have fl1 := flat_len lx
    have fl2 := secs_news h4
    have m1 : 0 + lx.length ≤ maxLen := by unfold maxLen; omega
    have m2 : (0 + lx.length) * 48 ≤ 140737488355328 := by omega
    have HC := Lib.hid hC9
    have HX : Hid (IsSecs w9 (.slice (some a) lx.length cap) lx) := Lib.hid (.inr ⟨a, cap, rfl, h2, h3, h4⟩)
    have HY := Lib.hid hy9
    clear hC9 hy9 h4
    go_wp2_with (at_builtin; refine wpList_append_lies _ rfl _ _ 23 rfl w9.heap.size 47 i0 _ 6 48 Tryd.underlying23 hi0 hz0 hz1 hz2 rfl (by omega) (.slice none 0 0) 0 [] rfl (World.ownsRow_nil _ _ _ _) a lx.length cap (flat lx) rfl fl1 fl2 (flat_one lx) (by omega) m1 m2 (Nat.le_refl _) w9.heap.size rfl ?_; intro gb cp wa hown hgrow hat hlt; simp only [Nat.zero_add, List.nil_append] at hown; have ba := (B.refl w9).grownBy hgrow (fun _ h => by cases h); have hCa := CacheM.keepB HC.out ba; have hxa := HX.out.keepB ba; have hya := HY.out.keepB ba; replace b9 := b9.trans ba; clear hgrow hat ba HC HX HY)
    have hva : IsSecs wa (.slice (some ⟨gb, 0, none⟩) lx.length cp) lx := secs_own hown rfl (by omega) hI
    refine (ctab_again w wa _ b9 hp (by omega) hCa (by omega) (by simp) hva e0 (by simp) hel hpx).mono ?_
    rintro e wb ⟨rfl, hCb, bb, gb'⟩
    have hxb := hCa.secs hxa gb'
    have hyb := hCa.secs hya gb'
    clear hCa hxa hya hva gb' hown b9
    have cE := r3same_any _ _ lx ly wb hxb hyb
    rw [decide_eq_true HS.out] at cE
    go_wp2_with fail
    refine cE.mono ?_
    rintro e wc ⟨rfl, qc⟩
    have hCc := CacheM.keepB hCb qc.b
    have bc := bb.trans qc.b
    have p1 := ptr_eq x

    have cB1 : Calls Tryd.prog 14 #[.pointer (some ⟨c, 0, none⟩)] wc fun e w' => e = .returned (.int .i64 1) ∧ w' = wc := by simpa using cbuilt_any wc hCc
    have cA : Calls Tryd.prog 12 #[.pointer (some ⟨c, 0, none⟩)] wc fun e w' => e = .returned (.int .i64 3) ∧ w' = wc := by simpa using casked_any wc hCc
    clear hCb hCc qc bb hxb hyb
    go_wp2_with (first | (go_at_call 14; with_reducible refine cB1.mono ?_; rintro e w12 ⟨rfl, rfl⟩) | (go_at_call 12; with_reducible refine cA.mono ?_; rintro e w12 ⟨rfl, rfl⟩))
    go_ret
    exact ⟨rfl, bc⟩
  · have HS := Lib.hid hs
    clear hs
    go_wp2_with fail
    refine (ctab_first w w8 vy b8 hp (by omega) hC8 (by omega) (by simp) hy8 hry (fun e h => by obtain rfl : e = e0 := (by simpa using h); rw [hel]; exact HS.out)).mono ?_
    rintro e w9 ⟨y, e1, rfl, hpy, hfl, _, hC9, b9, g9⟩
    have hx9 := hC8.secs hx8 g9
    have hy9 := hC8.secs hy8 g9
    clear hC8 b8 g9 hx8 hy8
    rcases hx9 with ⟨rfl, rfl⟩ | ⟨a, cap, rfl, h2, h3, h4⟩
    · simp at hxl
    have hI : ∀ s ∈ lx, s.I := fun s hs => by obtain ⟨q, hq⟩ := List.getElem?_of_mem hs; exact (h4 q s hq).1
    have fl1 := flat_len lx
    have fl2 := secs_news h4
    have m1 : 0 + lx.length ≤ maxLen := by unfold maxLen; omega
    have m2 : (0 + lx.length) * 48 ≤ 140737488355328 := by omega
    have HC := Lib.hid hC9
    have HX : Hid (IsSecs w9 (.slice (some a) lx.length cap) lx) := Lib.hid (.inr ⟨a, cap, rfl, h2, h3, h4⟩)
    have HY := Lib.hid hy9
    clear hC9 hy9 h4
    go_wp2_with (at_builtin; refine wpList_append_lies _ rfl _ _ 23 rfl w9.heap.size 47 i0 _ 6 48 Tryd.underlying23 hi0 hz0 hz1 hz2 rfl (by omega) (.slice none 0 0) 0 [] rfl (World.ownsRow_nil _ _ _ _) a lx.length cap (flat lx) rfl fl1 fl2 (flat_one lx) (by omega) m1 m2 (Nat.le_refl _) w9.heap.size rfl ?_; intro gb cp wa hown hgrow hat hlt; simp only [Nat.zero_add, List.nil_append] at hown; have ba := (B.refl w9).grownBy hgrow (fun _ h => by cases h); have hCa := CacheM.keepB HC.out ba; have hxa := HX.out.keepB ba; have hya := HY.out.keepB ba; replace b9 := b9.trans ba; clear hgrow hat ba HC HX HY)
    have hva : IsSecs wa (.slice (some ⟨gb, 0, none⟩) lx.length cp) lx := secs_own hown rfl (by omega) hI
    refine (ctab_again w wa _ b9 hp (by omega) hCa (by omega) (by simp) hva e0 (by simp) hel hpx).mono ?_
    rintro e wb ⟨rfl, hCb, bb, gb'⟩
    have hxb := hCa.secs hxa gb'
    have hyb := hCa.secs hya gb'
    clear hCa hxa hya hva gb' hown b9
    have cE := r3same_any _ _ lx ly wb hxb hyb
    rw [decide_eq_false HS.out] at cE
    go_wp2_with fail
    refine cE.mono ?_
    rintro e wc ⟨rfl, qc⟩
    have hCc := CacheM.keepB hCb qc.b
    have bc := bb.trans qc.b
    have p1 := ptr_eq x
    obtain ⟨cs0, ty0, ob0⟩ := (hCc.ents e0 (by simp)).tab.ob x hpx
    obtain ⟨cs1, ty1, ob1⟩ := (hCc.ents e1 (by simp)).tab.ob y hpy
    have p2 := ptr_ne (ents_ne hCc (a := e0) (b := e1) (by simp) (by simp) (by rw [hel, hfl]; exact HS.out) hpx hpy) ob0 ob1
    have cB1 : Calls Tryd.prog 14 #[.pointer (some ⟨c, 0, none⟩)] wc fun e w' => e = .returned (.int .i64 2) ∧ w' = wc := by simpa using cbuilt_any wc hCc
    have cA : Calls Tryd.prog 12 #[.pointer (some ⟨c, 0, none⟩)] wc fun e w' => e = .returned (.int .i64 3) ∧ w' = wc := by simpa using casked_any wc hCc
    clear hCb hCc qc bb hxb hyb
    go_wp2_with (first | (go_at_call 14; with_reducible refine cB1.mono ?_; rintro e w12 ⟨rfl, rfl⟩) | (go_at_call 12; with_reducible refine cA.mono ?_; rintro e w12 ⟨rfl, rfl⟩))
    go_ret
    exact ⟨rfl, bc⟩

set_option maxRecDepth 100000 in
set_option maxHeartbeats 4000000 in
theorem cwild_law (v0 v1 : Value) (n0 n1 : Nat) (rd : Bool) (w : World) (h0 : IsU16 w v0 n0) (h1 : IsU16 w v1 n1) (hp : Pow10 w) :
    Calls Tryd.prog 4 #[v0, v1, .bool rd] w fun e w' => e = .returned (.bool true) ∧ B w w' := by
  by_cases c0 : n0 ≤ 30
  · by_cases c1 : n1 ≤ 30
    · exact cwild_main v0 v1 n0 n1 rd w h0 h1 hp c0 c1
    · have cK := known6_any w hp
      obtain ⟨ao0, cap0, rfl, _⟩ := h0.form
      obtain ⟨ao1, cap1, rfl, _⟩ := h1.form
      have d0 : decide (30 < (n0 : Int)) = false := decide_eq_false (by omega)
      have d1 : decide (30 < (n1 : Int)) = true := decide_eq_true (by omega)
      have hnot : ∀ (x : Bool) (w : World), (Op.unary .not (.bool x)).run Tryd.prog w = .ok (.bool (!x)) w := fun _ _ => rfl
      clear h0 h1 c0 c1
      go_enter Tryd.func4, Tryd.ntmps4
      go_wp2_with fail
      refine cK.mono ?_
      rintro e w1 ⟨rfl, b1⟩
      go_wp2
      go_ret
      exact ⟨rfl, b1⟩
  · have cK := known6_any w hp
    obtain ⟨ao0, cap0, rfl, _⟩ := h0.form
    have d0 : decide (30 < (n0 : Int)) = true := decide_eq_true (by omega)
    have hnot : ∀ (x : Bool) (w : World), (Op.unary .not (.bool x)).run Tryd.prog w = .ok (.bool (!x)) w := fun _ _ => rfl
    clear h0 h1 c0
    go_enter Tryd.func4, Tryd.ntmps4
    go_wp2_with fail
    refine cK.mono ?_
    rintro e w1 ⟨rfl, b1⟩
    go_wp2
    go_ret
    exact ⟨rfl, b1⟩
theorem cwild_ok (v0 : Value) (n0 : Nat) (v1 : Value) (n1 : Nat) (rd : Bool) (w : World) (h0 : IsU16 w v0 n0) (h1 : IsU16 w v1 n1) (htab : Lib.TabIs Tryd.prog w "internal/strconv.uint64pow10" .u64 Lib.pow10Tab) :
    Calls Tryd.prog 4 #[v0, v1, .bool rd] w fun e w' => e = .returned (.bool true) ∧ B w w' := cwild_law v0 v1 n0 n1 rd w h0 h1 (Lib.tabBelow_of_tabIs htab)
end Go.Proofs.YtppiocopokbdlaaDoor
