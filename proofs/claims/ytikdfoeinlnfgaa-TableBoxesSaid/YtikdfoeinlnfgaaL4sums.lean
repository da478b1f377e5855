/-
  Layer 4: the walk of TableSums.
-/
import Derived.Test.YtikdfoeinlnfgaaL4a
import Derived.Test.YtikdfoeinlnfgaaSecq
namespace Go.Proofs.Ytikdfoeinlnfgaa
open Go.RowKit

theorem shapes_two : ∀ m, m < 6 → ∀ p, p < 6 → ((shapeOf m ++ shapeOf p).length ≤ 4 → rightS (shapeOf m ++ shapeOf p) = true) := by decide
theorem flat_append (l m : List Sec) : flat (l ++ m) = flat l ++ flat m := List.flatMap_append

set_option maxRecDepth 100000 in
set_option maxHeartbeats 8000000 in
theorem sums_law {T : World → Value → List (Int × Int) → Prop} (c : TabC T) (k j : Int) (hk : (Lit.int .u8 k).wf = true) (hj : (Lit.int .u8 j).wf = true) (w : World) :
    Calls Try.prog 6 #[.int .u8 k, .int .u8 j] w fun e w' => e = .returned (.bool true) ∧ B w w' := by
  obtain ⟨k1, k2⟩ := u8_wf hk
  obtain ⟨j1, j2⟩ := u8_wf hj
  clear hk hj
  have c0 := fun w => known4_any c w
  have cK := fun w => shape_any k k1 k2 w
  have cJ := fun w => shape_any j j1 j2 w
  have rK := shape_right (k % 6).toNat
  have rJ := shape_right (j % 6).toNat
  have rB := shapes_two (k % 6).toNat (by omega) (j % 6).toNat (by omega)
  generalize shapeOf (k % 6).toNat = la at *
  generalize shapeOf (j % 6).toNat = lb at *
  obtain ⟨la1, la4, _⟩ := right_all rK
  obtain ⟨lb1, lb4, _⟩ := right_all rJ
  rw [List.length_append] at rB
  have wl : IntKind.i64.wrap ((la.length : Int) + (lb.length : Int)) = (la.length : Int) + (lb.length : Int) := wrapI (by omega) (by omega)
  by_cases hbig : 4 < la.length + lb.length
  · have hbB : decide ((4 : Int) < (la.length : Int) + (lb.length : Int)) = true := decide_eq_true (by omega)
    clear rB
    go_enter Try.func6, Try.ntmps6
    go_wp2_with fail
    refine (c0 _).mono ?_
    rintro e w1 ⟨rfl, g⟩
    go_wp2_with fail
    refine (cK _).mono ?_
    rintro e w2 ⟨v1, rfl, hv1, q2⟩
    replace g := g.trans q2.b
    go_wp2_with fail
    refine (cJ _).mono ?_
    rintro e w3 ⟨v2, rfl, hv2, q3⟩
    replace g := g.trans q3.b
    obtain ⟨oa, ca, rfl⟩ : ∃ o ca, v1 = .slice o la.length ca := by
      rcases hv1 with ⟨rfl, rfl⟩ | ⟨a, cap, rfl, _⟩
      · exact ⟨_, _, rfl⟩
      · exact ⟨_, _, rfl⟩
    obtain ⟨ob, cb, rfl⟩ : ∃ o ca, v2 = .slice o lb.length ca := by
      rcases hv2 with ⟨rfl, rfl⟩ | ⟨a, cap, rfl, _⟩
      · exact ⟨_, _, rfl⟩
      · exact ⟨_, _, rfl⟩
    clear hv1 hv2
    go_wp2
    go_ret
    exact ⟨rfl, g⟩
  have hbB : decide ((4 : Int) < (la.length : Int) + (lb.length : Int)) = false := decide_eq_false (by omega)
  replace rB := rB (by omega)
  obtain ⟨i0, hi0, hz0, hz1, hz2⟩ := info_parts secInfo
  have hbA := tbnd_of rK
  have hbB' := tbnd_of rJ
  have hbW := tbnd_of rB
  go_enter Try.func6, Try.ntmps6
  go_wp2_with fail
  refine (c0 _).mono ?_
  rintro e w1 ⟨rfl, g⟩
  go_wp2_with fail
  refine (cK _).mono ?_
  rintro e w2 ⟨v1, rfl, hv1, q2⟩
  replace g := g.trans q2.b
  go_wp2_with fail
  refine (cJ _).mono ?_
  rintro e w3 ⟨v2, rfl, hv2, q3⟩
  replace g := g.trans q3.b
  replace hv1 := hv1.keepB q3.b
  clear q2 q3 cK cJ c0
  rcases hv1 with ⟨rfl, rfl⟩ | ⟨aA, capA, rfl, hA2, hA3, hA4⟩
  · simp at la1
  rcases hv2 with ⟨rfl, rfl⟩ | ⟨aB, capB, rfl, hB2, hB3, hB4⟩
  · simp at lb1
  have hsa : IsSecs w3 (.slice (some aA) la.length capA) la := .inr ⟨aA, capA, rfl, hA2, hA3, hA4⟩
  have hsb : IsSecs w3 (.slice (some aB) lb.length capB) lb := .inr ⟨aB, capB, rfl, hB2, hB3, hB4⟩
  have cO1 := fun w h => c.yes (.slice (some aA) la.length capA) la w h rK
  have cO2 := fun w h => c.yes (.slice (some aB) lb.length capB) lb w h rJ
  have HA := Lib.hid hA4
  have HB := Lib.hid hB4
  clear hA4 hB4 hA2 hA3 hB2 hB3
  go_wp2_with fail
  refine (cO1 _ hsa).mono ?_
  rintro e w4 ⟨pt, rfl, ht, h⟩
  replace g := g.trans h
  have gA := h
  replace hsb := hsb.keepB h
  clear h
  go_wp2_with fail
  refine (cO2 _ hsb).mono ?_
  rintro e W4 ⟨pu, rfl, hu, h⟩
  replace g := g.trans h
  replace gA := gA.trans h
  replace ht := c.keep ht h
  clear h cO1 cO2 hsa hsb
  have fA := secs_news (fun i s hs => ⟨(HA.out i s hs).1, (HA.out i s hs).2.keepB gA⟩)
  have flA := flat_len la
  have flB := flat_len lb
  have m1 : 0 + la.length ≤ maxLen := by unfold maxLen; omega
  have m2 : (0 + la.length) * 48 ≤ 140737488355328 := by omega
  have m3 : la.length + lb.length ≤ maxLen := by unfold maxLen; omega
  have m4 : (la.length + lb.length) * 48 ≤ 140737488355328 := by omega
  go_wp2_with (at_builtin; first
    | (refine wpList_append_lies _ rfl _ _ 22 rfl W4.heap.size 43 i0 _ 6 48 Try.underlying22 hi0 hz0 hz1 hz2 rfl (by omega) (.slice none 0 0) 0 [] rfl (World.ownsRow_nil _ _ _ _) aA la.length capA (flat la) rfl flA fA (flat_one la) (by omega) m1 m2 (Nat.le_refl _) W4.heap.size rfl ?_; intro gb cp W5 hown hgrow hat hlt; simp only [Nat.zero_add, List.nil_append] at hown; have g5 := (B.refl W4).grownBy hgrow (fun _ h => by cases h))
    | (refine wpList_append_lies _ rfl _ _ 22 rfl W4.heap.size 43 i0 _ 6 48 Try.underlying22 hi0 hz0 hz1 hz2 rfl (by omega) (.slice (some ⟨gb, 0, none⟩) la.length cp) la.length (flat la) rfl hown aB lb.length capB (flat lb) rfl flB (secs_news (fun i s hs => ⟨(HB.out i s hs).1, (HB.out i s hs).2.keepB (gA.trans g5)⟩)) (flat_one lb) (by omega) m3 m4 g5.below.size W5.heap.size rfl ?_; intro gc cc W6 hown2 hgrow2 hat2 hlt2))
  have g6 := g5.grownBy hgrow2 (fun b h => by rw [← Option.some.inj h]; exact (hown.lt gb rfl).1)
  rw [← flat_append] at hown2
  have hsw := secs_own hown2 (by simp) (by omega) (fun s hs => by
    rcases List.mem_append.1 hs with h | h
    · obtain ⟨i, hi⟩ := List.getElem?_of_mem h; exact (HA.out i s hi).1
    · obtain ⟨i, hi⟩ := List.getElem?_of_mem h; exact (HB.out i s hi).1)
  replace g := g.trans g6
  replace ht := c.keep ht g6
  replace hu := c.keep hu g6
  have cO3 := fun w h => c.yes (.slice (some ⟨gc, 0, none⟩) (la.length + lb.length) cc) (la ++ lb) w h rB
  clear hown hown2 hgrow hgrow2 hat hat2 hlt hlt2 g5 g6 gA fA HA HB
  refine (cO3 _ hsw).mono ?_
  rintro e w7 ⟨pw, rfl, hw, h⟩
  replace g := g.trans h
  replace ht := c.keep ht h
  replace hu := c.keep hu h
  clear h cO3 hsw
  rw [slAll_append] at hw hbW
  generalize slAll la = LA at *
  generalize slAll lb = LB at *
  obtain ⟨n, hn⟩ : ∃ n, LA.length = n := ⟨_, rfl⟩
  obtain ⟨m, hm⟩ : ∃ n, LB.length = n := ⟨_, rfl⟩
  have hn6 := hbW.n
  rw [List.length_append, hn, hm] at hn6
  have s1 := fun v w h => c.slices v LA w hbA h
  have s2 := fun v w h => c.slices v LB w hbB' h
  have s3 := fun v w h => c.slices v (LA ++ LB) w hbW h
  have t1 := fun v w h => c.tall v LA w hbA h
  have t2 := fun v w h => c.tall v LB w hbB' h
  have t3 := fun v w h => c.tall v (LA ++ LB) w hbW h
  have eLen : ((LA ++ LB).length : Int) = (n : Int) + (m : Int) := by rw [List.length_append, hn, hm]; omega
  have eTall : ((n : Int) + (m : Int)) * 100 = (n : Int) * 100 + (m : Int) * 100 := by omega
  rw [hn] at s1 t1
  rw [hm] at s2 t2
  rw [eLen] at s3
  rw [eLen, eTall] at t3
  have wn : IntKind.i64.wrap ((n : Int) + (m : Int)) = (n : Int) + (m : Int) := wrapI (by omega) (by omega)
  have wt : IntKind.i64.wrap ((n : Int) * 100 + (m : Int) * 100) = (n : Int) * 100 + (m : Int) * 100 := wrapI (by omega) (by omega)
  clear eLen eTall
  go_wp2_with fail
  refine (s1 _ _ ht).mono ?_
  rintro e wS ⟨rfl, h⟩
  replace g := g.trans h
  replace ht := c.keep ht h
  replace hu := c.keep hu h
  replace hw := c.keep hw h
  clear h
  go_wp2_with fail
  refine (s2 _ _ hu).mono ?_
  rintro e wS ⟨rfl, h⟩
  replace g := g.trans h
  replace ht := c.keep ht h
  replace hu := c.keep hu h
  replace hw := c.keep hw h
  clear h
  go_wp2
  go_loopw [15] (fun i wr => ∃ q : Nat, q ≤ m + 1 ∧ i = .int .i64 q ∧ T wr (.pointer (some pt)) LA ∧ T wr (.pointer (some pu)) LB ∧ T wr (.pointer (some pw)) (LA ++ LB) ∧ B w wr) (fun i _ => m + 1 - (intOf i).toNat)
  case atStart => exact ⟨0, Nat.zero_le _, rfl, ht, hu, hw, g⟩
  case round =>
    clear ht hu hw g
    obtain ⟨q, hq, rfl, ht, hu, hw, g⟩ := hrel
    by_cases hql : q ≤ m
    · have hqB : decide ((q : Int) ≤ (m : Int)) = true := decide_eq_true (by omega)
      have e1 : nearI (LA ++ LB).length ((n : Int) + (q : Int)) = n + q := by
        unfold nearI
        rw [List.length_append, hn, hm]
        omega
      have e2 : nearI LA.length (n : Int) = n := nearI_of _ _ (by omega)
      have e3 : nearI LB.length (q : Int) = q := nearI_of _ _ (by omega)
      have a1 := fun v w h => c.low v (LA ++ LB) ((n : Int) + (q : Int)) w hbW (by unfold I64; omega) h
      have a2 := fun v w h => c.low v LA (n : Int) w hbA (by unfold I64; omega) h
      have a3 := fun v w h => c.low v LB (q : Int) w hbB' (by unfold I64; omega) h
      have b1 := fun v w h => c.high v (LA ++ LB) ((n : Int) + (q : Int)) w hbW (by unfold I64; omega) h
      have b2 := fun v w h => c.high v LA (n : Int) w hbA (by unfold I64; omega) h
      have b3 := fun v w h => c.high v LB (q : Int) w hbB' (by unfold I64; omega) h
      have x1 := lowT_append LA LB q
      have x2 := highT_append LA LB q
      rw [hn] at x1 x2
      rw [e1, x1] at a1
      rw [e1, x2] at b1
      rw [e2] at a2 b2
      rw [e3] at a3 b3
      obtain ⟨u1, u2, u3⟩ := hbA.at n (by omega)
      obtain ⟨v1, v2, v3⟩ := hbB'.at q (by omega)
      generalize lowT LA n = X at *
      generalize lowT LB q = Y at *
      generalize highT LA n = Z at *
      generalize highT LB q = V at *
      have w1' : IntKind.i64.wrap (X + Y) = X + Y := wrapI (by omega) (by omega)
      have w2' : IntKind.i64.wrap (Z + V) = Z + V := wrapI (by omega) (by omega)
      have w3' : IntKind.i64.wrap ((n : Int) + (q : Int)) = (n : Int) + (q : Int) := wrapI (by omega) (by omega)
      clear e1 e2 e3 x1 x2 u1 u2 u3 v1 v2 v3
      go_wp2_with fail
      refine (a1 _ _ hw).mono ?_
      rintro e wS ⟨rfl, h⟩
      replace g := g.trans h
      replace ht := c.keep ht h
      replace hu := c.keep hu h
      replace hw := c.keep hw h
      clear h
      go_wp2_with fail
      refine (a2 _ _ ht).mono ?_
      rintro e wS ⟨rfl, h⟩
      replace g := g.trans h
      replace ht := c.keep ht h
      replace hu := c.keep hu h
      replace hw := c.keep hw h
      clear h
      go_wp2_with fail
      refine (a3 _ _ hu).mono ?_
      rintro e wS ⟨rfl, h⟩
      replace g := g.trans h
      replace ht := c.keep ht h
      replace hu := c.keep hu h
      replace hw := c.keep hw h
      clear h
      go_wp2_with fail
      refine (b1 _ _ hw).mono ?_
      rintro e wS ⟨rfl, h⟩
      replace g := g.trans h
      replace ht := c.keep ht h
      replace hu := c.keep hu h
      replace hw := c.keep hw h
      clear h
      go_wp2_with fail
      refine (b2 _ _ ht).mono ?_
      rintro e wS ⟨rfl, h⟩
      replace g := g.trans h
      replace ht := c.keep ht h
      replace hu := c.keep hu h
      replace hw := c.keep hw h
      clear h
      go_wp2_with fail
      refine (b3 _ _ hu).mono ?_
      rintro e wS ⟨rfl, h⟩
      replace g := g.trans h
      replace ht := c.keep ht h
      replace hu := c.keep hu h
      replace hw := c.keep hw h
      clear h
      go_wp2
      go_roundw
      case rel => exact ⟨q + 1, by omega, by go_num, ht, hu, hw, g⟩
      case measure => simp [intOf]; omega
    · have hqB : decide ((q : Int) ≤ (m : Int)) = false := decide_eq_false (by omega)
      go_wp2
      go_loopw [16] (fun i wr => ∃ q : Nat, q ≤ n + 1 ∧ i = .int .i64 q ∧ T wr (.pointer (some pt)) LA ∧ T wr (.pointer (some pu)) LB ∧ T wr (.pointer (some pw)) (LA ++ LB) ∧ B w wr) (fun i _ => n + 1 - (intOf i).toNat)
      case atStart => exact ⟨0, Nat.zero_le _, rfl, ht, hu, hw, g⟩
      case round =>
        clear ht hu hw g hqB hql hq
        obtain ⟨z, hz, rfl, ht, hu, hw, g⟩ := hrel
        by_cases hzl : z ≤ n
        · have hzB : decide ((z : Int) ≤ (n : Int)) = true := decide_eq_true (by omega)
          have e1 : nearI (LA ++ LB).length (z : Int) = z := nearI_of _ _ (by rw [List.length_append]; omega)
          have e2 : nearI LA.length (z : Int) = z := nearI_of _ _ (by omega)
          have a1 := fun v w h => c.low v (LA ++ LB) (z : Int) w hbW (by unfold I64; omega) h
          have a2 := fun v w h => c.low v LA (z : Int) w hbA (by unfold I64; omega) h
          rw [e1, lowT_left LA LB z (by omega)] at a1
          rw [e2] at a2
          clear e1 e2
          go_wp2_with fail
          refine (a1 _ _ hw).mono ?_
          rintro e wS ⟨rfl, h⟩
          replace g := g.trans h
          replace ht := c.keep ht h
          replace hu := c.keep hu h
          replace hw := c.keep hw h
          clear h
          go_wp2_with fail
          refine (a2 _ _ ht).mono ?_
          rintro e wS ⟨rfl, h⟩
          replace g := g.trans h
          replace ht := c.keep ht h
          replace hu := c.keep hu h
          replace hw := c.keep hw h
          clear h
          go_wp2
          go_roundw
          case rel => exact ⟨z + 1, by omega, by go_num, ht, hu, hw, g⟩
          case measure => simp [intOf]; omega
        · have hzB : decide ((z : Int) ≤ (n : Int)) = false := decide_eq_false (by omega)
          go_wp2_with fail
          refine (s3 _ _ hw).mono ?_
          rintro e wS ⟨rfl, h⟩
          replace g := g.trans h
          replace ht := c.keep ht h
          replace hu := c.keep hu h
          replace hw := c.keep hw h
          clear h
          go_wp2_with fail
          refine (t3 _ _ hw).mono ?_
          rintro e wS ⟨rfl, h⟩
          replace g := g.trans h
          replace ht := c.keep ht h
          replace hu := c.keep hu h
          replace hw := c.keep hw h
          clear h
          go_wp2_with fail
          refine (t1 _ _ ht).mono ?_
          rintro e wS ⟨rfl, h⟩
          replace g := g.trans h
          replace ht := c.keep ht h
          replace hu := c.keep hu h
          replace hw := c.keep hw h
          clear h
          go_wp2_with fail
          refine (t2 _ _ hu).mono ?_
          rintro e wS ⟨rfl, h⟩
          replace g := g.trans h
          replace ht := c.keep ht h
          replace hu := c.keep hu h
          replace hw := c.keep hw h
          clear h
          go_wp2
          go_ret
          exact ⟨rfl, g⟩
end Go.Proofs.Ytikdfoeinlnfgaa
