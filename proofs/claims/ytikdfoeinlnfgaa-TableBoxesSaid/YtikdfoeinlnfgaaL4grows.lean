/-
  Layer 4: the walk of TableGrows.
-/
import Derived.Test.YtikdfoeinlnfgaaL4rises
import Derived.Deep.CutBlock
namespace Go.Proofs.Ytikdfoeinlnfgaa
open Go.RowKit

/-- Some of them widened already. -/
def mixed (d : Int) (l : List Sec) (k : Nat) : List Sec := (l.take k).map (Sec.wide d) ++ l.drop k
theorem mixed_len (d : Int) (l : List Sec) (k : Nat) : (mixed d l k).length = l.length := by
  unfold mixed
  rw [List.length_append, List.length_map, List.length_take, List.length_drop]
  omega
theorem mixed_get (d : Int) (l : List Sec) (k : Nat) (hk : k < l.length) : (mixed d l k)[k]? = some l[k] := by
  unfold mixed
  rw [List.getElem?_append_right (by simp; omega)]
  simp only [List.length_map, List.length_take]
  rw [show k - min k l.length = 0 by omega, List.getElem?_drop]
  simp [hk]
theorem mixed_set (d : Int) (l : List Sec) (k : Nat) (hk : k < l.length) : (mixed d l k).set k (l[k].wide d) = mixed d l (k + 1) := by
  unfold mixed
  have e : ((l.take k).map (Sec.wide d)).length = k := by simp; omega
  rw [List.set_append_right _ _ (by omega), e, Nat.sub_self, List.drop_eq_getElem_cons hk, List.set_cons_zero, List.take_add_one, List.getElem?_eq_getElem hk]
  simp only [Option.toList_some, List.map_append, List.map_cons, List.map_nil, List.append_assoc, List.cons_append, List.nil_append]
theorem mixed_all (d : Int) (l : List Sec) : mixed d l l.length = l.map (Sec.wide d) := by
  unfold mixed
  rw [List.take_length, List.drop_length, List.append_nil]
theorem secOk_wide {s : Sec} {d : Int} (h : secOk s = true) (hd : 0 ≤ d) (h1 : s.a0 + d ≤ 20000) (h2 : s.a1 + d ≤ 20000) : secOk (s.wide d) = true := by
  obtain ⟨_, _, g3, g4, g5, g6, _⟩ := secOk_all h
  unfold secOk at h ⊢
  simp only [Bool.and_eq_true, decide_eq_true_eq, inB_iff] at h ⊢
  obtain ⟨⟨⟨⟨⟨q1, q2⟩, q3⟩, q4⟩, q5⟩, q6⟩ := h
  exact ⟨⟨⟨⟨⟨q1, q2⟩, q3⟩, by show 0 ≤ s.a0 + d ∧ s.a0 + d ≤ 20000; omega⟩, by show 1 ≤ s.a1 + d ∧ s.a1 + d ≤ 20000; omega⟩, q6⟩
theorem right_wide {l : List Sec} {d : Int} (h : rightS l = true) (hd : 0 ≤ d) (hs : ∀ s ∈ l, s.a0 + d ≤ 20000 ∧ s.a1 + d ≤ 20000) : rightS (l.map (Sec.wide d)) = true := by
  obtain ⟨h1, h4, hok⟩ := right_all h
  have e : hsumI (l.map (Sec.wide d)) (l.map (Sec.wide d)).length = hsumI l l.length := by
    unfold hsumI
    rw [List.take_length, List.take_length, List.foldl_map]
    rfl
  unfold rightS at h ⊢
  simp only [Bool.and_eq_true, decide_eq_true_eq, List.all_eq_true] at h ⊢
  refine ⟨⟨⟨by simpa using h1, by simpa using h4⟩, fun x hx => ?_⟩, by rw [e]; exact h.2⟩
  obtain ⟨s, hm, rfl⟩ := List.mem_map.1 hx
  exact secOk_wide (hok s hm) hd (hs s hm).1 (hs s hm).2
theorem AllLe.len {L M : List (Int × Int)} (h : AllLe L M) : L.length = M.length := by
  induction h with
  | nil => rfl
  | cons _ _ _ ih => simp [ih]

set_option maxRecDepth 100000 in
set_option maxHeartbeats 8000000 in
theorem grows_law {T : World → Value → List (Int × Int) → Prop} (c : TabC T) (v : Value) (n : Nat) (rd : Bool) (by_ : Int) (hp : (Lit.int .u16 by_).wf = true) (w : World) (hv : IsU16 w v n) :
    Calls Try.prog 8 #[v, .bool rd, .int .u16 by_] w fun e w' => e = .returned (.bool true) ∧ B w w' := by
  obtain ⟨p1, p2⟩ := u16_wf hp
  clear hp
  have c0 := fun w => known4_any c w
  have cW := fun w h => wild_sides v n rd w h
  obtain ⟨ao, cap0, rfl, hn⟩ := hv.form
  by_cases hn40 : 40 < n
  · have n40 : decide ((40 : Int) < (n : Int)) = true := decide_eq_true (by omega)
    clear hv
    go_enter Try.func8, Try.ntmps8
    go_wp2_with fail
    refine (c0 _).mono ?_
    rintro e w1 ⟨rfl, g⟩
    go_wp2
    go_ret
    exact ⟨rfl, g⟩
  have n40 : decide ((40 : Int) < (n : Int)) = false := decide_eq_false (by omega)
  have HV := Lib.hid hv
  clear hv
  obtain ⟨d, ed⟩ : ∃ p, by_ % 1000 = p := ⟨_, rfl⟩
  have ed' : by_.tmod 1000 = d := by rw [Int.tmod_eq_emod_of_nonneg p1]; exact ed
  have db : 0 ≤ d ∧ d ≤ 999 := by omega
  have wd : IntKind.i64.wrap d = d := wrapI (by omega) (by omega)
  obtain ⟨i0, hi0, hz0, hz1, hz2⟩ := info_parts secInfo
  go_enter Try.func8, Try.ntmps8
  go_wp2_with fail
  refine (c0 _).mono ?_
  rintro e w1 ⟨rfl, g⟩
  go_wp2_with fail
  refine (cW _ (HV.out.keepB g)).mono ?_
  rintro e W2 ⟨v2, l, rfl, hl, hr, hsd, g2⟩
  replace g := g.trans g2
  clear g2 cW c0 HV
  obtain ⟨hl1, hl4, hok⟩ := right_all hr
  have hrw := right_wide hr db.1 (fun s hs => by have := hsd s hs; omega)
  have hall := wide_all l d db.1 hok (fun s hs => secOk_wide (hok s hs) db.1 (by have := hsd s hs; omega) (by have := hsd s hs; omega))
  rcases hl with ⟨rfl, rfl⟩ | ⟨a, cap, rfl, h2, h3, h4⟩
  · simp at hl1
  have fl1 := flat_len l
  have m1 : 0 + l.length ≤ maxLen := by unfold maxLen; omega
  have m2 : (0 + l.length) * 48 ≤ 140737488355328 := by omega
  have fl2 := secs_news h4
  have hsl : IsSecs W2 (.slice (some a) l.length cap) l := .inr ⟨a, cap, rfl, h2, h3, h4⟩
  have HSL := Lib.hid hsl
  have HRR := Lib.hid (And.intro hr (And.intro hrw hall))
  clear h4 hsl hrw hall h2 h3
  go_upto_block 0 with (at_builtin; refine wpList_append_lies _ rfl _ _ 22 rfl W2.heap.size 43 i0 _ 6 48 Try.underlying22 hi0 hz0 hz1 hz2 rfl (by omega) (.slice none 0 0) 0 [] rfl (World.ownsRow_nil _ _ _ _) a l.length cap (flat l) rfl fl1 fl2 (flat_one l) (by omega) m1 m2 (Nat.le_refl _) W2.heap.size rfl ?_; intro gb cp W3 hown hgrow hat hlt; simp only [Nat.zero_add, List.nil_append] at hown; have g3 := (B.refl W2).grownBy hgrow (fun _ h => by cases h))
  clear hgrow hat hlt fl1 fl2 m1 m2
  have H3 := Lib.hid (And.intro hown g3)
  clear hown g3
  go_wp2
  go_loopw [9] (fun i wr => ∃ k : Nat, k ≤ l.length ∧ i = .int .i64 k ∧ wr.ownsRow W2.heap.size 43 6 (.slice (some ⟨gb, 0, none⟩) l.length cp) l.length (flat (mixed d l k)) ∧ B W2 wr) (fun i _ => l.length - (intOf i).toNat)
  case atStart => exact ⟨0, Nat.zero_le _, rfl, H3.out.1, H3.out.2⟩
  case round =>
    clear H3
    obtain ⟨k, hk, rfl, hown, gq⟩ := hrel
    by_cases hkl : k < l.length
    · have hkB : decide (k < l.length) = true := decide_eq_true hkl
      have hkI : (k : Int) < (l.length : Int) := by omega
      have hg := mixed_get d l k hkl
      have hset := mixed_set d l k hkl
      have hlm := mixed_len d l k
      have hside := hsd _ (List.getElem_mem hkl)
      have fg := fun j hj => (hown.cellAt (k * 6 + j) (by omega)).trans (flat_get (mixed d l k) k j _ hg hj)
      generalize l[k] = s at *
      obtain ⟨r, h, a0, b0, a1, b1⟩ := s
      have y2 := fg 2 (by omega)
      have y4 := fg 4 (by omega)
      simp only [Sec.cells, List.getElem?_cons_zero, List.getElem?_cons_succ] at y2 y4
      have q2 := hown.frozenAt (k * 6 + 2)
      have q4 := hown.frozenAt (k * 6 + 4)
      obtain ⟨hI, hs1, hs2⟩ := hside
      simp only at hs1 hs2
      obtain ⟨_, hI2, _, hI4, _⟩ := hI
      unfold I64 at hI2 hI4
      simp only at hI2 hI4
      have e1 : IntKind.i64.wrap (a0 + d) = a0 + d := wrapI (by omega) (by omega)
      have e2 : IntKind.i64.wrap (a1 + d) = a1 + d := wrapI (by omega) (by omega)
      have f1 := flat_set (mixed d l k) k 2 ⟨r, h, a0, b0, a1, b1⟩ ⟨r, h, a0 + d, b0, a1, b1⟩ (.int .i64 (a0 + d)) hg (by omega) rfl
      have f2 := flat_set ((mixed d l k).set k ⟨r, h, a0 + d, b0, a1, b1⟩) k 4 ⟨r, h, a0 + d, b0, a1, b1⟩ ⟨r, h, a0 + d, b0, a1 + d, b1⟩ (.int .i64 (a1 + d)) (by rw [List.getElem?_set_self (by omega)]) (by omega) rfl
      rw [List.set_set] at f2
      have hset' : (mixed d l k).set k ⟨r, h, a0 + d, b0, a1 + d, b1⟩ = mixed d l (k + 1) := hset
      rw [hset'] at f2
      have o1 := (hown.stored (k * 6 + 2) (.int .i64 (a0 + d))).1
      rw [← f1] at o1
      have o2 := (o1.stored (k * 6 + 4) (.int .i64 (a1 + d))).1
      rw [← f2] at o2
      have HO := Lib.hid o2
      have g4 := (gq.setCell (p := ⟨gb, k * 6 + 2, none⟩) (hown.lt gb rfl).1 (.int .i64 (a0 + d))).setCell (p := ⟨gb, k * 6 + 4, none⟩) (hown.lt gb rfl).1 (.int .i64 (a1 + d))
      clear fg hown hg hset hset' f1 f2 o1 o2 hlm hI2 hI4 hs1 hs2 gq
      go_wp2
      go_roundw
      case rel => exact ⟨k + 1, by omega, by go_num, HO.out, g4⟩
      case measure => simp [intOf]; omega
    · have hkB : decide (k < l.length) = false := decide_eq_false hkl
      obtain rfl : k = l.length := by omega
      rw [mixed_all] at hown
      have hsg := secs_own hown (by simp) (by omega) (fun s hs => by
        obtain ⟨x, hx, rfl⟩ := List.mem_map.1 hs
        obtain ⟨⟨i1, i2, i3, i4, i5⟩, s1, s2⟩ := hsd x hx
        unfold I64 at i2 i4
        exact ⟨i1, by unfold I64; show _ ≤ x.a0 + d ∧ x.a0 + d ≤ _; omega, i3, by unfold I64; show _ ≤ x.a1 + d ∧ x.a1 + d ≤ _; omega, i5⟩)
      have hsl := HSL.out.keepB gq
      obtain ⟨hr, hrw, hall⟩ := HRR.out
      replace g := g.trans gq
      have cO1 := fun w h => c.yes (.slice (some a) l.length cap) l w h hr
      have cO2 := fun w h => c.yes (.slice (some ⟨gb, 0, none⟩) l.length cp) (l.map (Sec.wide d)) w h hrw
      have hb1 := tbnd_of hr
      have hb2 := tbnd_of hrw
      have hLM := hall.len
      have hsums := hall.sums
      generalize slAll (l.map (Sec.wide d)) = M at *
      generalize slAll l = L at *
      clear hown HSL HRR hsd hok hall gq
      go_wp2_with fail
      refine (cO1 _ hsl).mono ?_
      rintro e wS ⟨pt, rfl, ht, h⟩
      replace g := g.trans h
      replace hsg := hsg.keepB h
      clear h cO1 hsl
      go_wp2_with fail
      refine (cO2 _ hsg).mono ?_
      rintro e wS ⟨pu, rfl, hu, h⟩
      replace g := g.trans h
      replace ht := c.keep ht h
      clear h cO2 hsg
      go_wp2
      have c3 := fun v w h => c.slices v L w hb1 h
      go_loopw [14] (fun i wr => ∃ j : Nat, j ≤ L.length + 1 ∧ i = .int .i64 j ∧ T wr (.pointer (some pt)) L ∧ T wr (.pointer (some pu)) M ∧ B w wr) (fun i _ => L.length + 1 - (intOf i).toNat)
      case atStart => exact ⟨0, Nat.zero_le _, rfl, ht, hu, g⟩
      case round =>
        clear ht hu g
        obtain ⟨j, hj, rfl, ht, hu, g⟩ := hrel
        have hn6 := hb1.n
        by_cases hjl : j ≤ L.length
        · have hjB : decide ((j : Int) ≤ (L.length : Int)) = true := decide_eq_true (by omega)
          have e1 : nearI L.length (j : Int) = j := nearI_of _ _ (by omega)
          have e2 : nearI M.length (j : Int) = j := nearI_of _ _ (by omega)
          have k1 := fun v w h => c.low v M (j : Int) w hb2 (by unfold I64; omega) h
          have k2 := fun v w h => c.low v L (j : Int) w hb1 (by unfold I64; omega) h
          have k3 := fun v w h => c.high v M (j : Int) w hb2 (by unfold I64; omega) h
          have k4 := fun v w h => c.high v L (j : Int) w hb1 (by unfold I64; omega) h
          rw [e2] at k1 k3
          rw [e1] at k2 k4
          obtain ⟨s1, s2⟩ := hsums j
          generalize lowT L j = X0 at *
          generalize lowT M j = X1 at *
          generalize highT L j = Y0 at *
          generalize highT M j = Y1 at *
          have d1 : decide (X1 < X0) = false := decide_eq_false (by omega)
          have d2 : decide (Y1 < Y0) = false := decide_eq_false (by omega)
          clear s1 s2 e1 e2
          go_wp2_with fail
          refine (c3 _ _ ht).mono ?_
          rintro e wS ⟨rfl, h⟩
          replace g := g.trans h
          replace ht := c.keep ht h
          replace hu := c.keep hu h
          clear h
          go_wp2_with fail
          refine (k1 _ _ hu).mono ?_
          rintro e wS ⟨rfl, h⟩
          replace g := g.trans h
          replace ht := c.keep ht h
          replace hu := c.keep hu h
          clear h
          go_wp2_with fail
          refine (k2 _ _ ht).mono ?_
          rintro e wS ⟨rfl, h⟩
          replace g := g.trans h
          replace ht := c.keep ht h
          replace hu := c.keep hu h
          clear h
          go_wp2_with fail
          refine (k3 _ _ hu).mono ?_
          rintro e wS ⟨rfl, h⟩
          replace g := g.trans h
          replace ht := c.keep ht h
          replace hu := c.keep hu h
          clear h
          go_wp2_with fail
          refine (k4 _ _ ht).mono ?_
          rintro e wS ⟨rfl, h⟩
          replace g := g.trans h
          replace ht := c.keep ht h
          replace hu := c.keep hu h
          clear h
          go_wp2
          go_roundw
          case rel => exact ⟨j + 1, by omega, by go_num, ht, hu, g⟩
          case measure => simp [intOf]; omega
        · have hjB : decide ((j : Int) ≤ (L.length : Int)) = false := decide_eq_false (by omega)
          go_wp2_with fail
          refine (c3 _ _ ht).mono ?_
          rintro e wS ⟨rfl, h⟩
          replace g := g.trans h
          replace ht := c.keep ht h
          replace hu := c.keep hu h
          clear h
          go_wp2
          go_ret
          exact ⟨rfl, g⟩
end Go.Proofs.Ytikdfoeinlnfgaa
