/-
  The words of any bytes.
-/
import Derived.Test.YtknpabijhmcjhaaL8limit
import Derived.Test.YtknpabijhmcjhaaL8wf
namespace Go.Proofs.Ytknpabijhmcjhaa
open Go.RowKit

theorem IsLines.small {w : World} {v : Value} {LL : List (List Wd)} (h : IsLines w v LL) : LL.length ≤ maxLen ∧ ∀ ws ∈ LL, ws.length ≤ maxLen := by
  rcases h with ⟨_, rfl⟩ | ⟨g, cap, _, h2, h3, h4⟩
  · exact ⟨by unfold maxLen; simp, fun ws h => by cases h⟩
  · refine ⟨Nat.le_trans h2 h3, fun ws hws => ?_⟩
    obtain ⟨i, hi⟩ := List.getElem?_of_mem hws
    obtain ⟨u, _, k⟩ := h4 i ws hi
    rcases k with ⟨_, rfl⟩ | ⟨g, cap, _, k2, k3, _⟩
    · unfold maxLen; simp
    · exact Nat.le_trans k2 k3
/-- Bytes in a row that the call owns. -/
def cellsL (bs : List UInt8) : List Value := bs.map fun c => Value.int .u8 ((c.toNat : Nat) : Int)
theorem cellsL_len (bs : List UInt8) : (cellsL bs).length = bs.length := by simp [cellsL]
theorem isB_own {w : World} {base : Nat} {e : TypeId} {ao : Option Addr} {k c : Nat} {bs : List UInt8} (h : w.ownsRow base e 1 (.slice ao k c) k (cellsL bs)) (hl : bs.length = k) : ∃ b, IsB w ao c b 0 bs := by
  have hh := h
  rcases hh.2 with ⟨h0, h1⟩ | ⟨g, cap, cur, hv, _, _, h1, h2, _⟩
  · simp only [Value.slice.injEq] at h0
    obtain ⟨rfl, rfl, rfl⟩ := h0
    obtain rfl : bs = [] := List.length_eq_zero_iff.1 hl
    exact ⟨0, ⟨fun i c h => by simp at h, fun h => by simp at h, Nat.le_refl _, by unfold maxLen; omega⟩⟩
  · simp only [Value.slice.injEq] at hv
    obtain ⟨rfl, _, rfl⟩ := hv
    refine ⟨g, ⟨fun i c hc => ?_, fun _ => rfl, by omega, h2⟩⟩
    rw [Nat.zero_add]
    have hi : i < bs.length := (List.getElem?_eq_some_iff.1 hc).1
    rw [h.cellAt i (by omega)]
    unfold cellsL
    rw [List.getElem?_map, hc]
    rfl
def tellsS : ByteArray := ⟨#[97, 98, 32, 90, 46, 48, 57, 9, 10, 35, 120, 46, 126, 32, 10]⟩
set_option maxHeartbeats 2000000 in
theorem tells_main (v0 : Value) (b0 : List UInt8) (v1 : Value) (b1 : List UInt8) (w : World) (h0 : IsU8s w v0 b0) (h1 : IsU8s w v1 b1) : Calls Try.prog 3 #[v0, v1] w fun e w' => e = .returned (.bool true) ∧ B w w' := by
  obtain ⟨ao0, cap0, bk0, o0, rfl, i0⟩ := h0
  obtain ⟨ao1, cap1, bk1, o1, rfl, i1⟩ := h1
  obtain ⟨ib, hib, hz0, hz1, hz2⟩ := info_of byteInfo
  by_cases c0 : 300 < b0.length
  · have c0B : decide ((300 : Int) < (b0.length : Int)) = true := decide_eq_true (by omega)
    clear i0 i1 c0
    go_enter Try.func3, Try.ntmps3
    go_wp2_with fail
    refine (known8_any _).mono ?_
    rintro e w1 ⟨rfl, q1⟩
    go_wp2
    go_ret
    exact ⟨rfl, q1⟩
  have c0B : decide ((300 : Int) < (b0.length : Int)) = false := decide_eq_false (by omega)
  by_cases c1 : 100 < b1.length
  · have c1B : decide ((100 : Int) < (b1.length : Int)) = true := decide_eq_true (by omega)
    clear i0 i1 c0 c1
    go_enter Try.func3, Try.ntmps3
    go_wp2_with fail
    refine (known8_any _).mono ?_
    rintro e w1 ⟨rfl, q1⟩
    go_wp2
    go_ret
    exact ⟨rfl, q1⟩
  have c1B : decide ((100 : Int) < (b1.length : Int)) = false := decide_eq_false (by omega)
  go_enter Try.func3, Try.ntmps3
  go_wp2_with fail
  refine (known8_any _).mono ?_
  rintro e w1 ⟨rfl, q1⟩
  go_wp2
  go_loopw [5, 6] (fun bv iv wr => ∃ (i : Nat) (ao : Option Addr) (c : Nat) (bs : List UInt8), i ≤ b1.length ∧ iv = .int .i64 i ∧ bv = .slice ao i c ∧ bs.length = i ∧ wr.ownsRow w.heap.size 5 1 (.slice ao i c) i (cellsL bs) ∧ B w wr) (fun _ iv _ => b1.length + 1 - (intOf iv).toNat)
  case atStart => exact ⟨0, none, 0, [], by omega, rfl, rfl, rfl, World.ownsRow_nil _ _ _ _, q1⟩
  case round =>
    obtain ⟨i, ao, c, bs, hi, rfl, rfl, hlen, hown, hB⟩ := hrel
    obtain ⟨wo, rfl⟩ : ∃ wo : World, wo = wr := ⟨_, rfl⟩
    by_cases hl : i < b1.length
    · obtain rfl := i1.ao (by omega)
      obtain ⟨x, hx⟩ : ∃ x, b1[i]? = some x := ⟨_, List.getElem?_eq_getElem hl⟩
      have hc := hB.keep (i1.at_ i x hx)
      have hlB : decide ((i : Int) < (b1.length : Int)) = true := decide_eq_true (by omega)
      have hlI : (i : Int) < (b1.length : Int) := by omega
      have hi0 : (0 : Int) ≤ (i : Int) := by omega
      have wk1 : IntKind.i64.wrap ((i : Int) + 1) = (i : Int) + 1 := by rw [IntKind.wrap_i64]; omega
      obtain ⟨r, hr⟩ : ∃ r : Nat, ((x.toNat : Nat) : Int).tmod 15 = (r : Int) := ⟨x.toNat % 15, by rw [Int.tmod_eq_emod_of_nonneg (by omega)]; omega⟩
      have hr15 : r < 15 := by rw [Int.tmod_eq_emod_of_nonneg (by omega)] at hr; omega
      have wr1 : IntKind.u8.wrap (r : Int) = (r : Int) := by simp [IntKind.wrap, IntKind.signed, IntKind.bits]; omega
      obtain ⟨m, hm⟩ : ∃ m, x.toNat = m := ⟨_, rfl⟩
      rw [hm] at hc hr
      obtain ⟨y, hy⟩ : ∃ y : UInt8, y = tellsS.data.toList.getD r 0 := ⟨_, rfl⟩
      obtain ⟨Y, hY⟩ : ∃ Y : Nat, y.toNat = Y := ⟨_, rfl⟩
      have hg : ∀ h : r < tellsS.size, (tellsS[r]'h).toNat = Y := fun h => by rw [byteAt_get tellsS r h, ← hY, hy]; rfl
      unfold tellsS at hg
      have hrI : (r : Int) < 15 := by omega
      have hr0 : (0 : Int) ≤ (r : Int) := by omega
      have own2 := row_keep hown ((B.refl wo).alloc #[.int .u8 (Y : Int)] 5)
      have B2 := hB.alloc #[.int .u8 (Y : Int)] 5
      have hb2 := B2.below.size
      have hcl : cellsL (bs ++ [y]) = cellsL bs ++ [.int .u8 (Y : Int)] := by unfold cellsL; rw [List.map_append]; simp [hY]
      have HS := Lib.hid (And.intro hcl (And.intro B2 (And.intro hlen hl)))
      have h16 : i ≤ 100 := by omega
      clear hown hB hx hm hy hY hcl B2 hlen hl i0 i1 c0 c1 c0B c1B q1
      go_wp2_with (at_builtin; refine wpList_append_lies _ rfl _ _ 22 rfl w.heap.size 5 ib _ 1 1 Try.underlying22 hib hz0 hz1 hz2 rfl (by omega) (.slice ao i c) i (cellsL bs) rfl own2 ⟨wo.heap.size, 0, none⟩ 1 1 [.int .u8 (Y : Int)] rfl rfl (newest rfl) (fun u hu => by simp at hu; rw [hu]; rfl) (by omega) (by unfold maxLen; omega) (by omega) hb2 _ rfl ?_; intro gb cp W4 hown4 hgrow hat4 hlt4; have B4 := HS.out.2.1.grownBy hgrow (fun x hx => (own2.lt x hx).1); rw [← HS.out.1] at hown4; clear hgrow hat4 hlt4 own2; go_wp2_with fail)
      go_roundw
      case rel => exact ⟨i + 1, _, _, bs ++ [y], by have := HS.out.2.2; omega, by go_num, rfl, by have := HS.out.2.2.1; simp; omega, hown4, B4⟩
      case measure => have := HS.out.2.2; simp [intOf]; omega
    · have hlB : decide ((i : Int) < (b1.length : Int)) = false := decide_eq_false (by omega)
      obtain ⟨bk, hbs⟩ := isB_own hown hlen
      have hI0 := i0.keep hB
      subst hlen
      obtain ⟨W2, hW2⟩ : ∃ W2, wo.alloc (.cells #[.slice ao0 b0.length cap0, .slice ao bs.length c] 22) = W2 := ⟨_, rfl⟩
      have qW : B wo W2 := by rw [← hW2]; exact (B.refl wo).alloc _ _
      have k0 : W2.cell? ⟨wo.heap.size, 0, none⟩ = some (.slice ao0 b0.length cap0) := by rw [← hW2, World.cell?_alloc_new]; rfl
      have k1 : W2.cell? ⟨wo.heap.size, 1, none⟩ = some (.slice ao bs.length c) := by rw [← hW2, World.cell?_alloc_new]; rfl
      have HX := Lib.hid (show ∀ j, j < 2 → ∃ ax cx bx ox bsx, W2.cell? ⟨wo.heap.size, j, none⟩ = some (.slice ax bsx.length cx) ∧ IsB W2 ax cx bx ox bsx from fun j hj => by
        have : j = 0 ∨ j = 1 := by omega
        rcases this with rfl | rfl
        · exact ⟨_, _, _, _, _, k0, hI0.keep qW⟩
        · exact ⟨_, _, _, _, _, k1, hbs.keep qW⟩)
      have HB := Lib.hid (hB.trans qW)
      clear k0 k1 qW hI0 hbs hown hB i0 i1 c0 c1 q1 c0B c1B hi
      go_wp2
      try rw [hW2]
      generalize wo.heap.size = H at *
      clear hW2
      go_loopw [44] (fun jv wr => ∃ j : Nat, j ≤ 2 ∧ jv = .int .i64 j ∧ B W2 wr) (fun jv _ => 3 - (intOf jv).toNat)
      case atStart => exact ⟨0, by omega, rfl, B.refl _⟩
      case round =>
        obtain ⟨j, hj, rfl, hBj⟩ := hrel
        obtain ⟨wv, rfl⟩ : ∃ wv : World, wv = wr := ⟨_, rfl⟩
        by_cases hl2 : j < 2
        · have hjB : decide ((j : Int) < 2) = true := decide_eq_true (by omega)
          have hjI : (j : Int) < 2 := by omega
          have hj0 : (0 : Int) ≤ (j : Int) := by omega
          have wk1 : IntKind.i64.wrap ((j : Int) + 1) = (j : Int) + 1 := by rw [IntKind.wrap_i64]; omega
          obtain ⟨ax, cx, bx, ox, bsx, kc, hx⟩ := HX.out j hl2
          replace kc := hBj.keep kc
          have cA := lines_any _ _ _ _ _ _ (hx.keep hBj)
          have HL := Lib.hid hl2
          go_wp2_with fail
          refine cA.mono ?_
          rintro e w5 ⟨va, rfl, ha, q5⟩
          clear cA
          have cB := r8lines_any _ _ _ _ _ _ ((hx.keep hBj).keep q5)
          obtain ⟨aa, ca, rfl⟩ := ha.form
          go_wp2_with fail
          refine cB.mono ?_
          rintro e w6 ⟨vb, rfl, hb, q6⟩
          clear cB
          obtain ⟨ab, cb, rfl⟩ := hb.form
          have sm := ha.small
          have cS := same_any _ _ _ w6 (ha.keep q6) hb sm.1 sm.2
          obtain ⟨X, hX⟩ : ∃ X, (linesB bsx).2.1 = X := ⟨_, rfl⟩
          obtain ⟨E, hE⟩ : ∃ E, (linesB bsx).2.2 = E := ⟨_, rfl⟩
          rw [hX, hE]
          have n1 : ((X : Int) != (X : Int)) = false := by simp
          have n2 : ((E : Int) != (E : Int)) = false := by simp
          have HQ := Lib.hid ((hBj.trans q5).trans q6)
          clear sm ha hb q5 q6 hX hE hx kc hBj hl2
          go_wp2_with fail
          refine cS.mono ?_
          rintro e w7 ⟨rfl, q7⟩
          clear cS
          have HR := Lib.hid (HQ.out.trans q7.q.b)
          clear q7
          go_wp2
          go_roundw
          case rel => exact ⟨j + 1, by have := HL.out; omega, by go_num, HR.out⟩
          case measure => have := HL.out; simp [intOf]; omega
        · have hjB : decide ((j : Int) < 2) = false := decide_eq_false (by omega)
          have HR := Lib.hid (HB.out.trans hBj)
          clear hBj
          go_wp2
          go_ret
          exact ⟨rfl, HR.out⟩
end Go.Proofs.Ytknpabijhmcjhaa
