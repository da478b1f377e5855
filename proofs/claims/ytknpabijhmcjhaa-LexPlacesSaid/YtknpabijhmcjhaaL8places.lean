/-
  Each word stands where it is said.
-/
import Derived.Test.YtknpabijhmcjhaaL8tells
import Derived.Test.YtknpabijhmcjhaaPlacem
import Derived.Deep.QuietTactic
import Derived.BigQuiet
namespace Go.Proofs.Ytknpabijhmcjhaa
open Go.RowKit

def placesS : ByteArray := ⟨#[97, 98, 32, 90, 46, 48, 57, 9, 10, 32, 32]⟩
theorem places_plain : ∀ r : Nat, r < 11 → plainN (placesS.data.toList.getD r 0).toNat := by
  intro r hr
  have : r = 0 ∨ r = 1 ∨ r = 2 ∨ r = 3 ∨ r = 4 ∨ r = 5 ∨ r = 6 ∨ r = 7 ∨ r = 8 ∨ r = 9 ∨ r = 10 := by omega
  rcases this with rfl | rfl | rfl | rfl | rfl | rfl | rfl | rfl | rfl | rfl | rfl
  · exact .inl rfl
  · exact .inl rfl
  · exact .inr (.inl rfl)
  · exact .inl rfl
  · exact .inl rfl
  · exact .inl rfl
  · exact .inl rfl
  · exact .inr (.inr (.inl rfl))
  · exact .inr (.inr (.inr rfl))
  · exact .inr (.inl rfl)
  · exact .inr (.inl rfl)
theorem strB_full {t : List UInt8} (h : t ≠ []) : (strB t).toList.isEmpty = false := by
  rw [toList_empty, strB_size, decide_eq_false]
  have := List.length_pos_iff.2 h
  omega
set_option maxHeartbeats 8000000 in
set_option maxRecDepth 100000 in
theorem places_main (v1 : Value) (b1 : List UInt8) (w : World) (h1 : IsU8s w v1 b1) : Calls Try.prog 6 #[v1] w fun e w' => e = .returned (.bool true) ∧ B w w' := by
  obtain ⟨ao1, cap1, bk1, o1, rfl, i1⟩ := h1
  obtain ⟨ib, hib, hz0, hz1, hz2⟩ := info_of byteInfo
  by_cases c1 : 100 < b1.length
  · have c1B : decide ((100 : Int) < (b1.length : Int)) = true := decide_eq_true (by omega)
    clear i1 c1
    go_enter Try.func6, Try.ntmps6
    go_wp2_with fail
    refine (known8_any _).mono ?_
    rintro e w1 ⟨rfl, q1⟩
    go_wp2
    go_ret
    exact ⟨rfl, q1⟩
  have c1B : decide ((100 : Int) < (b1.length : Int)) = false := decide_eq_false (by omega)
  go_enter Try.func6, Try.ntmps6
  go_wp2_with fail
  refine (known8_any _).mono ?_
  rintro e w1 ⟨rfl, q1⟩
  go_wp2
  go_loopw [3, 4] (fun bv iv wr => ∃ (i : Nat) (ao : Option Addr) (c : Nat) (bs : List UInt8), i ≤ b1.length ∧ iv = .int .i64 i ∧ bv = .slice ao i c ∧ bs.length = i ∧ (∀ x ∈ bs, plainN x.toNat) ∧ wr.ownsRow w.heap.size 5 1 (.slice ao i c) i (cellsL bs) ∧ B w wr) (fun _ iv _ => b1.length + 1 - (intOf iv).toNat)
  case atStart => exact ⟨0, none, 0, [], by omega, rfl, rfl, rfl, fun x hx => (by cases hx), World.ownsRow_nil _ _ _ _, q1⟩
  case round =>
    obtain ⟨i, ao, c, bs, hi, rfl, rfl, hlen, hpl, hown, hB⟩ := hrel
    obtain ⟨wo, rfl⟩ : ∃ wo : World, wo = wr := ⟨_, rfl⟩
    by_cases hl : i < b1.length
    · obtain rfl := i1.ao (by omega)
      obtain ⟨x, hx⟩ : ∃ x, b1[i]? = some x := ⟨_, List.getElem?_eq_getElem hl⟩
      have hc := hB.keep (i1.at_ i x hx)
      have hlB : decide ((i : Int) < (b1.length : Int)) = true := decide_eq_true (by omega)
      have hlI : (i : Int) < (b1.length : Int) := by omega
      have hi0 : (0 : Int) ≤ (i : Int) := by omega
      have wk1 : IntKind.i64.wrap ((i : Int) + 1) = (i : Int) + 1 := by rw [IntKind.wrap_i64]; omega
      obtain ⟨r, hr⟩ : ∃ r : Nat, ((x.toNat : Nat) : Int).tmod 11 = (r : Int) := ⟨x.toNat % 11, by rw [Int.tmod_eq_emod_of_nonneg (by omega)]; omega⟩
      have hr11 : r < 11 := by rw [Int.tmod_eq_emod_of_nonneg (by omega)] at hr; omega
      have wr1 : IntKind.u8.wrap (r : Int) = (r : Int) := by simp [IntKind.wrap, IntKind.signed, IntKind.bits]; omega
      obtain ⟨m, hm⟩ : ∃ m, x.toNat = m := ⟨_, rfl⟩
      rw [hm] at hc hr
      obtain ⟨y, hy⟩ : ∃ y : UInt8, y = placesS.data.toList.getD r 0 := ⟨_, rfl⟩
      have hyp : plainN y.toNat := by rw [hy]; exact places_plain r hr11
      obtain ⟨Y, hY⟩ : ∃ Y : Nat, y.toNat = Y := ⟨_, rfl⟩
      have hg : ∀ h : r < placesS.size, (placesS[r]'h).toNat = Y := fun h => by rw [byteAt_get placesS r h, ← hY, hy]; rfl
      unfold placesS at hg
      have hrI : (r : Int) < 11 := by omega
      have hr0 : (0 : Int) ≤ (r : Int) := by omega
      have own2 := row_keep hown ((B.refl wo).alloc #[.int .u8 (Y : Int)] 5)
      have B2 := hB.alloc #[.int .u8 (Y : Int)] 5
      have hb2 := B2.below.size
      have hcl : cellsL (bs ++ [y]) = cellsL bs ++ [.int .u8 (Y : Int)] := by unfold cellsL; rw [List.map_append]; simp [hY]
      have hpl2 : ∀ x ∈ bs ++ [y], plainN x.toNat := fun x hx => by
        rcases List.mem_append.1 hx with hx | hx
        · exact hpl x hx
        · rw [List.mem_singleton] at hx; subst hx; exact hyp
      have HS := Lib.hid (And.intro hcl (And.intro B2 (And.intro hlen (And.intro hl hpl2))))
      have h16 : i ≤ 100 := by omega
      clear hown hB hx hm hy hY hcl B2 hlen hl i1 c1 c1B q1 hpl hpl2 hyp
      go_wp2_with (at_builtin; refine wpList_append_lies _ rfl _ _ 22 rfl w.heap.size 5 ib _ 1 1 Try.underlying22 hib hz0 hz1 hz2 rfl (by omega) (.slice ao i c) i (cellsL bs) rfl own2 ⟨wo.heap.size, 0, none⟩ 1 1 [.int .u8 (Y : Int)] rfl rfl (newest rfl) (fun u hu => by simp at hu; rw [hu]; rfl) (by omega) (by unfold maxLen; omega) (by omega) hb2 _ rfl ?_; intro gb cp W4 hown4 hgrow hat4 hlt4; have B4 := HS.out.2.1.grownBy hgrow (fun x hx => (own2.lt x hx).1); rw [← HS.out.1] at hown4; clear hgrow hat4 hlt4 own2; go_wp2_with fail)
      go_roundw
      case rel => exact ⟨i + 1, _, _, bs ++ [y], by have := HS.out.2.2.2.1; omega, by go_num, rfl, by have := HS.out.2.2.1; simp; omega, HS.out.2.2.2.2, hown4, B4⟩
      case measure => have := HS.out.2.2.2.1; simp [intOf]; omega
    · have hlB : decide ((i : Int) < (b1.length : Int)) = false := decide_eq_false (by omega)
      have hbl : bs.length ≤ 100 := by omega
      obtain ⟨LL, eLL, hch, hsum⟩ := plain_lines (bs := bs) (by omega) hpl
      obtain ⟨bk, hbs⟩ := isB_own hown hlen
      subst hlen
      have cA := lines_any _ _ _ _ _ _ hbs
      have HBo := Lib.hid hB
      have Hpl := Lib.hid hpl
      clear hown hB i1 c1 c1B q1 hpl hi
      go_wp2_with fail
      refine cA.mono ?_
      clear cA
      unfold LinesRes
      rw [eLL]
      rintro e w6 ⟨va, rfl, ha, q6⟩
      obtain ⟨al, cl, rfl⟩ := ha.form
      have HB6 := Lib.hid (HBo.out.trans q6)
      have hb6 := hbs.keep q6
      clear hbs q6 HBo eLL hl
      obtain ⟨N, hN⟩ : ∃ N, npart bs = N := ⟨_, rfl⟩
      rw [hN] at hsum
      have hN100 : N ≤ 100 := by
        rw [← hN]
        have := List.length_filter_le (fun c : UInt8 => partN c.toNat) bs
        unfold npart
        omega
      have sm := ha.small
      unfold maxLen at sm
      have hcapb := hb6.max
      have hleb := hb6.le
      unfold maxLen at hcapb
      go_wp2
      go_loopw [8, 9, 10] (fun nv lv iv wr => ∃ (i n lo : Nat) (z : Int), i ≤ LL.length ∧ iv = .int .i64 i ∧ nv = .int .i64 n ∧ lv = .int .i64 z ∧ z = (lo : Int) - 1 ∧ lo ≤ 100 ∧ chain bs lo (LL.drop i).flatten ∧ n + sumL (LL.drop i).flatten = N ∧ B w6 wr) (fun _ _ iv _ => LL.length + 1 - (intOf iv).toNat)
      case atStart => exact ⟨0, 0, 0, -1, by omega, rfl, rfl, rfl, by omega, by omega, hch, by rw [List.drop_zero, hsum]; omega, B.refl _⟩
      case round =>
        obtain ⟨i, n, lo, z, hi, rfl, rfl, rfl, hz, hlo, hchi, hsumi, hBi⟩ := hrel
        obtain ⟨wi, rfl⟩ : ∃ wi : World, wi = wr := ⟨_, rfl⟩
        clear hch hsum
        by_cases hli : i < LL.length
        · have hiB : decide ((i : Int) < (LL.length : Int)) = true := decide_eq_true (by omega)
          have hiI : (i : Int) < (LL.length : Int) := by omega
          have hi0 : (0 : Int) ≤ (i : Int) := by omega
          have wki : IntKind.i64.wrap ((i : Int) + 1) = (i : Int) + 1 := by rw [IntKind.wrap_i64]; omega
          obtain ⟨g, d, u, e1, k1, hw1⟩ := ha.at_ hli
          obtain ⟨rfl, _, rfl⟩ : al = some ⟨g, 0, none⟩ ∧ True ∧ cl = d := by simpa using e1
          obtain ⟨L, hL⟩ : ∃ L, LL[i] = L := ⟨_, rfl⟩
          have hgL : LL[i]? = some L := by rw [← hL]; exact List.getElem?_eq_getElem hli
          rw [hL] at hw1
          have hLs := sm.2 L (List.mem_of_getElem? hgL)
          rw [rest_row hgL] at hchi hsumi
          obtain ⟨aw, cw, rfl⟩ := hw1.form
          have kI := hBi.keep k1
          have Hout := Lib.hid (And.intro hchi (And.intro hsumi hBi))
          have HLi := Lib.hid hli
          clear hchi hsumi hL hgL e1
          go_wp2
          go_loopw [8, 9, 11] (fun nv lv kv wr => ∃ (k n lo : Nat) (z : Int), k ≤ L.length ∧ kv = .int .i64 k ∧ nv = .int .i64 n ∧ lv = .int .i64 z ∧ z = (lo : Int) - 1 ∧ lo ≤ 100 ∧ chain bs lo (L.drop k ++ (LL.drop (i + 1)).flatten) ∧ n + sumL (L.drop k ++ (LL.drop (i + 1)).flatten) = N ∧ B w6 wr) (fun _ _ kv _ => L.length + 1 - (intOf kv).toNat)
          case atStart => exact ⟨0, n, lo, z, by omega, rfl, rfl, rfl, hz, hlo, Hout.out.1, Hout.out.2.1, Hout.out.2.2⟩
          case round =>
            clear Hout hBi hz hlo kI
            obtain ⟨k, n, lo, z, hk, rfl, rfl, rfl, hz, hlo, hchk, hsumk, hBk⟩ := hrel
            obtain ⟨wv, rfl⟩ : ∃ wv : World, wv = wr := ⟨_, rfl⟩
            have kI := hBk.keep k1
            by_cases hlk : k < L.length
            · have hkB : decide ((k : Int) < (L.length : Int)) = true := decide_eq_true (by omega)
              have hkI : (k : Int) < (L.length : Int) := by omega
              have hk0 : (0 : Int) ≤ (k : Int) := by omega
              have wkk : IntKind.i64.wrap ((k : Int) + 1) = (k : Int) + 1 := by rw [IntKind.wrap_i64]; omega
              obtain ⟨x, hx⟩ : ∃ x, L[k]? = some x := ⟨_, List.getElem?_eq_getElem hlk⟩
              obtain ⟨gw, dw, ew, _, _, _, zw⟩ := (hw1.keep hBk).full (by omega)
              obtain ⟨rfl, _, rfl⟩ : aw = some ⟨gw, 0, none⟩ ∧ True ∧ cw = dw := by simpa using ew
              obtain ⟨n1, n2⟩ := zw k x hx
              rw [rest_word hx] at hchk hsumk
              obtain ⟨a, t⟩ := x
              obtain ⟨ch1, ch2, ch3, ch4, ch5⟩ := hchk
              replace hsumk : n + sumL ((a, t) :: (L.drop (k + 1) ++ (LL.drop (i + 1)).flatten)) = N := hsumk
              rw [sumL_cons] at hsumk
              simp only at ch1 ch2 ch3 ch4 ch5 n1 n2 hsumk
              have hbk := hb6.keep hBk
              obtain ⟨dl, hdl⟩ : ∃ dl, t.length = dl := ⟨_, rfl⟩
              have hdl0 : 0 < dl := by rw [← hdl]; exact List.length_pos_iff.2 ch2
              obtain rfl := hbk.ao (by omega)
              obtain ⟨E, hE⟩ : ∃ E, a + dl = E := ⟨_, rfl⟩
              rw [hdl] at ch3 ch4 ch5 hsumk
              rw [hE] at ch3 ch4 ch5
              have hT1 := strB_full ch2
              have hT2 : (strB t).size = dl := by rw [strB_size, hdl]
              have hconv : ∀ W : World, BAt W bk 0 bs → (convert 22 9 (.slice (some ⟨bk, a, none⟩) (E - a) (c - a))).run Try.prog W = .ok (.string (strB t)) W := fun W hW => by
                have hcl := cut_len (bs := bs) (i := a) (k := E) (by omega) (by omega)
                have := run_convert_bytes_arg (P := Try.prog) W 22 5 Try.underlying22 Try.underlying5 bk a (E - a) (c - a) (nums (cut bs a E)) (by rw [nums_len, hcl])
                  (by have := ((hW.drop a).take (E - a) |>.nums hcl); rw [Nat.zero_add] at this; exact this) 9 Try.underlying9
                rw [strB_nums, ch4] at this
                exact this
              obtain ⟨S, hS⟩ : ∃ S, strB t = S := ⟨_, rfl⟩
              rw [hS] at hT1 hT2 n2 hconv
              have b1' : decide ((a : Int) ≤ z) = false := decide_eq_false (by omega)
              have b2' : decide ((bs.length : Int) < (E : Int)) = false := decide_eq_false (by omega)
              have b2n : decide (bs.length < E) = false := decide_eq_false (by omega)
              have p1 : IntKind.i64.wrap ((a : Int) + (dl : Int)) = (E : Int) := by rw [IntKind.wrap_i64]; omega
              obtain ⟨zz, hzz⟩ : ∃ zz : Int, zz = (E : Int) - 1 := ⟨_, rfl⟩
              have p2 : IntKind.i64.wrap ((E : Int) - 1) = zz := by rw [IntKind.wrap_i64]; omega
              obtain ⟨nn, hnn⟩ : ∃ nn, nn = n + dl := ⟨_, rfl⟩
              have p3 : IntKind.i64.wrap ((n : Int) + (dl : Int)) = (nn : Int) := by rw [IntKind.wrap_i64]; omega
              have a0 : (0 : Int) ≤ (a : Int) := by omega
              have aE : (a : Int) ≤ (E : Int) := by omega
              have Ec : (E : Int) ≤ (c : Int) := by omega
              have ac : a < c := by omega
              have ac' : ¬ c = a := by omega
              have BW := (B.refl wv).alloc #[.int .i64 (a : Int), .string S] 44
              have hcv := hconv _ (hbk.at_.keep BW)
              have hcvn := fun n => hconv _ (hbk.at_.keep (BW.drewN n))
              have m1 : (wv.alloc (.cells #[.int .i64 (a : Int), .string S] 44)).cell? ⟨wv.heap.size, 0, none⟩ = some (.int .i64 (a : Int)) := by rw [World.cell?_alloc_new]; rfl
              have m2 : (wv.alloc (.cells #[.int .i64 (a : Int), .string S] 44)).cell? ⟨wv.heap.size, 1, none⟩ = some (.string S) := by rw [World.cell?_alloc_new]; rfl
              have HK := Lib.hid (And.intro hlk (And.intro hsumk (And.intro hnn (And.intro ch5 (And.intro hzz (And.intro ch3 (hBk.trans BW)))))))
              clear zw ew hx ch1 ch2 ch3 ch4 ch5 hsumk hbk hdl hE hdl0 hS hconv hz hlo hnn hBk hlk hzz BW
              go_wp2_with fail
              go_quiet (fail)
              obtain ⟨wd, hwd⟩ : ∃ wd, (wv.alloc (.cells #[.int .i64 (a : Int), .string S] 44)).drewN nq = wd := ⟨_, rfl⟩
              have qd : B (wv.alloc (.cells #[.int .i64 (a : Int), .string S] 44)) wd := by rw [← hwd]; exact (show Dr _ _ from ⟨_, rfl⟩).q.b
              replace m1 := qd.keep m1
              replace m2 := qd.keep m2
              rw [hwd]
              have HQ := Lib.hid (HK.out.2.2.2.2.2.2.trans qd)
              clear qd hwd n1 n2 hcv hcvn b1' b2' b2n
              go_wp2
              go_roundw
              case rel => exact ⟨k + 1, nn, E, zz, by have := HK.out.1; omega, by go_num, rfl, rfl, HK.out.2.2.2.2.1, by have := HK.out.2.2.2.2.2.1; omega, HK.out.2.2.2.1, by have := HK.out.2.1; have := HK.out.2.2.1; omega, HQ.out⟩
              case measure => have := HK.out.1; simp [intOf]; omega
            · have hkB : decide ((k : Int) < (L.length : Int)) = false := decide_eq_false (by omega)
              rw [List.drop_eq_nil_of_le (by omega), List.nil_append] at hchk hsumk
              have HK := Lib.hid (And.intro hz (And.intro hlo (And.intro hchk (And.intro hsumk hBk))))
              clear hz hlo hchk hsumk hBk hw1 hk
              go_wp2
              go_roundw
              case rel => exact ⟨i + 1, n, lo, z, by have := HLi.out; omega, by go_num, rfl, rfl, HK.out.1, HK.out.2.1, HK.out.2.2.1, HK.out.2.2.2.1, HK.out.2.2.2.2⟩
              case measure => have := HLi.out; simp [intOf]; omega
        · have hiB : decide ((i : Int) < (LL.length : Int)) = false := decide_eq_false (by omega)
          rw [List.drop_eq_nil_of_le (by omega)] at hsumi
          have hnN : n = N := hsumi
          subst hnN
          have hbi := hb6.keep hBi
          have HB7 := Lib.hid (HB6.out.trans hBi)
          clear hsumi hBi hchi hz hi sm
          go_wp2
          go_loopw [13, 14] (fun av iv wr => ∃ (j m : Nat), j ≤ bs.length ∧ iv = .int .i64 j ∧ av = .int .i64 m ∧ m = npart (bs.take j) ∧ m ≤ j ∧ wi = wr) (fun _ iv _ => bs.length + 1 - (intOf iv).toNat)
          case atStart => exact ⟨0, 0, by omega, rfl, rfl, rfl, by omega, rfl⟩
          case round =>
            obtain ⟨j, m, hj, rfl, rfl, hm, hmj, rfl⟩ := hrel
            by_cases hlj : j < bs.length
            · obtain rfl := hbi.ao (by omega)
              obtain ⟨x, hx⟩ : ∃ x, bs[j]? = some x := ⟨_, List.getElem?_eq_getElem hlj⟩
              have hc := hbi.at_ j x hx
              rw [Nat.zero_add] at hc
              have hjB : decide ((j : Int) < (bs.length : Int)) = true := decide_eq_true (by omega)
              have hjI : (j : Int) < (bs.length : Int) := by omega
              have hj0 : (0 : Int) ≤ (j : Int) := by omega
              have wkj : IntKind.i64.wrap ((j : Int) + 1) = (j : Int) + 1 := by rw [IntKind.wrap_i64]; omega
              have wkm : IntKind.i64.wrap ((m : Int) + 1) = (m : Int) + 1 := by rw [IntKind.wrap_i64]; omega
              have hpx := Hpl.out x (List.mem_of_getElem? hx)
              have hnp := npart_take hx
              have hpp := plain_part hpx
              obtain ⟨Y, hY⟩ : ∃ Y : Nat, x.toNat = Y := ⟨_, rfl⟩
              rw [hY] at hc hnp hpp
              by_cases hsp : Y = 32 ∨ Y = 9 ∨ Y = 10
              · have hpf : partN Y = false := not_part hsp
                rw [hpf, if_neg (by decide), ← hm, Nat.add_zero] at hnp
                have HJ := Lib.hid (And.intro hlj (And.intro hnp hmj))
                have y32 : ((Y : Int) != 32) = !decide (Y = 32) := by by_cases h : Y = 32 <;> simp [h] <;> omega
                have y9 : ((Y : Int) != 9) = !decide (Y = 9) := by by_cases h : Y = 9 <;> simp [h] <;> omega
                have y10 : ((Y : Int) != 10) = !decide (Y = 10) := by by_cases h : Y = 10 <;> simp [h] <;> omega
                rcases hsp with e | e | e
                · rw [decide_eq_true e] at y32
                  replace y32 : ((Y : Int) != 32) = false := y32
                  clear hx hpx hnp hpp hY hpf e hm hmj hlj y9 y10
                  go_wp2
                  go_roundw
                  case rel => exact ⟨j + 1, m, by have := HJ.out.1; omega, by go_num, rfl, HJ.out.2.1.symm, by have := HJ.out.2.2; omega, trivial⟩
                  case measure => have := HJ.out.1; simp [intOf]; omega
                · rw [decide_eq_true e] at y9
                  rw [decide_eq_false (by omega)] at y32
                  replace y32 : ((Y : Int) != 32) = true := y32
                  replace y9 : ((Y : Int) != 9) = false := y9
                  clear hx hpx hnp hpp hY hpf e hm hmj hlj y10
                  go_wp2
                  go_roundw
                  case rel => exact ⟨j + 1, m, by have := HJ.out.1; omega, by go_num, rfl, HJ.out.2.1.symm, by have := HJ.out.2.2; omega, trivial⟩
                  case measure => have := HJ.out.1; simp [intOf]; omega
                · rw [decide_eq_true e] at y10
                  rw [decide_eq_false (by omega)] at y32 y9
                  replace y32 : ((Y : Int) != 32) = true := y32
                  replace y9 : ((Y : Int) != 9) = true := y9
                  replace y10 : ((Y : Int) != 10) = false := y10
                  clear hx hpx hnp hpp hY hpf e hm hmj hlj
                  go_wp2
                  go_roundw
                  case rel => exact ⟨j + 1, m, by have := HJ.out.1; omega, by go_num, rfl, HJ.out.2.1.symm, by have := HJ.out.2.2; omega, trivial⟩
                  case measure => have := HJ.out.1; simp [intOf]; omega
              · have hpt : partN Y = true := hpp.2 ⟨by omega, by omega, by omega⟩
                rw [hpt, if_pos rfl, ← hm] at hnp
                have HJ := Lib.hid (And.intro hlj (And.intro hnp hmj))
                have y32 : ((Y : Int) != 32) = true := by simp; omega
                have y9 : ((Y : Int) != 9) = true := by simp; omega
                have y10 : ((Y : Int) != 10) = true := by simp; omega
                clear hx hpx hnp hpp hY hpt hsp hm hmj hlj
                go_wp2
                go_roundw
                case rel => exact ⟨j + 1, m + 1, by have := HJ.out.1; omega, by go_num, by go_num, HJ.out.2.1.symm, by have := HJ.out.2.2; omega, trivial⟩
                case measure => have := HJ.out.1; simp [intOf]; omega
            · have hjB : decide ((j : Int) < (bs.length : Int)) = false := decide_eq_false (by omega)
              rw [List.take_of_length_le (by omega), hN] at hm
              subst hm
              have eN : ((m : Int) == (m : Int)) = true := by simp
              clear hN
              go_wp2
              go_ret
              exact ⟨rfl, HB7.out⟩
end Go.Proofs.Ytknpabijhmcjhaa
