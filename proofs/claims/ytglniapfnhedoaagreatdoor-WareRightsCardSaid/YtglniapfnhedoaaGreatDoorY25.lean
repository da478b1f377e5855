/-
 Contracts and what they rest on.
-/
import Derived.Lib.SlBytesConst
import Derived.Test.YtglniapfnhedoaaGreatDoorY24
namespace Go.Proofs.YtglniapfnhedoaaGreatDoor
open Go.RowKit
theorem r8wordInfo : (Tryz.prog.info? 58).map (fun i => (i.zero, i.size, i.bytes)) = some (some (.agg #[.int .i64 0, .string .empty]), 2, 24) := by kernel_rfl
theorem r8lineInfo : (Tryz.prog.info? 59).map (fun i => (i.zero, i.size, i.bytes)) = some (some (.slice none 0 0), 1, 24) := by kernel_rfl
def Apart (lv ov : Value) (vs : List Value) : Prop := ∀ g, lv.ownBlock = some g → ov.ownBlock ≠ some g ∧ ∀ u ∈ vs, u.ownBlock ≠ some g
theorem apart_nil (ov : Value) (vs : List Value) : Apart (.slice none 0 0) ov vs := fun g h => by cases h
theorem apart_more {w : World} {base : Nat} {e : TypeId} {ov lv : Value} {LL : List (List Wd)} {vs : List Value} (h : LinesO w base e ov LL vs) (ha : Apart lv ov vs) {g n cap H : Nat} (hH : w.heap.size ≤ H) (hat : lv.ownBlock = some g ∨ g = H) : Apart (.slice (some ⟨g, 0, none⟩) n cap) ov vs := by
 intro x hx
 have hx' : g = x := Option.some.inj hx
 subst hx'
 rcases hat with hat | hat
 ·exact ha g hat
 ·refine ⟨fun e => by have := (h.own.lt g e).2; omega, fun u hu e => ?_⟩
  obtain ⟨j, hj⟩ := List.getElem?_of_mem hu
  have hlen := h.len
  have hlt : j < LL.length := by have := (List.getElem?_eq_some_iff.1 hj).1; omega
  obtain ⟨_, b, h2, _, h4, _⟩ := h.row j u _ hj (List.getElem?_eq_getElem hlt)
  rw [h2] at e
  cases e
  omega
set_option maxHeartbeats 4000000 in
set_option maxRecDepth 100000 in
theorem r8lines_any (ao : Option Addr) (b o cap : Nat) (bs : List UInt8) (w : World) (h : IsB w ao cap b o bs) :
  Calls Tryz.prog 11 #[.slice ao bs.length cap] w (LinesRes bs w) := by
 have hle := h.le
 have hcap := h.max
 unfold maxLen at hcap
 by_cases hbig : 65536 < bs.length
 ·have hlB : decide ((65536 : Int) < (bs.length : Int)) = true := decide_eq_true (by omega)
  have e : linesB bs = ([], 65536, 27) := if_pos hbig
  unfold LinesRes
  rw [e]
  clear e h hle hcap
  go_enter Tryz.func11, Tryz.ntmps11
  go_wp2
  go_ret3
  exact ⟨_, rfl, .inl ⟨rfl, rfl⟩, B.refl _⟩
 have hlB : decide ((65536 : Int) < (bs.length : Int)) = false := decide_eq_false (by omega)
 have e : linesB bs = scan (bs.drop 0) 0 [] [] [] false := if_neg hbig
 obtain ⟨R, hR⟩ : ∃ R, linesB bs = R := ⟨_, rfl⟩
 have hn : bs.length ≤ 65536 := by omega
 unfold LinesRes
 rw [hR]
 rw [hR] at e
 clear hR hbig
 obtain ⟨i0, hi0, hz0, hz1, hz2⟩ := info_of r8lineInfo
 obtain ⟨i1, hi1, hy0, hy1, hy2⟩ := info_of r8wordInfo
 go_enter Tryz.func11, Tryz.ntmps11
 go_wp2
 clear hlB
 go_loopw [5, 6, 7, 8] (fun ov lv nv iv wr => ∃ (i : Nat) (ao1 ao2 : Option Addr) (c1 c2 : Nat) (LL : List (List Wd)) (vs : List Value) (ws : List Wd) (note : Bool), i ≤ bs.length ∧ iv = .int .i64 i ∧ ov = .slice ao1 LL.length c1 ∧ lv = .slice ao2 ws.length c2 ∧ nv = .bool note ∧
   LL.length ≤ i ∧ ws.length ≤ i ∧ LinesO wr w.heap.size 59 (.slice ao1 LL.length c1) LL vs ∧ wr.ownsRow w.heap.size 58 2 (.slice ao2 ws.length c2) ws.length (flatW ws) ∧ Apart (.slice ao2 ws.length c2) (.slice ao1 LL.length c1) vs ∧
   R = scan (bs.drop i) i LL ws [] note ∧ B w wr) (fun _ _ _ iv _ => bs.length + 1 - (intOf iv).toNat)
 case atStart => exact ⟨0, none, none, 0, 0, [], [], [], false, by omega, rfl, rfl, rfl, rfl, by simp, by simp, LinesO.nil _ _ _, World.ownsRow_nil _ _ _ _, apart_nil _ _, e, B.refl _⟩
 case round =>
  obtain ⟨i, ao1, ao2, c1, c2, LL, vs, ws, note, hi, rfl, rfl, rfl, rfl, hLL, hws, hO, hown, hap, hscan, hB⟩ := hrel
  obtain ⟨wo, rfl⟩ : ∃ wo : World, wo = wr := ⟨_, rfl⟩
  clear e
  by_cases hl : i < bs.length
  ·obtain rfl := h.ao (by omega)
   obtain ⟨c, hg⟩ : ∃ c, bs[i]? = some c := ⟨_, List.getElem?_eq_getElem hl⟩
   have hat := h.at_.keep hB
   have hc := hat i c hg
   have hlB : decide ((i : Int) < (bs.length : Int)) = true := decide_eq_true (by omega)
   have hlI : (i : Int) < (bs.length : Int) := by omega
   have hi0' : (0 : Int) ≤ (i : Int) := by omega
   have wk1 : IntKind.i64.wrap ((i : Int) + 1) = (i : Int) + 1 := by rw [IntKind.wrap_i64]; omega
   obtain ⟨m, hm⟩ : ∃ m, c.toNat = m := ⟨_, rfl⟩
   rw [hm] at hc
   by_cases e10 : m = 10
   ·have b10 : ((m : Int) == 10) = true := by simp; omega
    have hR' : R = scan (bs.drop (i + 1)) (i + 1) (flushL LL ws) [] [] false := by rw [hscan, scan_feed hg (by omega), flushW_none]
    by_cases hw : ws = []
    ·subst hw
     rw [flushL_none] at hR'
     have HS := Lib.hid (And.intro hR' (And.intro hO hB))
     have HM := Lib.hid (And.intro hLL hl)
     clear hR' hscan hO hB hl hLL hws hown hap hat h hle hcap hg hm e10 hi
     go_wp2
     go_roundw
     case rel => exact ⟨i + 1, ao1, none, c1, 0, LL, vs, [], false, by have := HM.out; omega, by go_num, rfl, rfl, rfl, by have := HM.out; omega, by simp, HS.out.2.1, World.ownsRow_nil _ _ _ _, apart_nil _ _, HS.out.1, HS.out.2.2⟩
     case measure => have := HM.out; simp [intOf]; omega
    ·have hlen : 0 < ws.length := List.length_pos_iff.2 hw
     have hwB : decide ((0 : Int) < (ws.length : Int)) = true := decide_eq_true (by omega)
     rw [flushL_some hw] at hR'
     have hIW := words_own hown rfl
     obtain ⟨g, c3, hv, _, _, hg', _⟩ := hIW.full hlen
     obtain ⟨rfl, _, rfl⟩ : ao2 = some ⟨g, 0, none⟩ ∧ True ∧ c2 = c3 := by simpa using hv
     have hO2 := hO.keep ((B.refl wo).alloc #[.slice (some ⟨g, 0, none⟩) ws.length c2] 59)
     have own2 := hO2.own
     have hIW2 := hIW.keep ((B.refl wo).alloc #[.slice (some ⟨g, 0, none⟩) ws.length c2] 59)
     have B2 := hB.alloc #[.slice (some ⟨g, 0, none⟩) ws.length c2] 59
     have hne := (hap g rfl).1
     have hgb := (hown.lt g rfl).1
     have h16 : LL.length ≤ 65536 := by omega
     have hb2 := B2.below.size
     have HM := Lib.hid (And.intro hLL (And.intro hl hg'))
     have HS := Lib.hid (And.intro hR' (And.intro hO2 (And.intro hIW2 (And.intro hne (And.intro hgb B2)))))
     clear hR' hscan hO hB hl hLL hws hown hap hat h hle hcap hg hm e10 hO2 hIW hIW2 hne hgb B2 hv hw hg' hi
     go_wp2_with (at_builtin; refine wpList_append_lies _ rfl _ _ 44 rfl w.heap.size 59 i0 _ 1 24 Tryz.underlying44 hi0 hz0 hz1 hz2 rfl (by omega) (.slice ao1 LL.length c1) LL.length vs rfl own2 ⟨wo.heap.size, 0, none⟩ 1 1 [.slice (some ⟨g, 0, none⟩) ws.length c2] rfl rfl (newest rfl) (fun u hu => by simp at hu; rw [hu]; rfl) (by omega) (by unfold maxLen; omega) (by omega) hb2 _ rfl ?_; intro gb cp W4 hown4 hgrow hat4 hlt4; have hO4 := lines_more HS.out.2.1 hown4 hgrow hat4 HS.out.2.2.1 rfl HS.out.2.2.2.1 (by simp; have := HM.out; omega) HS.out.2.2.2.2.1; have B4 := HS.out.2.2.2.2.2.grownBy hgrow (fun x hx => (own2.lt x hx).1); clear hgrow hat4 hlt4 own2 hown4 hlen hwB; replace hO4 := Lib.hid hO4; go_wp2_with fail)
     go_roundw
     case rel => exact ⟨i + 1, some ⟨gb, 0, none⟩, none, cp, 0, LL ++ [ws], vs ++ [.slice (some ⟨g, 0, none⟩) ws.length c2], [], false, by have := HM.out; omega, by go_num, by simp, rfl, rfl, by have := HM.out; simp; omega, by simp, hO4.out, World.ownsRow_nil _ _ _ _, apart_nil _ _, HS.out.1, B4⟩
     case measure => have := HM.out; simp [intOf]; omega
   have b10 : ((m : Int) == 10) = false := by simp; omega
   cases note
   case true =>
    have hR' : R = scan (bs.drop (i + 1)) (i + 1) LL ws [] true := by rw [hscan, scan_note hg (by omega)]
    have HS := Lib.hid (And.intro hR' (And.intro hO (And.intro hown (And.intro hap hB))))
    have HM := Lib.hid (And.intro hLL (And.intro hl hws))
    clear hR' hscan hO hB hl hLL hws hown hap hat h hle hcap hg hm e10 hi
    go_wp2
    go_roundw
    case rel => exact ⟨i + 1, ao1, ao2, c1, c2, LL, vs, ws, true, by have := HM.out; omega, by go_num, rfl, rfl, rfl, by have := HM.out; omega, by have := HM.out; omega, HS.out.2.1, HS.out.2.2.1, HS.out.2.2.2.1, HS.out.1, HS.out.2.2.2.2⟩
    case measure => have := HM.out; simp [intOf]; omega
   by_cases e35 : m = 35
   ·have b35 : ((m : Int) == 35) = true := by simp; omega
    have hR' : R = scan (bs.drop (i + 1)) (i + 1) LL ws [] true := by rw [hscan, scan_hash hg (by omega), flushW_none]
    have HS := Lib.hid (And.intro hR' (And.intro hO (And.intro hown (And.intro hap hB))))
    have HM := Lib.hid (And.intro hLL (And.intro hl hws))
    clear hR' hscan hO hB hl hLL hws hown hap hat h hle hcap hg hm e10 e35 hi
    go_wp2
    go_roundw
    case rel => exact ⟨i + 1, ao1, ao2, c1, c2, LL, vs, ws, true, by have := HM.out; omega, by go_num, rfl, rfl, rfl, by have := HM.out; omega, by have := HM.out; omega, HS.out.2.1, HS.out.2.2.1, HS.out.2.2.2.1, HS.out.1, HS.out.2.2.2.2⟩
    case measure => have := HM.out; simp [intOf]; omega
   have b35 : ((m : Int) == 35) = false := by simp; omega
   by_cases e32 : m = 32
   ·have b32 : ((m : Int) == 32) = true := by simp; omega
    have hR' : R = scan (bs.drop (i + 1)) (i + 1) LL ws [] false := by rw [hscan, scan_gap hg (by omega), flushW_none]
    have HS := Lib.hid (And.intro hR' (And.intro hO (And.intro hown (And.intro hap hB))))
    have HM := Lib.hid (And.intro hLL (And.intro hl hws))
    clear hR' hscan hO hB hl hLL hws hown hap hat h hle hcap hg hm e10 e35 e32 hi
    go_wp2
    go_roundw
    case rel => exact ⟨i + 1, ao1, ao2, c1, c2, LL, vs, ws, false, by have := HM.out; omega, by go_num, rfl, rfl, rfl, by have := HM.out; omega, by have := HM.out; omega, HS.out.2.1, HS.out.2.2.1, HS.out.2.2.2.1, HS.out.1, HS.out.2.2.2.2⟩
    case measure => have := HM.out; simp [intOf]; omega
   by_cases e9 : m = 9
   ·have b32 : ((m : Int) == 32) = false := by simp; omega
    have b9 : ((m : Int) == 9) = true := by simp; omega
    have hR' : R = scan (bs.drop (i + 1)) (i + 1) LL ws [] false := by rw [hscan, scan_gap hg (by omega), flushW_none]
    have HS := Lib.hid (And.intro hR' (And.intro hO (And.intro hown (And.intro hap hB))))
    have HM := Lib.hid (And.intro hLL (And.intro hl hws))
    clear hR' hscan hO hB hl hLL hws hown hap hat h hle hcap hg hm e10 e35 e9 e32 hi
    go_wp2
    go_roundw
    case rel => exact ⟨i + 1, ao1, ao2, c1, c2, LL, vs, ws, false, by have := HM.out; omega, by go_num, rfl, rfl, rfl, by have := HM.out; omega, by have := HM.out; omega, HS.out.2.1, HS.out.2.2.1, HS.out.2.2.2.1, HS.out.1, HS.out.2.2.2.2⟩
    case measure => have := HM.out; simp [intOf]; omega
   have b32 : ((m : Int) == 32) = false := by simp; omega
   have b9 : ((m : Int) == 9) = false := by simp; omega
   have cp := fun w => r8part_any m w
   cases hpart : partN m
   ·rw [hpart] at cp
    have HR : R = ([], i, 24) := by rw [hscan, scan_bad hg (by omega) (by rw [hm]; exact hpart) (by omega) (by omega)]
    have HB := Lib.hid hB
    subst HR
    clear hscan hO hB hl hLL hws hown hap hat h hle hcap hg hm e10 e35 e32 e9 hpart hi
    go_wp2_with fail
    refine (cp _).mono ?_
    rintro e w1 ⟨rfl, rfl⟩
    clear cp
    go_wp2
    go_ret3
    exact ⟨_, rfl, .inl ⟨rfl, rfl⟩, HB.out⟩
   ·rw [hpart] at cp
    have HO := Lib.hid (And.intro hO (And.intro hown (And.intro hap (And.intro hscan hB))))
    have HM := Lib.hid (And.intro hLL (And.intro hl hws))
    have HG := Lib.hid (And.intro hg (show partN c.toNat = true by rw [hm]; exact hpart))
    have hconvs : ∀ k, i ≤ k → k ≤ bs.length → (convert 47 9 (.slice (some ⟨b, o + i, none⟩) (k - i) (cap - i))).run Tryz.prog wo = .ok (.string (strB (cut bs i k))) wo := fun k h1 h2 => by
     have := run_convert_bytes_arg (P := Tryz.prog) wo 47 5 Tryz.underlying47 Tryz.underlying5 b (o + i) (k - i) (cap - i) (nums (cut bs i k)) (by rw [nums_len, cut_len h1 h2])
      ((hat.drop i).take (k - i) |>.nums (cut_len h1 h2)) 9 Tryz.underlying9
     rw [strB_nums] at this
     exact this
    replace hat := Lib.hid hat
    replace hconvs := Lib.hid hconvs
    have hcp : i < cap := by omega
    have hcp' : ¬ cap = i := by omega
    replace h := Lib.hid h
    have Hl := Lib.hid hl
    clear hscan hO hB hl hLL hws hown hap hg hm e10 e35 e32 e9 hpart
    go_wp2_with fail
    refine (cp _).mono ?_
    rintro e w1 ⟨rfl, rfl⟩
    clear cp
    go_wp2
    clear b10 b35 b32 b9
    go_loopw [10] (fun kv wq => ∃ k : Nat, i ≤ k ∧ k ≤ bs.length ∧ kv = .int .i64 k ∧ (∀ j, i ≤ j → j < k → ∀ c, bs[j]? = some c → partN c.toNat = true) ∧ wo = wq) (fun kv _ => bs.length + 1 - (intOf kv).toNat)
    case atStart => exact ⟨i, Nat.le_refl _, hi, rfl, fun j h1 h2 => by omega, rfl⟩
    case round =>
     obtain ⟨k, hik, hk, rfl, hall, rfl⟩ := hrel
     obtain ⟨wo, rfl⟩ : ∃ wq : World, wq = wo := ⟨_, rfl⟩
     by_cases hlk : k < bs.length
     ·obtain ⟨x, hx⟩ : ∃ x, bs[k]? = some x := ⟨_, List.getElem?_eq_getElem hlk⟩
      have hcx := hat.out k x hx
      have hlB : decide ((k : Int) < (bs.length : Int)) = true := decide_eq_true (by omega)
      have hlI : (k : Int) < (bs.length : Int) := by omega
      have hk0 : (0 : Int) ≤ (k : Int) := by omega
      obtain ⟨mx, hmx⟩ : ∃ m, x.toNat = m := ⟨_, rfl⟩
      rw [hmx] at hcx
      have cp := fun w => r8part_any mx w
      cases hpx : partN mx
      ·rw [hpx] at cp
       have hconv := hconvs.out k hik hk
       have kp : (i : Int) ≤ (k : Int) := by omega
       have kc : (k : Int) ≤ (cap : Int) := by omega
       obtain ⟨hSz, hscan', hqk⟩ : (cut bs i k).length = k - i ∧ R = scan (bs.drop k) k LL (ws ++ [(i, cut bs i k)]) [] false ∧ i < k := by
        obtain ⟨hg, hpart⟩ := HG.out
        have k4 : bs.length ≤ k ∨ ∃ c, bs[k]? = some c ∧ partN c.toNat = false := .inr ⟨x, hx, by rw [hmx]; exact hpx⟩
        have hqk : i < k := by
         rcases Nat.lt_or_ge i k with hh | hh
         ·exact hh
         ·have e : k = i := by omega
          subst e
          rcases k4 with k4 | ⟨x, kx, ky⟩
          ·have := Hl.out; omega
          ·rw [hg] at kx; cases kx; rw [hpart] at ky; cases ky
        exact ⟨cut_len hik hk, HO.out.2.2.2.1.trans (scan_whole hqk hk hall k4), hqk⟩
       obtain ⟨km, hkm⟩ : ∃ km, k = km + 1 := ⟨k - 1, by omega⟩
       have wkm : IntKind.i64.wrap ((k : Int) - 1) = (km : Int) := by rw [IntKind.wrap_i64]; omega
       have wkp : IntKind.i64.wrap ((km : Int) + 1) = (k : Int) := by rw [IntKind.wrap_i64]; omega
       obtain ⟨T, hT⟩ : ∃ T, cut bs i k = T := ⟨_, rfl⟩
       rw [hT] at hscan' hconv
       obtain ⟨S, hS⟩ : ∃ S, strB T = S := ⟨_, rfl⟩
       rw [hS] at hconv
       have own3 := row_keep HO.out.2.1 ((B.refl wo).alloc #[.int .i64 (i : Int), .string S] 58)
       have hO3 := HO.out.1.keep ((B.refl wo).alloc #[.int .i64 (i : Int), .string S] 58)
       have B3 := HO.out.2.2.2.2.alloc #[.int .i64 (i : Int), .string S] 58
       have hfl : flatW (ws ++ [(i, T)]) = flatW ws ++ [.int .i64 ((i : Nat) : Int), .string S] := by rw [flatW_snoc, hS]
       have h16 : ws.length ≤ 65536 := by have := HM.out; omega
       have hb3 := B3.below.size
       have HS := Lib.hid (And.intro hscan' (And.intro hqk (And.intro hk (And.intro hO3 (And.intro HO.out.2.2.1 B3)))))
       replace hfl := Lib.hid hfl
       replace hS := Lib.hid hS
       clear hkm hconvs hall hT hSz hscan' hqk hO3 B3 HG hat HO hik hk h hx hmx hpx hlk
       go_wp2_with fail
       refine (cp _).mono ?_
       rintro e w1 ⟨rfl, rfl⟩
       clear cp hcx
       go_wp2_with (at_builtin; refine wpList_append_lies _ rfl _ _ 59 rfl w.heap.size 58 i1 _ 2 24 Tryz.underlying59 hi1 hy0 hy1 hy2 rfl (by omega) (.slice ao2 ws.length c2) ws.length (flatW ws) rfl own3 ⟨wo.heap.size, 0, none⟩ 1 1 [.int .i64 (i : Int), .string S] rfl rfl (newest rfl) (fun u hu => by simp at hu; rcases hu with rfl | rfl <;> rfl) (by omega) (by unfold maxLen; omega) (by omega) hb3 _ rfl ?_; intro gb cp W4 hown4 hgrow hat4 hlt4; have hO4 := lines_keep HS.out.2.2.2.1 hgrow (fun x hx => (HS.out.2.2.2.2.1 x hx).1) (fun x hx => (HS.out.2.2.2.2.1 x hx).2); have hap4 := apart_more HS.out.2.2.2.1 HS.out.2.2.2.2.1 (n := ws.length + 1) (cap := cp) (Nat.le_refl _) hat4; have B4 := HS.out.2.2.2.2.2.grownBy hgrow (fun x hx => (own3.lt x hx).1); rw [← hfl.out] at hown4; clear hgrow hat4 hlt4 own3; go_wp2_with fail)
       go_roundw
       case rel => exact ⟨k, ao1, some ⟨gb, 0, none⟩, c1, cp, LL, vs, ws ++ [(i, T)], false, HS.out.2.2.1, by go_num, rfl, by simp, rfl, by have := HS.out.2.1; have := HM.out; omega, by have := HS.out.2.1; have := HM.out; simp; omega, hO4, by simpa using hown4, by simpa using hap4, HS.out.1, B4⟩
       case measure => have := HS.out.2.1; have := HM.out; simp [intOf]; omega
      ·rw [hpx] at cp
       have wk1 : IntKind.i64.wrap ((k : Int) + 1) = (k : Int) + 1 := by rw [IntKind.wrap_i64]; omega
       have HA := Lib.hid (show i ≤ k + 1 ∧ k + 1 ≤ bs.length ∧ (∀ j, i ≤ j → j < k + 1 → ∀ c, bs[j]? = some c → partN c.toNat = true) ∧ k < bs.length from ⟨by omega, by omega, fun j h1 h2 y hy => by
        by_cases hj : j = k
        ·subst hj; rw [hx] at hy; cases hy; rw [hmx]; exact hpx
        ·exact hall j h1 (by omega) y hy, hlk⟩)
       clear hall hpx hmx hx hlk hik hk
       go_wp2_with fail
       refine (cp _).mono ?_
       rintro e w1 ⟨rfl, rfl⟩
       clear cp
       go_wp2
       go_roundw
       case rel => exact ⟨k + 1, HA.out.1, HA.out.2.1, by go_num, HA.out.2.2.1, trivial⟩
       case measure => have := HA.out; simp [intOf]; omega
     ·have hlB : decide ((k : Int) < (bs.length : Int)) = false := decide_eq_false (by omega)
      have hconv := hconvs.out k hik hk
      have kp : (i : Int) ≤ (k : Int) := by omega
      have kc : (k : Int) ≤ (cap : Int) := by omega
      obtain ⟨hSz, hscan', hqk⟩ : (cut bs i k).length = k - i ∧ R = scan (bs.drop k) k LL (ws ++ [(i, cut bs i k)]) [] false ∧ i < k := by
       obtain ⟨hg, hpart⟩ := HG.out
       have k4 : bs.length ≤ k ∨ ∃ c, bs[k]? = some c ∧ partN c.toNat = false := .inl (by omega)
       have hqk : i < k := by
        rcases Nat.lt_or_ge i k with hh | hh
        ·exact hh
        ·have e : k = i := by omega
         subst e
         rcases k4 with k4 | ⟨x, kx, ky⟩
         ·have := Hl.out; omega
         ·rw [hg] at kx; cases kx; rw [hpart] at ky; cases ky
       exact ⟨cut_len hik hk, HO.out.2.2.2.1.trans (scan_whole hqk hk hall k4), hqk⟩
      obtain ⟨km, hkm⟩ : ∃ km, k = km + 1 := ⟨k - 1, by omega⟩
      have wkm : IntKind.i64.wrap ((k : Int) - 1) = (km : Int) := by rw [IntKind.wrap_i64]; omega
      have wkp : IntKind.i64.wrap ((km : Int) + 1) = (k : Int) := by rw [IntKind.wrap_i64]; omega
      obtain ⟨T, hT⟩ : ∃ T, cut bs i k = T := ⟨_, rfl⟩
      rw [hT] at hscan' hconv
      obtain ⟨S, hS⟩ : ∃ S, strB T = S := ⟨_, rfl⟩
      rw [hS] at hconv
      have own3 := row_keep HO.out.2.1 ((B.refl wo).alloc #[.int .i64 (i : Int), .string S] 58)
      have hO3 := HO.out.1.keep ((B.refl wo).alloc #[.int .i64 (i : Int), .string S] 58)
      have B3 := HO.out.2.2.2.2.alloc #[.int .i64 (i : Int), .string S] 58
      have hfl : flatW (ws ++ [(i, T)]) = flatW ws ++ [.int .i64 ((i : Nat) : Int), .string S] := by rw [flatW_snoc, hS]
      have h16 : ws.length ≤ 65536 := by have := HM.out; omega
      have hb3 := B3.below.size
      have HS := Lib.hid (And.intro hscan' (And.intro hqk (And.intro hk (And.intro hO3 (And.intro HO.out.2.2.1 B3)))))
      replace hfl := Lib.hid hfl
      replace hS := Lib.hid hS
      clear hkm hconvs hall hT hSz hscan' hqk hO3 B3 HG hat HO hik hk h 
      go_wp2_with (at_builtin; refine wpList_append_lies _ rfl _ _ 59 rfl w.heap.size 58 i1 _ 2 24 Tryz.underlying59 hi1 hy0 hy1 hy2 rfl (by omega) (.slice ao2 ws.length c2) ws.length (flatW ws) rfl own3 ⟨wo.heap.size, 0, none⟩ 1 1 [.int .i64 (i : Int), .string S] rfl rfl (newest rfl) (fun u hu => by simp at hu; rcases hu with rfl | rfl <;> rfl) (by omega) (by unfold maxLen; omega) (by omega) hb3 _ rfl ?_; intro gb cp W4 hown4 hgrow hat4 hlt4; have hO4 := lines_keep HS.out.2.2.2.1 hgrow (fun x hx => (HS.out.2.2.2.2.1 x hx).1) (fun x hx => (HS.out.2.2.2.2.1 x hx).2); have hap4 := apart_more HS.out.2.2.2.1 HS.out.2.2.2.2.1 (n := ws.length + 1) (cap := cp) (Nat.le_refl _) hat4; have B4 := HS.out.2.2.2.2.2.grownBy hgrow (fun x hx => (own3.lt x hx).1); rw [← hfl.out] at hown4; clear hgrow hat4 hlt4 own3; go_wp2_with fail)
      go_roundw
      case rel => exact ⟨k, ao1, some ⟨gb, 0, none⟩, c1, cp, LL, vs, ws ++ [(i, T)], false, HS.out.2.2.1, by go_num, rfl, by simp, rfl, by have := HS.out.2.1; have := HM.out; omega, by have := HS.out.2.1; have := HM.out; simp; omega, hO4, by simpa using hown4, by simpa using hap4, HS.out.1, B4⟩
      case measure => have := HS.out.2.1; have := HM.out; simp [intOf]; omega
  ·have hlB : decide ((i : Int) < (bs.length : Int)) = false := decide_eq_false (by omega)
   have hR' : R = (flushL LL ws, 0, 0) := by rw [hscan, scan_end (by omega), flushW_none]
   by_cases hw : ws = []
   ·subst hw
    rw [flushL_none] at hR'
    have HB := Lib.hid (And.intro hO.is hB)
    subst hR'
    clear hscan hO hB hLL hws hown hap h hle hcap
    go_wp2
    go_ret3
    exact ⟨_, rfl, HB.out.1, HB.out.2⟩
   ·have hlen : 0 < ws.length := List.length_pos_iff.2 hw
    have hwB : decide ((0 : Int) < (ws.length : Int)) = true := decide_eq_true (by omega)
    rw [flushL_some hw] at hR'
    have hIW := words_own hown rfl
    obtain ⟨g, c3, hv, _, _, hg', _⟩ := hIW.full hlen
    obtain ⟨rfl, _, rfl⟩ : ao2 = some ⟨g, 0, none⟩ ∧ True ∧ c2 = c3 := by simpa using hv
    have hO2 := hO.keep ((B.refl wo).alloc #[.slice (some ⟨g, 0, none⟩) ws.length c2] 59)
    have own2 := hO2.own
    have hIW2 := hIW.keep ((B.refl wo).alloc #[.slice (some ⟨g, 0, none⟩) ws.length c2] 59)
    have B2 := hB.alloc #[.slice (some ⟨g, 0, none⟩) ws.length c2] 59
    have hne := (hap g rfl).1
    have hgb := (hown.lt g rfl).1
    have h16 : LL.length ≤ 65536 := by omega
    have hb2 := B2.below.size
    subst hR'
    have HM := Lib.hid hg'
    have HS := Lib.hid (And.intro hO2 (And.intro hIW2 (And.intro hne (And.intro hgb B2))))
    clear hscan hO hB hLL hws hown hap h hle hcap hO2 hIW hIW2 hne hgb B2 hv hw hg' hi
    go_wp2_with (at_builtin; refine wpList_append_lies _ rfl _ _ 44 rfl w.heap.size 59 i0 _ 1 24 Tryz.underlying44 hi0 hz0 hz1 hz2 rfl (by omega) (.slice ao1 LL.length c1) LL.length vs rfl own2 ⟨wo.heap.size, 0, none⟩ 1 1 [.slice (some ⟨g, 0, none⟩) ws.length c2] rfl rfl (newest rfl) (fun u hu => by simp at hu; rw [hu]; rfl) (by omega) (by unfold maxLen; omega) (by omega) hb2 _ rfl ?_; intro gb cp W4 hown4 hgrow hat4 hlt4; have hO4 := lines_more HS.out.1 hown4 hgrow hat4 HS.out.2.1 rfl HS.out.2.2.1 (by simp; have := HM.out; omega) HS.out.2.2.2.1; have B4 := HS.out.2.2.2.2.grownBy hgrow (fun x hx => (own2.lt x hx).1); clear hgrow hat4 hlt4 own2 hown4 hlen hwB; replace hO4 := Lib.hid hO4; go_wp2_with fail)
    go_ret3
    exact ⟨_, rfl, by have := hO4.out.is; simpa using this, B4⟩
end Go.Proofs.YtglniapfnhedoaaGreatDoor
namespace Go.Proofs.YtglniapfnhedoaaGreatDoor
open Go.RowKit
set_option linter.unusedVariables false
theorem lnInfoW : (Tryz.prog.info? 96).map (fun i => (i.zero, i.size, i.bytes)) = some (some (.slice none 0 0), 1, 24) := by kernel_rfl
theorem wdInfoW : (Tryz.prog.info? 95).map (fun i => (i.zero, i.size, i.bytes)) = some (some (.agg #[.int .i64 0, .string .empty]), 2, 24) := by kernel_rfl
set_option maxHeartbeats 4000000 in
set_option maxRecDepth 100000 in
theorem words9_any (v : Value) (LL : List (List Wd)) (w : World) (h : IsLnO w v LL) (hne : ∀ L ∈ LL, 0 < L.length) (hL : LL.length ≤ 65536) (hws : ∀ L ∈ LL, L.length ≤ 65536) :
  Calls Tryz.prog 13 #[v] w fun e w' => ∃ u vs, e = .returned u ∧ LinesO w' w.heap.size 96 u LL vs ∧ B w w' := by
 obtain ⟨ao, ac, rfl⟩ := h.form
 obtain ⟨i0, hi0, hz0, hz1, hz2⟩ := info_of lnInfoW
 obtain ⟨i1, hi1, hy0, hy1, hy2⟩ := info_of wdInfoW
 go_enter Tryz.func13, Tryz.ntmps13
 go_wp2
 go_loopw [3, 4] (fun ov iv wr => ∃ (i : Nat) (ao1 : Option Addr) (c1 : Nat) (vs : List Value), i ≤ LL.length ∧ iv = .int .i64 i ∧ ov = .slice ao1 i c1 ∧ LinesO wr w.heap.size 96 (.slice ao1 i c1) (LL.take i) vs ∧ B w wr) (fun _ iv _ => LL.length + 1 - (intOf iv).toNat)
 case atStart => exact ⟨0, none, 0, [], Nat.zero_le _, rfl, rfl, LinesO.nil _ _ _, B.refl _⟩
 case round =>
  obtain ⟨i, ao1, c1, vs, hi, rfl, rfl, hO, hB⟩ := hrel
  obtain ⟨wo, rfl⟩ : ∃ wo : World, wo = wr := ⟨_, rfl⟩
  by_cases hl : i < LL.length
  ·have hlB : decide ((i : Int) < (LL.length : Int)) = true := decide_eq_true (by omega)
   have hlI : (i : Int) < (LL.length : Int) := by omega
   have hi0' : (0 : Int) ≤ (i : Int) := by omega
   have wk1 : IntKind.i64.wrap ((i : Int) + 1) = (i : Int) + 1 := by rw [IntKind.wrap_i64]; omega
   obtain ⟨L, hF⟩ : ∃ L, LL[i]? = some L := ⟨_, List.getElem?_eq_getElem hl⟩
   have hFe : LL[i] = L := by rw [List.getElem?_eq_getElem hl] at hF; simpa using hF
   obtain ⟨g, o, cap, u, e1, hu, hW⟩ := h.at_ hl
   rw [hFe] at hW
   obtain ⟨rfl, _, rfl⟩ : ao = some ⟨g, o, none⟩ ∧ True ∧ ac = cap := by simpa using e1
   have hLne := hne L (List.mem_of_getElem? hF)
   have hL16 := hws L (List.mem_of_getElem? hF)
   obtain ⟨gl, cl, rfl, _, _, hgl, hwd⟩ := hW.full hLne
   have hu0 := hB.keep hu
   have ht1 : LL.take (i + 1) = LL.take i ++ [L] := by rw [List.take_add_one, hF]; rfl
   have htl : (LL.take i).length = i := by rw [List.length_take]; omega
   have HO := Lib.hid (And.intro ht1 (And.intro htl hl))
   clear ht1 e1 hF hFe hl
   go_wp2
   go_loopw [5, 6] (fun lv kv wr => ∃ (k : Nat) (ao2 : Option Addr) (c2 : Nat), k ≤ L.length ∧ kv = .int .i64 k ∧ lv = .slice ao2 k c2 ∧ LinesO wr w.heap.size 96 (.slice ao1 i c1) (LL.take i) vs ∧ wr.ownsRow w.heap.size 95 2 (.slice ao2 k c2) k (flatW (L.take k)) ∧ B w wr ∧ Apart (.slice ao2 k c2) (.slice ao1 i c1) vs) (fun _ kv _ => L.length + 1 - (intOf kv).toNat)
   case atStart => exact ⟨0, none, 0, Nat.zero_le _, rfl, rfl, hO, World.ownsRow_nil _ _ _ _, hB, apart_nil _ _⟩
   case round =>
    obtain ⟨k, ao2, c2, hk, rfl, rfl, hO2, hown, hB2, hap⟩ := hrel
    obtain ⟨wv, rfl⟩ : ∃ wv : World, wv = wr := ⟨_, rfl⟩
    have hu2 := hB2.keep hu
    by_cases hlk : k < L.length
    ·have hkB : decide ((k : Int) < (L.length : Int)) = true := decide_eq_true (by omega)
     have hkI : (k : Int) < (L.length : Int) := by omega
     have hk0 : (0 : Int) ≤ (k : Int) := by omega
     have wk2 : IntKind.i64.wrap ((k : Int) + 1) = (k : Int) + 1 := by rw [IntKind.wrap_i64]; omega
     obtain ⟨x, hx⟩ : ∃ x, L[k]? = some x := ⟨_, List.getElem?_eq_getElem hlk⟩
     obtain ⟨n1, n2⟩ := hwd k x hx
     have hfl : flatW (L.take (k + 1)) = flatW (L.take k) ++ [.int .i64 ((x.1 : Nat) : Int), .string (strB x.2)] := by rw [List.take_add_one, hx]; exact flatW_snoc _ x
     have htk0 : k ≤ 65536 := by omega
     obtain ⟨A, hA⟩ : ∃ A, x.1 = A := ⟨_, rfl⟩
     obtain ⟨S, hS⟩ : ∃ S, strB x.2 = S := ⟨_, rfl⟩
     rw [hA, hS] at hfl
     rw [hA] at n1
     rw [hS] at n2
     have kB : ∀ w', B wv w' → w'.cell? ⟨g, o + i, none⟩ = some (.slice (some ⟨gl, 0, none⟩) L.length cl) ∧ w'.cell? ⟨gl, k * 2, none⟩ = some (.int .i64 (A : Int)) ∧ w'.cell? ⟨gl, k * 2 + 1, none⟩ = some (.string S) :=
      fun w' q => ⟨q.keep hu2, (hB2.trans q).keep n1, (hB2.trans q).keep n2⟩
     have HI := Lib.hid (And.intro hO2 (And.intro hown (And.intro hB2 hap)))
     have HM := Lib.hid (And.intro htk0 (And.intro hfl (And.intro hlk hL16)))
     clear hO2 hown hB2 hap htk0 hfl hlk hx hA hS n1 n2 hu hu0 hO hB hwd hW hgl h hne hws hi hk
     go_wp2_with fail
     refine wp_region_noPanic ?_
     refine wp_region_slots [(0, 22), (1, 23), (2, 24), (3, 25), (4, 26), (5, 27), (6, 28), (7, 29), (8, 30), (9, 31), (10, 32), (11, 33), (12, 34), (13, 35), (14, 36), (15, 37), (16, 38), (17, 39), (18, 40)] [(19, 2), (20, 0)] [0, 0, 0, 6, 8, 0, 48, 64, 128, 0, 0, 1536, 2048, 0, 12288, 16384, 32768, 65792, 131072, 262145, 1048575] [0, 0, 0, 6, 8, 0, 48, 64, 128, 0, 0, 1536, 2048, 0, 12288, 16384, 32768, 65792, 131072, 262145, 524289] [0, 0, 0, 6, 14, 0, 62, 126, 254, 0, 0, 1536, 3584, 0, 15872, 32256, 65024, 131070, 262142, 524287, 1048575] 524287 [(fun v _ => v = .slice ao2 k c2), (fun v _ => v = .slice (some ⟨g, o, none⟩) LL.length ac), (fun v _ => v = .int .i64 (i : Int)), (fun v _ => v = .pointer (some ⟨g, o + i, none⟩)), (fun v _ => v = .slice (some ⟨gl, 0, none⟩) L.length cl), (fun v _ => v = .int .i64 (k : Int)), (fun v _ => v = .pointer (some ⟨gl, k * 2, none⟩)), (fun v _ => v = .pointer (some ⟨gl, k * 2, none⟩)), (fun v _ => v = .int .i64 (A : Int)), (fun v _ => v = .slice (some ⟨g, o, none⟩) LL.length ac), (fun v _ => v = .int .i64 (i : Int)), (fun v _ => v = .pointer (some ⟨g, o + i, none⟩)), (fun v _ => v = .slice (some ⟨gl, 0, none⟩) L.length cl), (fun v _ => v = .int .i64 (k : Int)), (fun v _ => v = .pointer (some ⟨gl, k * 2, none⟩)), (fun v _ => v = .pointer (some ⟨gl, k * 2 + 1, none⟩)), (fun v _ => v = .string S), (fun v _ => v = .agg #[.int .i64 (A : Int), .string S]), (Lits 1 [.int .i64 (A : Int), .string S])] (by kernel_rfl) (by kernel_rfl) (fun _ _ _ _ h => h) ⟨slot_val _, slot_val _, slot_val _, slot_val _, slot_val _, slot_val _, slot_val _, slot_val _, slot_val _, slot_val _, slot_val _, slot_val _, slot_val _, slot_val _, slot_val _, slot_val _, slot_val _, slot_val _, slot_lits _ _, trivial⟩ ⟨?_, ?_, ?_, ?_, ?_, ?_, ?_, ?_, ?_, ?_, ?_, ?_, ?_, ?_, ?_, ?_, ?_, ?_, ?_, trivial⟩ ?_
     ·intro f w' hf hB
      clear hf
      refine slot_op rfl (fun _ => rfl) (fun T hT K hK => ?_)
      simp only [putsL, List.set_cons_zero, List.set_cons_succ] at hT
      subst hT
      go_simp
      exact hK.out _ _ rfl (B.refl _)
     ·intro f w' hf hB
      clear hf
      refine slot_op rfl (fun _ => rfl) (fun T hT K hK => ?_)
      simp only [putsL, List.set_cons_zero, List.set_cons_succ] at hT
      subst hT
      go_simp
      exact hK.out _ _ rfl (B.refl _)
     ·intro f w' hf hB
      clear hf
      refine slot_op rfl (fun _ => rfl) (fun T hT K hK => ?_)
      simp only [putsL, List.set_cons_zero, List.set_cons_succ] at hT
      subst hT
      go_simp
      exact hK.out _ _ rfl (B.refl _)
     ·intro f w' hf hB
      have h1 := hf (1, 23) (by simp) (by rfl)
      have h2 := hf (2, 24) (by simp) (by rfl)
      clear hf
      have e1 : f 1 = .slice (some ⟨g, o, none⟩) LL.length ac := h1
      have e2 : f 2 = .int .i64 (i : Int) := h2
      refine slot_op rfl (fun _ => rfl) (fun T hT K hK => ?_)
      simp only [putsL, List.set_cons_zero, List.set_cons_succ, e1, e2] at hT
      subst hT
      go_simp
      exact hK.out _ _ rfl (B.refl _)
     ·intro f w' hf hB
      have h3 := hf (3, 25) (by simp) (by rfl)
      clear hf
      have e3 : f 3 = .pointer (some ⟨g, o + i, none⟩) := h3
      obtain ⟨k0, k1, k2⟩ := kB _ hB
      refine slot_op rfl (fun _ => rfl) (fun T hT K hK => ?_)
      simp only [putsL, List.set_cons_zero, List.set_cons_succ, e3] at hT
      subst hT
      go_simp
      exact hK.out _ _ rfl (B.refl _)
     ·intro f w' hf hB
      clear hf
      refine slot_op rfl (fun _ => rfl) (fun T hT K hK => ?_)
      simp only [putsL, List.set_cons_zero, List.set_cons_succ] at hT
      subst hT
      go_simp
      exact hK.out _ _ rfl (B.refl _)
     ·intro f w' hf hB
      have h4 := hf (4, 26) (by simp) (by rfl)
      have h5 := hf (5, 27) (by simp) (by rfl)
      clear hf
      have e4 : f 4 = .slice (some ⟨gl, 0, none⟩) L.length cl := h4
      have e5 : f 5 = .int .i64 (k : Int) := h5
      refine slot_op rfl (fun _ => rfl) (fun T hT K hK => ?_)
      simp only [putsL, List.set_cons_zero, List.set_cons_succ, e4, e5] at hT
      subst hT
      go_simp
      exact hK.out _ _ rfl (B.refl _)
     ·intro f w' hf hB
      have h6 := hf (6, 28) (by simp) (by rfl)
      clear hf
      have e6 : f 6 = .pointer (some ⟨gl, k * 2, none⟩) := h6
      refine slot_op rfl (fun _ => rfl) (fun T hT K hK => ?_)
      simp only [putsL, List.set_cons_zero, List.set_cons_succ, e6] at hT
      subst hT
      go_simp
      exact hK.out _ _ rfl (B.refl _)
     ·intro f w' hf hB
      have h7 := hf (7, 29) (by simp) (by rfl)
      clear hf
      have e7 : f 7 = .pointer (some ⟨gl, k * 2, none⟩) := h7
      obtain ⟨k0, k1, k2⟩ := kB _ hB
      refine slot_op rfl (fun _ => rfl) (fun T hT K hK => ?_)
      simp only [putsL, List.set_cons_zero, List.set_cons_succ, e7] at hT
      subst hT
      go_simp
      exact hK.out _ _ rfl (B.refl _)
     ·intro f w' hf hB
      clear hf
      refine slot_op rfl (fun _ => rfl) (fun T hT K hK => ?_)
      simp only [putsL, List.set_cons_zero, List.set_cons_succ] at hT
      subst hT
      go_simp
      exact hK.out _ _ rfl (B.refl _)
     ·intro f w' hf hB
      clear hf
      refine slot_op rfl (fun _ => rfl) (fun T hT K hK => ?_)
      simp only [putsL, List.set_cons_zero, List.set_cons_succ] at hT
      subst hT
      go_simp
      exact hK.out _ _ rfl (B.refl _)
     ·intro f w' hf hB
      have h9 := hf (9, 31) (by simp) (by rfl)
      have h10 := hf (10, 32) (by simp) (by rfl)
      clear hf
      have e9 : f 9 = .slice (some ⟨g, o, none⟩) LL.length ac := h9
      have e10 : f 10 = .int .i64 (i : Int) := h10
      refine slot_op rfl (fun _ => rfl) (fun T hT K hK => ?_)
      simp only [putsL, List.set_cons_zero, List.set_cons_succ, e9, e10] at hT
      subst hT
      go_simp
      exact hK.out _ _ rfl (B.refl _)
     ·intro f w' hf hB
      have h11 := hf (11, 33) (by simp) (by rfl)
      clear hf
      have e11 : f 11 = .pointer (some ⟨g, o + i, none⟩) := h11
      obtain ⟨k0, k1, k2⟩ := kB _ hB
      refine slot_op rfl (fun _ => rfl) (fun T hT K hK => ?_)
      simp only [putsL, List.set_cons_zero, List.set_cons_succ, e11] at hT
      subst hT
      go_simp
      exact hK.out _ _ rfl (B.refl _)
     ·intro f w' hf hB
      clear hf
      refine slot_op rfl (fun _ => rfl) (fun T hT K hK => ?_)
      simp only [putsL, List.set_cons_zero, List.set_cons_succ] at hT
      subst hT
      go_simp
      exact hK.out _ _ rfl (B.refl _)
     ·intro f w' hf hB
      have h12 := hf (12, 34) (by simp) (by rfl)
      have h13 := hf (13, 35) (by simp) (by rfl)
      clear hf
      have e12 : f 12 = .slice (some ⟨gl, 0, none⟩) L.length cl := h12
      have e13 : f 13 = .int .i64 (k : Int) := h13
      refine slot_op rfl (fun _ => rfl) (fun T hT K hK => ?_)
      simp only [putsL, List.set_cons_zero, List.set_cons_succ, e12, e13] at hT
      subst hT
      go_simp
      exact hK.out _ _ rfl (B.refl _)
     ·intro f w' hf hB
      have h14 := hf (14, 36) (by simp) (by rfl)
      clear hf
      have e14 : f 14 = .pointer (some ⟨gl, k * 2, none⟩) := h14
      refine slot_op rfl (fun _ => rfl) (fun T hT K hK => ?_)
      simp only [putsL, List.set_cons_zero, List.set_cons_succ, e14] at hT
      subst hT
      go_simp
      exact hK.out _ _ rfl (B.refl _)
     ·intro f w' hf hB
      have h15 := hf (15, 37) (by simp) (by rfl)
      clear hf
      have e15 : f 15 = .pointer (some ⟨gl, k * 2 + 1, none⟩) := h15
      obtain ⟨k0, k1, k2⟩ := kB _ hB
      refine slot_op rfl (fun _ => rfl) (fun T hT K hK => ?_)
      simp only [putsL, List.set_cons_zero, List.set_cons_succ, e15] at hT
      subst hT
      go_simp
      exact hK.out _ _ rfl (B.refl _)
     ·intro f w' hf hB
      have h8 := hf (8, 30) (by simp) (by rfl)
      have h16 := hf (16, 38) (by simp) (by rfl)
      clear hf
      have e8 : f 8 = .int .i64 (A : Int) := h8
      have e16 : f 16 = .string S := h16
      refine slot_op rfl (fun _ => rfl) (fun T hT K hK => ?_)
      simp only [putsL, List.set_cons_zero, List.set_cons_succ, e8, e16] at hT
      subst hT
      go_simp
      exact hK.out _ _ rfl (B.refl _)
     ·intro f w' hf hB
      have h17 := hf (17, 39) (by simp) (by rfl)
      clear hf
      have e17 : f 17 = .agg #[.int .i64 (A : Int), .string S] := h17
      refine slot_op rfl (fun _ => rfl) (fun T hT K hK => ?_)
      simp only [putsL, List.set_cons_zero, List.set_cons_succ, e17] at hT
      subst hT
      go_simp
      refine hK.out _ _ ⟨_, rfl, fun j u hj => ?_⟩ ((B.refl _).alloc _ _)
      rw [World.cell?_alloc_new]
      simpa using hj
     ·intro f w' hf hB T hT
      have h0 : f 0 = _ := hf (0, 22) (by simp)
      have h18 := hf (18, 40) (by simp)
      obtain ⟨B2, e18, hcs⟩ := h18
      clear hf
      simp only [putsL, List.set_cons_zero, List.set_cons_succ, h0, e18] at hT
      subst hT
      have ownB := row_keep HI.out.2.1 hB
      have hOB := HI.out.1.keep hB
      have BB := HI.out.2.2.1.trans hB
      have hb3 : w.heap.size ≤ w'.heap.size := BB.below.size
      have hk16 := HM.out.1
      refine wpSeq_call rfl (by kernel_rfl) (fun K hK => ?_)
      refine wp_append_lies _ (.tmp 22) (.tmp 40) 96 rfl w.heap.size 95 i1 _ 2 24 Tryz.underlying96 hi1 hy0 hy1 hy2 rfl (by omega) (.slice ao2 k c2) k (flatW (L.take k)) rfl ownB ⟨B2, 0, none⟩ 1 1 [.int .i64 (A : Int), .string S] rfl rfl (fun j u hj => by rw [addz]; exact hcs j u hj) (by intro u hu; simp only [List.mem_cons, List.not_mem_nil, or_false] at hu; rcases hu with rfl | rfl <;> rfl) (by omega) (by unfold maxLen; omega) (by omega) hb3 _ rfl (fun gb cp w5 hown hgrow hat hlt5 => ?_)
      refine hK.out _ _ trivial (fun _ => ?_)
      clear hK
      refine wpSeq_take (d := 5) rfl rfl (by kernel_rfl) (fun w hS => by go_simp <;> with_reducible rfl) ?_
      dsimp only [sZ, sS]
      have hap := HI.out.2.2.2
      have hO5 := lines_keep hOB hgrow (fun x hx => (hap x hx).1) (fun x hx => (hap x hx).2)
      have hap5 := apart_more hOB hap (n := k + 1) (cap := cp) (Nat.le_refl _) hat
      have B5 := BB.grownBy hgrow (fun x hx => (ownB.lt x hx).1)
      rw [← HM.out.2.1] at hown
      refine wpSeq_done ?_
      refine NoPanic.normal ?_
      have HZ := Lib.hid (And.intro hO5 (And.intro hown (And.intro B5 hap5)))
      have HM2 := Lib.hid HM.out.2.2
      clear HI HM hO5 hown B5 hap5 hap ownB hOB BB hb3 hk16 hgrow hat hlt5 hB hcs e18 h0 kB
      go_wp2
      go_roundw
      case rel =>
       obtain ⟨u2, u3⟩ := HM2.out
       refine ⟨k + 1, some ⟨gb, 0, none⟩, cp, by omega, by go_num, rfl, ?_, ?_, HZ.out.2.2.1, ?_⟩
       ·exact HZ.out.1
       ·exact HZ.out.2.1
       ·exact HZ.out.2.2.2
      case measure => have := HM2.out.1; simp [intOf]; omega
    ·have hkB : decide ((k : Int) < (L.length : Int)) = false := decide_eq_false (by omega)
     obtain rfl : k = L.length := by omega
     rw [List.take_length] at hown
     have hIW := words_own hown rfl
     obtain ⟨gx, c3, hv, _, _, hgx, _⟩ := hIW.full hLne
     obtain ⟨rfl, _, rfl⟩ : ao2 = some ⟨gx, 0, none⟩ ∧ True ∧ c2 = c3 := by simpa using hv
     have hO3 := hO2.keep ((B.refl wv).alloc #[.slice (some ⟨gx, 0, none⟩) L.length c2] 96)
     have own2 := hO3.own
     have hIW2 := hIW.keep ((B.refl wv).alloc #[.slice (some ⟨gx, 0, none⟩) L.length c2] 96)
     have B2 := hB2.alloc #[.slice (some ⟨gx, 0, none⟩) L.length c2] 96
     have hne := (hap gx rfl).1
     have hgb := (hown.lt gx rfl).1
     have hb2 := B2.below.size
     rw [HO.out.2.1] at own2
     have hi16 : i ≤ 65536 := by omega
     have HS := Lib.hid (And.intro hO3 (And.intro hIW2 (And.intro hne (And.intro hgb (And.intro B2 hgx)))))
     clear hO2 hown hB2 hap hIW hIW2 hO3 B2 hne hgb hv hgx hu hu0 hO hB hwd hW hgl h hws hk hi
     go_wp2_with (at_builtin; refine wpList_append_lies _ rfl _ _ 48 rfl w.heap.size 96 i0 _ 1 24 Tryz.underlying48 hi0 hz0 hz1 hz2 rfl (by omega) (.slice ao1 i c1) i vs rfl own2 ⟨wv.heap.size, 0, none⟩ 1 1 [.slice (some ⟨gx, 0, none⟩) L.length c2] rfl rfl (newest rfl) (by intro u hu; rw [List.mem_singleton.1 hu]; rfl) (by omega) (by unfold maxLen; omega) (by omega) hb2 _ rfl ?_; intro gb cp W4 hown4 hgrow hat4 hlt4; rw [← HO.out.2.1] at hown4; have hO4 := lines_more HS.out.1 hown4 hgrow hat4 HS.out.2.1 rfl HS.out.2.2.1 (by have := HS.out.2.2.2.2.2; simp; omega) HS.out.2.2.2.1; have B4 := HS.out.2.2.2.2.1.grownBy hgrow (fun x hx => (own2.lt x hx).1); clear hgrow hat4 hlt4 own2 hown4; replace hO4 := Lib.hid hO4; go_wp2_with fail)
     go_roundw
     case rel =>
      obtain ⟨u1, u2, u3⟩ := HO.out
      refine ⟨i + 1, some ⟨gb, 0, none⟩, cp, vs ++ [.slice (some ⟨gx, 0, none⟩) L.length c2], by omega, by go_num, rfl, ?_, B4⟩
      have e := hO4.out
      rw [← u1] at e
      rw [show (LL.take (i + 1)).length = i + 1 by rw [u1, List.length_append, u2]; rfl] at e
      exact e
     case measure => have := HO.out.2.2; simp [intOf]; omega
  ·have hlB : decide ((i : Int) < (LL.length : Int)) = false := decide_eq_false (by omega)
   obtain rfl : i = LL.length := by omega
   rw [List.take_length] at hO
   have HO := Lib.hid (And.intro hO hB)
   clear hO hB h hne hws
   go_wp2
   go_ret
   exact ⟨_, vs, rfl, HO.out.1, HO.out.2⟩
end Go.Proofs.YtglniapfnhedoaaGreatDoor
namespace Go.Proofs.YtglniapfnhedoaaGreatDoor
open Go.RowKit
theorem B.allocM {a w : World} (h : B a w) (o : Obj) : B a (w.alloc o) := ⟨h.below.alloc h.below.size _⟩
def cellsB (bs : List UInt8) : Array Value := (bs.map fun c => Value.int .u8 ((c.toNat : Nat) : Int)).toArray
theorem isB_const (w : World) (bs : List UInt8) (t : TypeId) (fr : Nat × Nat) (h : bs.length ≤ maxLen) : IsB (w.alloc (.cells (cellsB bs) t fr)) (some ⟨w.heap.size, 0, none⟩) bs.length w.heap.size 0 bs := by
 refine ⟨fun i c hc => ?_, fun _ => rfl, Nat.le_refl _, h⟩
 rw [Nat.zero_add, World.cell?_alloc_mark]
 simp [cellsB, hc]
end Go.Proofs.YtglniapfnhedoaaGreatDoor
namespace Go.Proofs.YtglniapfnhedoaaGreatDoor
open Go.RowKit
set_option linter.unusedVariables false
def k9T : List UInt8 := [119, 97, 114, 101, 32, 112, 32, 49, 32, 50, 32, 53, 10, 114, 111, 117, 110, 100, 32, 49, 48, 48, 32, 53, 32, 53, 10, 102, 105, 108, 108, 32, 112, 46, 65, 50, 32, 55, 10, 117, 115, 101, 32, 116]
def k9D : Dk := ⟨[⟨strB [112], 1, 2, 5, [⟨true, 100, 5, 0, 5, 0⟩]⟩], [], [⟨strB [112], 0, 1, 7⟩]⟩
def k9R : List (List Wd) := [[(39, [117, 115, 101]), (43, [116])]]
def k9L : List (List Wd) := (linesB k9T).1
theorem k9_lines : linesB k9T = (k9L, 0, 0) := by kernel_rfl
theorem k9_parse : parseD k9L dk0 0 0 = (k9D, k9R, 0, 0) := by kernel_rfl
theorem k9_all : (k9L.all fun ws => decide (0 < ws.length) && decide (ws.length ≤ 65536) && ws.all (fun x => decide (x.2.length ≤ 65536))) = true := by kernel_rfl
theorem k9_len : decide (k9L.length ≤ 65536) = true := by kernel_rfl
def k9B : List (List Wd) := [[(3, [114, 111, 117, 110, 100])]]
theorem k9_parseB : parseD k9B dk0 0 0 = (dk0, [], 3, 24) := by kernel_rfl
theorem k9_right : rightD k9D = true := by kernel_rfl
def k9P : List UInt8 := [119, 97, 114, 101, 32, 112, 32, 49, 32, 50, 32, 53, 10, 114, 111, 117, 110, 100, 32, 49, 48, 48, 32, 53, 32, 53, 10, 102, 105, 108, 108, 32, 112, 46, 65, 50, 32, 55, 10]
theorem dec_one {n : Nat} (h : n < 10) : Lib.decDigits n = [UInt8.ofNat (48 + n)] := by rw [Lib.decDigits, dif_pos h]
theorem k9_text : textD k9D = k9P := by
 unfold textD
 rw [k9_right, if_pos rfl]
 have d1 : decI 1 = [49] := dec_one (by decide)
 have d2 : decI 2 = [50] := dec_one (by decide)
 have d5 : decI 5 = [53] := dec_one (by decide)
 have d7 : decI 7 = [55] := dec_one (by decide)
 have d100 : decI 100 = [49, 48, 48] := by
  show Lib.decDigits 100 = _
  rw [Lib.decDigits, dif_neg (by decide), show 100 / 10 = 10 from rfl, Lib.decDigits, dif_neg (by decide), show 10 / 10 = 1 from rfl, dec_one (by decide)]
  rfl
 have hw : wellT ({ data := #[112] } : ByteArray) 0 1 = [112, 46, 65, 50] := by
  rw [wellT_ok (by kernel_rfl) (by decide) (by decide) (by decide) (by decide), show (1 : Int) + 1 = 2 from rfl, d2]
  rfl
 simp only [deckL, k9D, recL, secL, fillL, List.flatMap_cons, List.flatMap_nil, List.map_cons, List.map_nil, List.append_nil, if_true, d1, d2, d5, d7, d100, hw, List.cons_append, List.nil_append, lineT, kWare, kRound, kFill, k9P, strB]
end Go.Proofs.YtglniapfnhedoaaGreatDoor
namespace Go.Proofs.YtglniapfnhedoaaGreatDoor
open Go.RowKit
set_option linter.unusedVariables false
def ck9 : Array Value := #[.int .u8 119, .int .u8 97, .int .u8 114, .int .u8 101, .int .u8 32, .int .u8 112, .int .u8 32, .int .u8 49, .int .u8 32, .int .u8 50, .int .u8 32, .int .u8 53, .int .u8 10, .int .u8 114, .int .u8 111, .int .u8 117, .int .u8 110, .int .u8 100, .int .u8 32, .int .u8 49, .int .u8 48, .int .u8 48, .int .u8 32, .int .u8 53, .int .u8 32, .int .u8 53, .int .u8 10, .int .u8 102, .int .u8 105, .int .u8 108, .int .u8 108, .int .u8 32, .int .u8 112, .int .u8 46, .int .u8 65, .int .u8 50, .int .u8 32, .int .u8 55, .int .u8 10, .int .u8 117, .int .u8 115, .int .u8 101, .int .u8 32, .int .u8 116]
theorem ck9_eq : cellsB k9T = ck9 := rfl
theorem isLn_lit (w : World) (N M : Nat) (hN : w.heap.size = N) (hM : N + 1 = M) : IsLnO ((w.alloc (.cells #[.int .i64 3, .string ⟨#[114, 111, 117, 110, 100]⟩] 58)).alloc (.cells #[.slice (some ⟨N, 0, none⟩) 1 1] 59)) (.slice (some ⟨M, 0, none⟩) 1 1) k9B := by
 subst hN hM
 have o1 := obj_past (obj_new w (.cells #[.int .i64 3, .string ⟨#[114, 111, 117, 110, 100]⟩] 58)) (.cells #[.slice (some ⟨w.heap.size, 0, none⟩) 1 1] 59)
 have o2 := obj_new (w.alloc (.cells #[.int .i64 3, .string ⟨#[114, 111, 117, 110, 100]⟩] 58)) (.cells #[.slice (some ⟨w.heap.size, 0, none⟩) 1 1] 59)
 rw [show (w.alloc (.cells #[.int .i64 3, .string ⟨#[114, 111, 117, 110, 100]⟩] 58)).heap.size = w.heap.size + 1 by simp] at o2
 refine .inr ⟨_, 0, 1, rfl, by decide, by decide, fun i L hL => ?_⟩
 match i, hL with
 | 0, hL =>
  obtain rfl := Option.some.inj hL
  refine ⟨.slice (some ⟨w.heap.size, 0, none⟩) 1 1, obj_cell o2 0, .inr ⟨w.heap.size, 1, rfl, by decide, by decide, fun k x hx => ?_⟩⟩
  match k, hx with
  | 0, hx =>
   obtain rfl := Option.some.inj hx
   exact ⟨obj_cell o1 0, obj_cell o1 1⟩
  | n + 1, hx => simp at hx
 | n + 1, hL => simp [k9B] at hL
set_option maxRecDepth 100000 in
set_option maxHeartbeats 4000000 in
theorem known9_any (w : World) (htab : Lib.TabIs Tryz.prog w "internal/strconv.uint64pow10" .u64 Lib.pow10Tab) : Calls Tryz.prog 4 #[] w fun e w' => e = .returned (.bool true) ∧ B w w' := by
 have hk1 := Lib.run_convert_bytes_const (P := Tryz.prog) w 47 5 (cellsB k9T) 44 44 Tryz.underlying47 Tryz.underlying5
 have hB1 := (B.refl w).allocM (.cells (cellsB k9T) 5 (44, 45))
 have c1 : Calls Tryz.prog 15 #[.slice (some ⟨w.heap.size, 0, none⟩) 44 44] (w.alloc (.cells (cellsB k9T) 5 (44, 45))) (LinesRes k9T (w.alloc (.cells (cellsB k9T) 5 (44, 45)))) :=
  lines_any (some ⟨w.heap.size, 0, none⟩) w.heap.size 0 44 k9T _ (isB_const w k9T _ _ (by decide))
 rw [ck9_eq] at hk1 hB1 c1
 unfold ck9 at hk1 hB1 c1
 go_enter Tryz.func4, Tryz.ntmps4
 go_wp2_with fail
 refine c1.mono ?_
 unfold LinesRes
 rw [k9_lines]
 rintro e w1 ⟨v, rfl, hv, q1⟩
 clear hk1 c1
 have B1 := hB1.trans q1
 clear hB1 q1
 have hall := k9_all
 rw [List.all_eq_true] at hall
 simp only [Bool.and_eq_true, decide_eq_true_eq, List.all_eq_true] at hall
 have c2 := parse_any v k9L w1 hv.lnO (fun ws h => (hall ws h).1.1) (of_decide_eq_true k9_len) (fun ws h => (hall ws h).1.2) (fun ws h x hx => (hall ws h).2 x hx)
 unfold ParseRes at c2
 rw [k9_parse] at c2
 clear hall
 go_wp2_with fail
 refine c2.mono ?_
 rintro e w2 ⟨wv, tv, fv, rv, rfl, hD, hR, q2⟩
 clear c2
 have B2 := B1.trans q2
 clear B1 q2
 obtain ⟨ao, ac, bo, bc, co, cc, e1, e2, e3⟩ := hD.forms
 obtain rfl : wv = .slice ao 1 ac := e1
 obtain rfl : tv = .slice bo 0 bc := e2
 obtain rfl : fv = .slice co 1 cc := e3
 obtain ⟨ro, rc, e4⟩ := hR.form
 obtain rfl : rv = .slice ro 1 rc := e4
 clear hv
 obtain ⟨N, hN⟩ : ∃ N, w2.heap.size = N := ⟨_, rfl⟩
 have oD := obj_new w2 (.cells #[.slice ao 1 ac, .slice bo 0 bc, .slice co 1 cc] 26)
 have B3 := (B.refl w2).alloc #[.slice ao 1 ac, .slice bo 0 bc, .slice co 1 cc] 26
 have hz3 : (w2.alloc (.cells #[.slice ao 1 ac, .slice bo 0 bc, .slice co 1 cc] 26)).heap.size = N + 1 := by rw [← hN]; simp
 rw [hN] at oD
 obtain ⟨W3, hW3⟩ : ∃ W3, w2.alloc (.cells #[.slice ao 1 ac, .slice bo 0 bc, .slice co 1 cc] 26) = W3 := ⟨_, rfl⟩
 rw [hW3] at oD B3 hz3
 have c3 := words9_any _ k9B _ (isLn_lit W3 (N + 1) (N + 1 + 1) hz3 rfl) (by intro L hL; rw [List.mem_singleton.1 hL]; decide) (by decide) (by intro L hL; rw [List.mem_singleton.1 hL]; decide)
 have B5 := ((B.refl W3).alloc #[.int .i64 3, .string ⟨#[114, 111, 117, 110, 100]⟩] 58).alloc #[.slice (some ⟨N + 1, 0, none⟩) 1 1] 59
 go_wp2_with fail
 try rw [hN]
 try rw [hW3]
 refine c3.mono ?_
 rintro e w6 ⟨u, vs, rfl, hO, q6⟩
 clear c3 hz3
 have c4 := parse_any u k9B w6 hO.is.lnO (by intro L hL; rw [List.mem_singleton.1 hL]; decide) (by decide) (by intro L hL; rw [List.mem_singleton.1 hL]; decide) (by intro L hL; rw [List.mem_singleton.1 hL]; decide)
 unfold ParseRes at c4
 rw [k9_parseB] at c4
 go_wp2_with fail
 refine c4.mono ?_
 rintro e w7 ⟨wv2, tv2, fv2, rv2, rfl, hD2, _, q7⟩
 clear c4 hO hW3
 have hro := hR.form
 obtain ⟨x1, y1, x2, y2, x3, y3, z1, z2, z3⟩ := hD2.forms
 obtain rfl : wv2 = .slice x1 0 y1 := z1
 obtain rfl : tv2 = .slice x2 0 y2 := z2
 obtain rfl : fv2 = .slice x3 0 y3 := z3
 have B7 := (B5.trans q6).trans q7
 have B8 := B7.alloc #[.slice x1 0 y1, .slice x2 0 y2, .slice x3 0 y3] 26
 have oD8 := B8.obj oD
 have hD8 := hD.keepB (B3.trans B8)
 have B08 := (B2.trans B3).trans B8
 obtain ⟨a, cp, e5, _, _, f0, f1, f2, f3⟩ := hD8.fs.at_ (i := 0) (by decide)
 obtain rfl : co = some a := by
  simp only [Value.slice.injEq] at e5
  exact e5.1
 clear q6 q7 B5 B7 B2 B3 oD hD hD2 B8
 have d0 := obj_cell oD8 0
 have d1 := obj_cell oD8 1
 have d2 := obj_cell oD8 2
 have f2' : (w7.alloc (.cells #[.slice x1 0 y1, .slice x2 0 y2, .slice x3 0 y3] 26)).cell? ⟨a.block, a.off + 2, none⟩ = some (.int .i64 1) := by
  have e := f2
  rw [show a.add (0 * 4) = a.add 0 from rfl, show (k9D.fs[0]).c = 1 from rfl] at e
  unfold Addr.add at e
  simpa using e
 clear f0 f1 f2 f3
 obtain ⟨W8, hW8⟩ : ∃ W8, w7.alloc (.cells #[.slice x1 0 y1, .slice x2 0 y2, .slice x3 0 y3] 26) = W8 := ⟨_, rfl⟩
 rw [hW8] at d0 d1 d2 f2' oD8 hD8 B08
 have cR := right9_any _ _ _ k9D _ hD8 (by intro r hr; rw [List.mem_singleton.1 hr]; decide) (by intro r hr; rw [List.mem_singleton.1 hr]; exact ⟨by decide, by decide⟩) (by intro r hr; cases hr) (by intro r hr; rw [List.mem_singleton.1 hr]; exact ⟨by decide, by decide, by decide⟩) (by decide)
 rw [k9_right] at cR
 clear hro
 go_wp2_with fail
 try rw [hW8]
 refine cR.mono ?_
 rintro _ w9 ⟨rfl, q9⟩
 have hD9 := hD8.keepB q9
 have oD9 := q9.obj oD8
 have cP := print9_any _ _ _ k9D w9 hD9 (by intro r hr; rw [List.mem_singleton.1 hr]; decide) (by intro r hr; rw [List.mem_singleton.1 hr]; exact ⟨by decide, by decide⟩) (by intro r hr; cases hr) (by intro r hr; rw [List.mem_singleton.1 hr]; exact ⟨by decide, by decide, by decide⟩) (by decide) (Lib.TabBelow.here ((Lib.tabBelow_of_tabIs htab).on (B08.trans q9).below))
 rw [k9_text] at cP
 have m0 := obj_cell oD9 0
 have m1 := obj_cell oD9 1
 have m2 := obj_cell oD9 2
 have B09 := B08.trans q9
 clear cR hD8 hD9 oD8 oD9 q9 d0 d1 d2 f2' hW8
 go_wp2_with fail
 refine cP.mono ?_
 rintro _ w10 ⟨rfl, q10⟩
 clear cP
 have HB := Lib.hid (B09.trans q10)
 have hstr : ((strB k9P).toList == [119, 97, 114, 101, 32, 112, 32, 49, 32, 50, 32, 53, 10, 114, 111, 117, 110, 100, 32, 49, 48, 48, 32, 53, 32, 53, 10, 102, 105, 108, 108, 32, 112, 46, 65, 50, 32, 55, 10]) = true := by
  rw [toList_data]
  rfl
 clear B09 B08 q10
 go_wp2
 go_ret
 exact ⟨rfl, HB.out⟩
end Go.Proofs.YtglniapfnhedoaaGreatDoor
namespace Go.Proofs.YtglniapfnhedoaaGreatDoor
open Go.RowKit
set_option linter.unusedVariables false
structure Wp where
 n : ByteArray
 r : Int
 c : Int
structure Sp where
 k : Int
 n : ByteArray
 w : List Wp
 v : Int
 m : Int
def Wp.t (p : Wp) : List UInt8 := wellT p.n p.r p.c
structure WpAt (w : World) (p : Addr) (f : Wp) : Prop where
 n : w.cell? p = some (.string f.n)
 r : w.cell? ⟨p.block, p.off + 1, none⟩ = some (.int .i64 f.r)
 c : w.cell? ⟨p.block, p.off + 2, none⟩ = some (.int .i64 f.c)
theorem WpAt.keepB {w w' : World} {p : Addr} {f : Wp} (h : WpAt w p f) (q : B w w') : WpAt w' p f := ⟨q.keep h.n, q.keep h.r, q.keep h.c⟩
def IsWps (w : World) (v : Value) (L : List Wp) : Prop :=
 (v = .slice none 0 0 ∧ L = []) ∨
 ∃ (a : Addr) (cap : Nat), v = .slice (some a) L.length cap ∧ L.length ≤ cap ∧ cap ≤ maxLen ∧ ∀ i f, L[i]? = some f → WpAt w (a.add (i * 3)) f
theorem IsWps.keepB {w w' : World} {v : Value} {L : List Wp} (h : IsWps w v L) (q : B w w') : IsWps w' v L := by
 rcases h with h | ⟨a, cap, h1, h2, h3, h4⟩
 ·exact .inl h
 ·exact .inr ⟨a, cap, h1, h2, h3, fun i f hf => (h4 i f hf).keepB q⟩
theorem IsWps.form {w : World} {v : Value} {L : List Wp} (h : IsWps w v L) : ∃ ao cap, v = .slice ao L.length cap := by
 rcases h with ⟨rfl, rfl⟩ | ⟨a, cap, rfl, _⟩
 ·exact ⟨_, _, rfl⟩
 ·exact ⟨_, _, rfl⟩
theorem IsWps.at_ {w : World} {v : Value} {L : List Wp} (h : IsWps w v L) {i : Nat} (hi : i < L.length) : ∃ (a : Addr) (cap : Nat), v = .slice (some a) L.length cap ∧ L.length ≤ cap ∧ cap ≤ maxLen ∧ WpAt w (a.add (i * 3)) L[i] := by
 rcases h with ⟨_, rfl⟩ | ⟨a, cap, h1, h2, h3, h4⟩
 ·simp at hi
 ·exact ⟨a, cap, h1, h2, h3, h4 i _ (List.getElem?_eq_getElem hi)⟩
theorem IsWps.len {w : World} {v : Value} {L : List Wp} (h : IsWps w v L) : L.length ≤ 9223372036854775807 := by
 rcases h with ⟨_, rfl⟩ | ⟨a, cap, _, h2, h3, _⟩
 ·simp
 ·exact len_max h2 h3
structure SpAt (w : World) (p : Addr) (s : Sp) : Prop where
 k : w.cell? p = some (.int .i64 s.k)
 n : w.cell? ⟨p.block, p.off + 1, none⟩ = some (.string s.n)
 ws : ∃ v, w.cell? ⟨p.block, p.off + 2, none⟩ = some v ∧ IsWps w v s.w
 v : w.cell? ⟨p.block, p.off + 3, none⟩ = some (.int .i64 s.v)
 m : w.cell? ⟨p.block, p.off + 4, none⟩ = some (.int .i64 s.m)
theorem SpAt.keepB {w w' : World} {p : Addr} {s : Sp} (h : SpAt w p s) (q : B w w') : SpAt w' p s :=
 ⟨q.keep h.k, q.keep h.n, let ⟨v, h1, h2⟩ := h.ws; ⟨v, q.keep h1, h2.keepB q⟩, q.keep h.v, q.keep h.m⟩
def IsSps (w : World) (v : Value) (L : List Sp) : Prop :=
 (v = .slice none 0 0 ∧ L = []) ∨
 ∃ (a : Addr) (cap : Nat), v = .slice (some a) L.length cap ∧ L.length ≤ cap ∧ cap ≤ maxLen ∧ ∀ i f, L[i]? = some f → SpAt w (a.add (i * 5)) f
theorem IsSps.keepB {w w' : World} {v : Value} {L : List Sp} (h : IsSps w v L) (q : B w w') : IsSps w' v L := by
 rcases h with h | ⟨a, cap, h1, h2, h3, h4⟩
 ·exact .inl h
 ·exact .inr ⟨a, cap, h1, h2, h3, fun i f hf => (h4 i f hf).keepB q⟩
theorem IsSps.form {w : World} {v : Value} {L : List Sp} (h : IsSps w v L) : ∃ ao cap, v = .slice ao L.length cap := by
 rcases h with ⟨rfl, rfl⟩ | ⟨a, cap, rfl, _⟩
 ·exact ⟨_, _, rfl⟩
 ·exact ⟨_, _, rfl⟩
theorem IsSps.at_ {w : World} {v : Value} {L : List Sp} (h : IsSps w v L) {i : Nat} (hi : i < L.length) : ∃ (a : Addr) (cap : Nat), v = .slice (some a) L.length cap ∧ L.length ≤ cap ∧ cap ≤ maxLen ∧ SpAt w (a.add (i * 5)) L[i] := by
 rcases h with ⟨_, rfl⟩ | ⟨a, cap, h1, h2, h3, h4⟩
 ·simp at hi
 ·exact ⟨a, cap, h1, h2, h3, h4 i _ (List.getElem?_eq_getElem hi)⟩
theorem IsSps.len {w : World} {v : Value} {L : List Sp} (h : IsSps w v L) : L.length ≤ 9223372036854775807 := by
 rcases h with ⟨_, rfl⟩ | ⟨a, cap, _, h2, h3, _⟩
 ·simp
 ·exact len_max h2 h3
end Go.Proofs.YtglniapfnhedoaaGreatDoor
