/-
  Contract of the document's Lines.
-/
import Derived.Test.YtflklpflpjdbmaaGreatDoorZ1
import Derived.Test.YtflklpflpjdbmaaGreatDoorZ3
import Derived.Test.YtflklpflpjdbmaaGreatDoorZ4
import Derived.Test.YtflklpflpjdbmaaGreatDoorZ15
namespace Go.Proofs.YtflklpflpjdbmaaGreatDoor
open Go.RowKit
theorem r8wordInfo : (Tryz.prog.info? 71).map (fun i => (i.zero, i.size, i.bytes)) = some (some (.agg #[.int .i64 0, .string .empty]), 2, 24) := by kernel_rfl
theorem r8lineInfo : (Tryz.prog.info? 72).map (fun i => (i.zero, i.size, i.bytes)) = some (some (.slice none 0 0), 1, 24) := by kernel_rfl
/-- A line that the call makes lies in none of the lines' blocks. -/
def Apart (lv ov : Value) (vs : List Value) : Prop := ∀ g, lv.ownBlock = some g → ov.ownBlock ≠ some g ∧ ∀ u ∈ vs, u.ownBlock ≠ some g
theorem apart_nil (ov : Value) (vs : List Value) : Apart (.slice none 0 0) ov vs := fun g h => by cases h
theorem apart_more {w : World} {base : Nat} {e : TypeId} {ov lv : Value} {LL : List (List Wd)} {vs : List Value} (h : LinesO w base e ov LL vs) (ha : Apart lv ov vs) {g n cap H : Nat} (hH : w.heap.size ≤ H) (hat : lv.ownBlock = some g ∨ g = H) : Apart (.slice (some ⟨g, 0, none⟩) n cap) ov vs := by
  intro x hx
  have hx' : g = x := Option.some.inj hx
  subst hx'
  rcases hat with hat | hat
  · exact ha g hat
  · refine ⟨fun e => by have := (h.own.lt g e).2; omega, fun u hu e => ?_⟩
    obtain ⟨j, hj⟩ := List.getElem?_of_mem hu
    have hlen := h.len
    have hlt : j < LL.length := by have := (List.getElem?_eq_some_iff.1 hj).1; omega
    obtain ⟨_, b, h2, _, h4, _⟩ := h.row j u _ hj (List.getElem?_eq_getElem hlt)
    rw [h2] at e
    cases e
    omega
set_option maxHeartbeats 4000000 in
set_option maxRecDepth 100000 in
theorem r8lines_any (ao : Option Addr) (b o cap : Nat) (bs : List UInt8) (w : World) (h : IsB w ao cap b o bs) :
    Calls Tryz.prog 14 #[.slice ao bs.length cap] w (LinesRes bs w) := by
  have hle := h.le
  have hcap := h.max
  unfold maxLen at hcap
  by_cases hbig : 65536 < bs.length
  · have hlB : decide ((65536 : Int) < (bs.length : Int)) = true := decide_eq_true (by omega)
    have e : linesB bs = ([], 65536, 27) := if_pos hbig
    unfold LinesRes
    rw [e]
    clear e h hle hcap
    go_enter Tryz.func14, Tryz.ntmps14
    go_wp2
    go_ret3
    exact ⟨_, rfl, .inl ⟨rfl, rfl⟩, B.refl _⟩
  have hlB : decide ((65536 : Int) < (bs.length : Int)) = false := decide_eq_false (by omega)
  have e : linesB bs = scan (bs.drop 0) 0 [] [] [] false := if_neg hbig
  obtain ⟨R, hR⟩ : ∃ R, linesB bs = R := ⟨_, rfl⟩
  have hn : bs.length ≤ 65536 := by omega
  unfold LinesRes
  rw [hR]
  rw [hR] at e
  clear hR hbig
  obtain ⟨i0, hi0, hz0, hz1, hz2⟩ := info_of r8lineInfo
  obtain ⟨i1, hi1, hy0, hy1, hy2⟩ := info_of r8wordInfo
  go_enter Tryz.func14, Tryz.ntmps14
  go_wp2
  clear hlB
  go_loopw [5, 6, 7, 8] (fun ov lv nv iv wr => ∃ (i : Nat) (ao1 ao2 : Option Addr) (c1 c2 : Nat) (LL : List (List Wd)) (vs : List Value) (ws : List Wd) (note : Bool), i ≤ bs.length ∧ iv = .int .i64 i ∧ ov = .slice ao1 LL.length c1 ∧ lv = .slice ao2 ws.length c2 ∧ nv = .bool note ∧
      LL.length ≤ i ∧ ws.length ≤ i ∧ LinesO wr w.heap.size 72 (.slice ao1 LL.length c1) LL vs ∧ wr.ownsRow w.heap.size 71 2 (.slice ao2 ws.length c2) ws.length (flatW ws) ∧ Apart (.slice ao2 ws.length c2) (.slice ao1 LL.length c1) vs ∧
      R = scan (bs.drop i) i LL ws [] note ∧ B w wr) (fun _ _ _ iv _ => bs.length + 1 - (intOf iv).toNat)
  case atStart => exact ⟨0, none, none, 0, 0, [], [], [], false, by omega, rfl, rfl, rfl, rfl, by simp, by simp, LinesO.nil _ _ _, World.ownsRow_nil _ _ _ _, apart_nil _ _, e, B.refl _⟩
  case round =>
    obtain ⟨i, ao1, ao2, c1, c2, LL, vs, ws, note, hi, rfl, rfl, rfl, rfl, hLL, hws, hO, hown, hap, hscan, hB⟩ := hrel
    obtain ⟨wo, rfl⟩ : ∃ wo : World, wo = wr := ⟨_, rfl⟩
    clear e
    by_cases hl : i < bs.length
    · obtain rfl := h.ao (by omega)
      obtain ⟨c, hg⟩ : ∃ c, bs[i]? = some c := ⟨_, List.getElem?_eq_getElem hl⟩
      have hat := h.at_.keep hB
      have hc := hat i c hg
      have hlB : decide ((i : Int) < (bs.length : Int)) = true := decide_eq_true (by omega)
      have hlI : (i : Int) < (bs.length : Int) := by omega
      have hi0' : (0 : Int) ≤ (i : Int) := by omega
      have wk1 : IntKind.i64.wrap ((i : Int) + 1) = (i : Int) + 1 := by rw [IntKind.wrap_i64]; omega
      obtain ⟨m, hm⟩ : ∃ m, c.toNat = m := ⟨_, rfl⟩
      rw [hm] at hc
      by_cases e10 : m = 10
      · have b10 : ((m : Int) == 10) = true := by simp; omega
        have hR' : R = scan (bs.drop (i + 1)) (i + 1) (flushL LL ws) [] [] false := by rw [hscan, scan_feed hg (by omega), flushW_none]
        by_cases hw : ws = []
        · subst hw
          rw [flushL_none] at hR'
          have HS := Lib.hid (And.intro hR' (And.intro hO hB))
          have HM := Lib.hid (And.intro hLL hl)
          clear hR' hscan hO hB hl hLL hws hown hap hat h hle hcap hg hm e10 hi
          go_wp2
          go_roundw
          case rel => exact ⟨i + 1, ao1, none, c1, 0, LL, vs, [], false, by have := HM.out; omega, by go_num, rfl, rfl, rfl, by have := HM.out; omega, by simp, HS.out.2.1, World.ownsRow_nil _ _ _ _, apart_nil _ _, HS.out.1, HS.out.2.2⟩
          case measure => have := HM.out; simp [intOf]; omega
        · have hlen : 0 < ws.length := List.length_pos_iff.2 hw
          have hwB : decide ((0 : Int) < (ws.length : Int)) = true := decide_eq_true (by omega)
          rw [flushL_some hw] at hR'
          have hIW := words_own hown rfl
          obtain ⟨g, c3, hv, _, _, hg', _⟩ := hIW.full hlen
          obtain ⟨rfl, _, rfl⟩ : ao2 = some ⟨g, 0, none⟩ ∧ True ∧ c2 = c3 := by simpa using hv
          have hO2 := hO.keep ((B.refl wo).alloc #[.slice (some ⟨g, 0, none⟩) ws.length c2] 72)
          have own2 := hO2.own
          have hIW2 := hIW.keep ((B.refl wo).alloc #[.slice (some ⟨g, 0, none⟩) ws.length c2] 72)
          have B2 := hB.alloc #[.slice (some ⟨g, 0, none⟩) ws.length c2] 72
          have hne := (hap g rfl).1
          have hgb := (hown.lt g rfl).1
          have h16 : LL.length ≤ 65536 := by omega
          have hb2 := B2.below.size
          have HM := Lib.hid (And.intro hLL (And.intro hl hg'))
          have HS := Lib.hid (And.intro hR' (And.intro hO2 (And.intro hIW2 (And.intro hne (And.intro hgb B2)))))
          clear hR' hscan hO hB hl hLL hws hown hap hat h hle hcap hg hm e10 hO2 hIW hIW2 hne hgb B2 hv hw hg' hi
          go_wp2_with (at_builtin; refine wpList_append_lies _ rfl _ _ 44 rfl w.heap.size 72 i0 _ 1 24 Tryz.underlying44 hi0 hz0 hz1 hz2 rfl (by omega) (.slice ao1 LL.length c1) LL.length vs rfl own2 ⟨wo.heap.size, 0, none⟩ 1 1 [.slice (some ⟨g, 0, none⟩) ws.length c2] rfl rfl (newest rfl) (fun u hu => by simp at hu; rw [hu]; rfl) (by omega) (by unfold maxLen; omega) (by omega) hb2 _ rfl ?_; intro gb cp W4 hown4 hgrow hat4 hlt4; have hO4 := lines_more HS.out.2.1 hown4 hgrow hat4 HS.out.2.2.1 rfl HS.out.2.2.2.1 (by simp; have := HM.out; omega) HS.out.2.2.2.2.1; have B4 := HS.out.2.2.2.2.2.grownBy hgrow (fun x hx => (own2.lt x hx).1); clear hgrow hat4 hlt4 own2 hown4 hlen hwB; replace hO4 := Lib.hid hO4; go_wp2_with fail)
          go_roundw
          case rel => exact ⟨i + 1, some ⟨gb, 0, none⟩, none, cp, 0, LL ++ [ws], vs ++ [.slice (some ⟨g, 0, none⟩) ws.length c2], [], false, by have := HM.out; omega, by go_num, by simp, rfl, rfl, by have := HM.out; simp; omega, by simp, hO4.out, World.ownsRow_nil _ _ _ _, apart_nil _ _, HS.out.1, B4⟩
          case measure => have := HM.out; simp [intOf]; omega
      have b10 : ((m : Int) == 10) = false := by simp; omega
      cases note
      case true =>
        have hR' : R = scan (bs.drop (i + 1)) (i + 1) LL ws [] true := by rw [hscan, scan_note hg (by omega)]
        have HS := Lib.hid (And.intro hR' (And.intro hO (And.intro hown (And.intro hap hB))))
        have HM := Lib.hid (And.intro hLL (And.intro hl hws))
        clear hR' hscan hO hB hl hLL hws hown hap hat h hle hcap hg hm e10 hi
        go_wp2
        go_roundw
        case rel => exact ⟨i + 1, ao1, ao2, c1, c2, LL, vs, ws, true, by have := HM.out; omega, by go_num, rfl, rfl, rfl, by have := HM.out; omega, by have := HM.out; omega, HS.out.2.1, HS.out.2.2.1, HS.out.2.2.2.1, HS.out.1, HS.out.2.2.2.2⟩
        case measure => have := HM.out; simp [intOf]; omega
      by_cases e35 : m = 35
      · have b35 : ((m : Int) == 35) = true := by simp; omega
        have hR' : R = scan (bs.drop (i + 1)) (i + 1) LL ws [] true := by rw [hscan, scan_hash hg (by omega), flushW_none]
        have HS := Lib.hid (And.intro hR' (And.intro hO (And.intro hown (And.intro hap hB))))
        have HM := Lib.hid (And.intro hLL (And.intro hl hws))
        clear hR' hscan hO hB hl hLL hws hown hap hat h hle hcap hg hm e10 e35 hi
        go_wp2
        go_roundw
        case rel => exact ⟨i + 1, ao1, ao2, c1, c2, LL, vs, ws, true, by have := HM.out; omega, by go_num, rfl, rfl, rfl, by have := HM.out; omega, by have := HM.out; omega, HS.out.2.1, HS.out.2.2.1, HS.out.2.2.2.1, HS.out.1, HS.out.2.2.2.2⟩
        case measure => have := HM.out; simp [intOf]; omega
      have b35 : ((m : Int) == 35) = false := by simp; omega
      by_cases e32 : m = 32
      · have b32 : ((m : Int) == 32) = true := by simp; omega
        have hR' : R = scan (bs.drop (i + 1)) (i + 1) LL ws [] false := by rw [hscan, scan_gap hg (by omega), flushW_none]
        have HS := Lib.hid (And.intro hR' (And.intro hO (And.intro hown (And.intro hap hB))))
        have HM := Lib.hid (And.intro hLL (And.intro hl hws))
        clear hR' hscan hO hB hl hLL hws hown hap hat h hle hcap hg hm e10 e35 e32 hi
        go_wp2
        go_roundw
        case rel => exact ⟨i + 1, ao1, ao2, c1, c2, LL, vs, ws, false, by have := HM.out; omega, by go_num, rfl, rfl, rfl, by have := HM.out; omega, by have := HM.out; omega, HS.out.2.1, HS.out.2.2.1, HS.out.2.2.2.1, HS.out.1, HS.out.2.2.2.2⟩
        case measure => have := HM.out; simp [intOf]; omega
      by_cases e9 : m = 9
      · have b32 : ((m : Int) == 32) = false := by simp; omega
        have b9 : ((m : Int) == 9) = true := by simp; omega
        have hR' : R = scan (bs.drop (i + 1)) (i + 1) LL ws [] false := by rw [hscan, scan_gap hg (by omega), flushW_none]
        have HS := Lib.hid (And.intro hR' (And.intro hO (And.intro hown (And.intro hap hB))))
        have HM := Lib.hid (And.intro hLL (And.intro hl hws))
        clear hR' hscan hO hB hl hLL hws hown hap hat h hle hcap hg hm e10 e35 e9 e32 hi
        go_wp2
        go_roundw
        case rel => exact ⟨i + 1, ao1, ao2, c1, c2, LL, vs, ws, false, by have := HM.out; omega, by go_num, rfl, rfl, rfl, by have := HM.out; omega, by have := HM.out; omega, HS.out.2.1, HS.out.2.2.1, HS.out.2.2.2.1, HS.out.1, HS.out.2.2.2.2⟩
        case measure => have := HM.out; simp [intOf]; omega
      have b32 : ((m : Int) == 32) = false := by simp; omega
      have b9 : ((m : Int) == 9) = false := by simp; omega
      have cp := fun w => r8part_any m w
      cases hpart : partN m
      · rw [hpart] at cp
        have HR : R = ([], i, 24) := by rw [hscan, scan_bad hg (by omega) (by rw [hm]; exact hpart) (by omega) (by omega)]
        have HB := Lib.hid hB
        subst HR
        clear hscan hO hB hl hLL hws hown hap hat h hle hcap hg hm e10 e35 e32 e9 hpart hi
        go_wp2_with fail
        refine (cp _).mono ?_
        rintro e w1 ⟨rfl, rfl⟩
        clear cp
        go_wp2
        go_ret3
        exact ⟨_, rfl, .inl ⟨rfl, rfl⟩, HB.out⟩
      · rw [hpart] at cp
        have HO := Lib.hid (And.intro hO (And.intro hown (And.intro hap (And.intro hscan hB))))
        have HM := Lib.hid (And.intro hLL (And.intro hl hws))
        have HG := Lib.hid (And.intro hg (show partN c.toNat = true by rw [hm]; exact hpart))
        have hconvs : ∀ k, i ≤ k → k ≤ bs.length → (convert 47 9 (.slice (some ⟨b, o + i, none⟩) (k - i) (cap - i))).run Tryz.prog wo = .ok (.string (strB (cut bs i k))) wo := fun k h1 h2 => by
          have := run_convert_bytes_arg (P := Tryz.prog) wo 47 5 Tryz.underlying47 Tryz.underlying5 b (o + i) (k - i) (cap - i) (nums (cut bs i k)) (by rw [nums_len, cut_len h1 h2])
            ((hat.drop i).take (k - i) |>.nums (cut_len h1 h2)) 9 Tryz.underlying9
          rw [strB_nums] at this
          exact this
        replace hat := Lib.hid hat
        replace hconvs := Lib.hid hconvs
        have hcp : i < cap := by omega
        have hcp' : ¬ cap = i := by omega
        replace h := Lib.hid h
        have Hl := Lib.hid hl
        clear hscan hO hB hl hLL hws hown hap hg hm e10 e35 e32 e9 hpart
        go_wp2_with fail
        refine (cp _).mono ?_
        rintro e w1 ⟨rfl, rfl⟩
        clear cp
        go_wp2
        clear b10 b35 b32 b9
        go_loopw [10] (fun kv wq => ∃ k : Nat, i ≤ k ∧ k ≤ bs.length ∧ kv = .int .i64 k ∧ (∀ j, i ≤ j → j < k → ∀ c, bs[j]? = some c → partN c.toNat = true) ∧ wo = wq) (fun kv _ => bs.length + 1 - (intOf kv).toNat)
        case atStart => exact ⟨i, Nat.le_refl _, hi, rfl, fun j h1 h2 => by omega, rfl⟩
        case round =>
          obtain ⟨k, hik, hk, rfl, hall, rfl⟩ := hrel
          obtain ⟨wo, rfl⟩ : ∃ wq : World, wq = wo := ⟨_, rfl⟩
          by_cases hlk : k < bs.length
          · obtain ⟨x, hx⟩ : ∃ x, bs[k]? = some x := ⟨_, List.getElem?_eq_getElem hlk⟩
            have hcx := hat.out k x hx
            have hlB : decide ((k : Int) < (bs.length : Int)) = true := decide_eq_true (by omega)
            have hlI : (k : Int) < (bs.length : Int) := by omega
            have hk0 : (0 : Int) ≤ (k : Int) := by omega
            obtain ⟨mx, hmx⟩ : ∃ m, x.toNat = m := ⟨_, rfl⟩
            rw [hmx] at hcx
            have cp := fun w => r8part_any mx w
            cases hpx : partN mx
            · rw [hpx] at cp
              have hconv := hconvs.out k hik hk
              have kp : (i : Int) ≤ (k : Int) := by omega
              have kc : (k : Int) ≤ (cap : Int) := by omega
              obtain ⟨hSz, hscan', hqk⟩ : (cut bs i k).length = k - i ∧ R = scan (bs.drop k) k LL (ws ++ [(i, cut bs i k)]) [] false ∧ i < k := by
                obtain ⟨hg, hpart⟩ := HG.out
                have k4 : bs.length ≤ k ∨ ∃ c, bs[k]? = some c ∧ partN c.toNat = false := .inr ⟨x, hx, by rw [hmx]; exact hpx⟩
                have hqk : i < k := by
                  rcases Nat.lt_or_ge i k with hh | hh
                  · exact hh
                  · have e : k = i := by omega
                    subst e
                    rcases k4 with k4 | ⟨x, kx, ky⟩
                    · have := Hl.out; omega
                    · rw [hg] at kx; cases kx; rw [hpart] at ky; cases ky
                exact ⟨cut_len hik hk, HO.out.2.2.2.1.trans (scan_whole hqk hk hall k4), hqk⟩
              obtain ⟨km, hkm⟩ : ∃ km, k = km + 1 := ⟨k - 1, by omega⟩
              have wkm : IntKind.i64.wrap ((k : Int) - 1) = (km : Int) := by rw [IntKind.wrap_i64]; omega
              have wkp : IntKind.i64.wrap ((km : Int) + 1) = (k : Int) := by rw [IntKind.wrap_i64]; omega
              obtain ⟨T, hT⟩ : ∃ T, cut bs i k = T := ⟨_, rfl⟩
              rw [hT] at hscan' hconv
              obtain ⟨S, hS⟩ : ∃ S, strB T = S := ⟨_, rfl⟩
              rw [hS] at hconv
              have own3 := row_keep HO.out.2.1 ((B.refl wo).alloc #[.int .i64 (i : Int), .string S] 71)
              have hO3 := HO.out.1.keep ((B.refl wo).alloc #[.int .i64 (i : Int), .string S] 71)
              have B3 := HO.out.2.2.2.2.alloc #[.int .i64 (i : Int), .string S] 71
              have hfl : flatW (ws ++ [(i, T)]) = flatW ws ++ [.int .i64 ((i : Nat) : Int), .string S] := by rw [flatW_snoc, hS]
              have h16 : ws.length ≤ 65536 := by have := HM.out; omega
              have hb3 := B3.below.size
              have HS := Lib.hid (And.intro hscan' (And.intro hqk (And.intro hk (And.intro hO3 (And.intro HO.out.2.2.1 B3)))))
              replace hfl := Lib.hid hfl
              replace hS := Lib.hid hS
              clear hkm hconvs hall hT hSz hscan' hqk hO3 B3 HG hat HO hik hk h hx hmx hpx hlk
              go_wp2_with fail
              refine (cp _).mono ?_
              rintro e w1 ⟨rfl, rfl⟩
              clear cp hcx
              go_wp2_with (at_builtin; refine wpList_append_lies _ rfl _ _ 72 rfl w.heap.size 71 i1 _ 2 24 Tryz.underlying72 hi1 hy0 hy1 hy2 rfl (by omega) (.slice ao2 ws.length c2) ws.length (flatW ws) rfl own3 ⟨wo.heap.size, 0, none⟩ 1 1 [.int .i64 (i : Int), .string S] rfl rfl (newest rfl) (fun u hu => by simp at hu; rcases hu with rfl | rfl <;> rfl) (by omega) (by unfold maxLen; omega) (by omega) hb3 _ rfl ?_; intro gb cp W4 hown4 hgrow hat4 hlt4; have hO4 := lines_keep HS.out.2.2.2.1 hgrow (fun x hx => (HS.out.2.2.2.2.1 x hx).1) (fun x hx => (HS.out.2.2.2.2.1 x hx).2); have hap4 := apart_more HS.out.2.2.2.1 HS.out.2.2.2.2.1 (n := ws.length + 1) (cap := cp) (Nat.le_refl _) hat4; have B4 := HS.out.2.2.2.2.2.grownBy hgrow (fun x hx => (own3.lt x hx).1); rw [← hfl.out] at hown4; clear hgrow hat4 hlt4 own3; go_wp2_with fail)
              go_roundw
              case rel => exact ⟨k, ao1, some ⟨gb, 0, none⟩, c1, cp, LL, vs, ws ++ [(i, T)], false, HS.out.2.2.1, by go_num, rfl, by simp, rfl, by have := HS.out.2.1; have := HM.out; omega, by have := HS.out.2.1; have := HM.out; simp; omega, hO4, by simpa using hown4, by simpa using hap4, HS.out.1, B4⟩
              case measure => have := HS.out.2.1; have := HM.out; simp [intOf]; omega
            · rw [hpx] at cp
              have wk1 : IntKind.i64.wrap ((k : Int) + 1) = (k : Int) + 1 := by rw [IntKind.wrap_i64]; omega
              have HA := Lib.hid (show i ≤ k + 1 ∧ k + 1 ≤ bs.length ∧ (∀ j, i ≤ j → j < k + 1 → ∀ c, bs[j]? = some c → partN c.toNat = true) ∧ k < bs.length from ⟨by omega, by omega, fun j h1 h2 y hy => by
                by_cases hj : j = k
                · subst hj; rw [hx] at hy; cases hy; rw [hmx]; exact hpx
                · exact hall j h1 (by omega) y hy, hlk⟩)
              clear hall hpx hmx hx hlk hik hk
              go_wp2_with fail
              refine (cp _).mono ?_
              rintro e w1 ⟨rfl, rfl⟩
              clear cp
              go_wp2
              go_roundw
              case rel => exact ⟨k + 1, HA.out.1, HA.out.2.1, by go_num, HA.out.2.2.1, trivial⟩
              case measure => have := HA.out; simp [intOf]; omega
          · have hlB : decide ((k : Int) < (bs.length : Int)) = false := decide_eq_false (by omega)
            have hconv := hconvs.out k hik hk
            have kp : (i : Int) ≤ (k : Int) := by omega
            have kc : (k : Int) ≤ (cap : Int) := by omega
            obtain ⟨hSz, hscan', hqk⟩ : (cut bs i k).length = k - i ∧ R = scan (bs.drop k) k LL (ws ++ [(i, cut bs i k)]) [] false ∧ i < k := by
              obtain ⟨hg, hpart⟩ := HG.out
              have k4 : bs.length ≤ k ∨ ∃ c, bs[k]? = some c ∧ partN c.toNat = false := .inl (by omega)
              have hqk : i < k := by
                rcases Nat.lt_or_ge i k with hh | hh
                · exact hh
                · have e : k = i := by omega
                  subst e
                  rcases k4 with k4 | ⟨x, kx, ky⟩
                  · have := Hl.out; omega
                  · rw [hg] at kx; cases kx; rw [hpart] at ky; cases ky
              exact ⟨cut_len hik hk, HO.out.2.2.2.1.trans (scan_whole hqk hk hall k4), hqk⟩
            obtain ⟨km, hkm⟩ : ∃ km, k = km + 1 := ⟨k - 1, by omega⟩
            have wkm : IntKind.i64.wrap ((k : Int) - 1) = (km : Int) := by rw [IntKind.wrap_i64]; omega
            have wkp : IntKind.i64.wrap ((km : Int) + 1) = (k : Int) := by rw [IntKind.wrap_i64]; omega
            obtain ⟨T, hT⟩ : ∃ T, cut bs i k = T := ⟨_, rfl⟩
            rw [hT] at hscan' hconv
            obtain ⟨S, hS⟩ : ∃ S, strB T = S := ⟨_, rfl⟩
            rw [hS] at hconv
            have own3 := row_keep HO.out.2.1 ((B.refl wo).alloc #[.int .i64 (i : Int), .string S] 71)
            have hO3 := HO.out.1.keep ((B.refl wo).alloc #[.int .i64 (i : Int), .string S] 71)
            have B3 := HO.out.2.2.2.2.alloc #[.int .i64 (i : Int), .string S] 71
            have hfl : flatW (ws ++ [(i, T)]) = flatW ws ++ [.int .i64 ((i : Nat) : Int), .string S] := by rw [flatW_snoc, hS]
            have h16 : ws.length ≤ 65536 := by have := HM.out; omega
            have hb3 := B3.below.size
            have HS := Lib.hid (And.intro hscan' (And.intro hqk (And.intro hk (And.intro hO3 (And.intro HO.out.2.2.1 B3)))))
            replace hfl := Lib.hid hfl
            replace hS := Lib.hid hS
            clear hkm hconvs hall hT hSz hscan' hqk hO3 B3 HG hat HO hik hk h 
            go_wp2_with (at_builtin; refine wpList_append_lies _ rfl _ _ 72 rfl w.heap.size 71 i1 _ 2 24 Tryz.underlying72 hi1 hy0 hy1 hy2 rfl (by omega) (.slice ao2 ws.length c2) ws.length (flatW ws) rfl own3 ⟨wo.heap.size, 0, none⟩ 1 1 [.int .i64 (i : Int), .string S] rfl rfl (newest rfl) (fun u hu => by simp at hu; rcases hu with rfl | rfl <;> rfl) (by omega) (by unfold maxLen; omega) (by omega) hb3 _ rfl ?_; intro gb cp W4 hown4 hgrow hat4 hlt4; have hO4 := lines_keep HS.out.2.2.2.1 hgrow (fun x hx => (HS.out.2.2.2.2.1 x hx).1) (fun x hx => (HS.out.2.2.2.2.1 x hx).2); have hap4 := apart_more HS.out.2.2.2.1 HS.out.2.2.2.2.1 (n := ws.length + 1) (cap := cp) (Nat.le_refl _) hat4; have B4 := HS.out.2.2.2.2.2.grownBy hgrow (fun x hx => (own3.lt x hx).1); rw [← hfl.out] at hown4; clear hgrow hat4 hlt4 own3; go_wp2_with fail)
            go_roundw
            case rel => exact ⟨k, ao1, some ⟨gb, 0, none⟩, c1, cp, LL, vs, ws ++ [(i, T)], false, HS.out.2.2.1, by go_num, rfl, by simp, rfl, by have := HS.out.2.1; have := HM.out; omega, by have := HS.out.2.1; have := HM.out; simp; omega, hO4, by simpa using hown4, by simpa using hap4, HS.out.1, B4⟩
            case measure => have := HS.out.2.1; have := HM.out; simp [intOf]; omega
    · have hlB : decide ((i : Int) < (bs.length : Int)) = false := decide_eq_false (by omega)
      have hR' : R = (flushL LL ws, 0, 0) := by rw [hscan, scan_end (by omega), flushW_none]
      by_cases hw : ws = []
      · subst hw
        rw [flushL_none] at hR'
        have HB := Lib.hid (And.intro hO.is hB)
        subst hR'
        clear hscan hO hB hLL hws hown hap h hle hcap
        go_wp2
        go_ret3
        exact ⟨_, rfl, HB.out.1, HB.out.2⟩
      · have hlen : 0 < ws.length := List.length_pos_iff.2 hw
        have hwB : decide ((0 : Int) < (ws.length : Int)) = true := decide_eq_true (by omega)
        rw [flushL_some hw] at hR'
        have hIW := words_own hown rfl
        obtain ⟨g, c3, hv, _, _, hg', _⟩ := hIW.full hlen
        obtain ⟨rfl, _, rfl⟩ : ao2 = some ⟨g, 0, none⟩ ∧ True ∧ c2 = c3 := by simpa using hv
        have hO2 := hO.keep ((B.refl wo).alloc #[.slice (some ⟨g, 0, none⟩) ws.length c2] 72)
        have own2 := hO2.own
        have hIW2 := hIW.keep ((B.refl wo).alloc #[.slice (some ⟨g, 0, none⟩) ws.length c2] 72)
        have B2 := hB.alloc #[.slice (some ⟨g, 0, none⟩) ws.length c2] 72
        have hne := (hap g rfl).1
        have hgb := (hown.lt g rfl).1
        have h16 : LL.length ≤ 65536 := by omega
        have hb2 := B2.below.size
        subst hR'
        have HM := Lib.hid hg'
        have HS := Lib.hid (And.intro hO2 (And.intro hIW2 (And.intro hne (And.intro hgb B2))))
        clear hscan hO hB hLL hws hown hap h hle hcap hO2 hIW hIW2 hne hgb B2 hv hw hg' hi
        go_wp2_with (at_builtin; refine wpList_append_lies _ rfl _ _ 44 rfl w.heap.size 72 i0 _ 1 24 Tryz.underlying44 hi0 hz0 hz1 hz2 rfl (by omega) (.slice ao1 LL.length c1) LL.length vs rfl own2 ⟨wo.heap.size, 0, none⟩ 1 1 [.slice (some ⟨g, 0, none⟩) ws.length c2] rfl rfl (newest rfl) (fun u hu => by simp at hu; rw [hu]; rfl) (by omega) (by unfold maxLen; omega) (by omega) hb2 _ rfl ?_; intro gb cp W4 hown4 hgrow hat4 hlt4; have hO4 := lines_more HS.out.1 hown4 hgrow hat4 HS.out.2.1 rfl HS.out.2.2.1 (by simp; have := HM.out; omega) HS.out.2.2.2.1; have B4 := HS.out.2.2.2.2.grownBy hgrow (fun x hx => (own2.lt x hx).1); clear hgrow hat4 hlt4 own2 hown4 hlen hwB; replace hO4 := Lib.hid hO4; go_wp2_with fail)
        go_ret3
        exact ⟨_, rfl, by have := hO4.out.is; simpa using this, B4⟩
end Go.Proofs.YtflklpflpjdbmaaGreatDoor
