/-
  Contract of the document's Lines; The statements' words: the document's lines as the program's.
-/
import Derived.Test.YthlileddhgglnaaDoorV1
import Derived.Test.YthlileddhgglnaaDoorV2
import Derived.Test.YthlileddhgglnaaDoorV3
import Derived.Test.YthlileddhgglnaaDoorV10
import Derived.Test.YthlileddhgglnaaDoorV11
namespace Go.Proofs.YthlileddhgglnaaDoor
open Go.RowKit
theorem r8wordInfo : (Tryd.prog.info? 43).map (fun i => (i.zero, i.size, i.bytes)) = some (some (.agg #[.int .i64 0, .string .empty]), 2, 24) := by kernel_rfl
theorem r8lineInfo : (Tryd.prog.info? 41).map (fun i => (i.zero, i.size, i.bytes)) = some (some (.slice none 0 0), 1, 24) := by kernel_rfl
/-- A line that the call makes lies in none of the lines' blocks. -/
def Apart (lv ov : Value) (vs : List Value) : Prop := ∀ g, lv.ownBlock = some g → ov.ownBlock ≠ some g ∧ ∀ u ∈ vs, u.ownBlock ≠ some g
theorem apart_nil (ov : Value) (vs : List Value) : Apart (.slice none 0 0) ov vs := fun g h => by cases h
theorem apart_more {w : World} {base : Nat} {e : TypeId} {ov lv : Value} {LL : List (List Wd)} {vs : List Value} (h : LinesO w base e ov LL vs) (ha : Apart lv ov vs) {g n cap H : Nat} (hH : w.heap.size ≤ H) (hat : lv.ownBlock = some g ∨ g = H) : Apart (.slice (some ⟨g, 0, none⟩) n cap) ov vs := by
  intro x hx
  have hx' : g = x := Option.some.inj hx
  subst hx'
  rcases hat with hat | hat
  · exact ha g hat
  · refine ⟨fun e => by have := (h.own.lt g e).2; omega, fun u hu e => ?_⟩
    obtain ⟨j, hj⟩ := List.getElem?_of_mem hu
    have hlen := h.len
    have hlt : j < LL.length := by have := (List.getElem?_eq_some_iff.1 hj).1; omega
    obtain ⟨_, b, h2, _, h4, _⟩ := h.row j u _ hj (List.getElem?_eq_getElem hlt)
    rw [h2] at e
    cases e
    omega
set_option maxHeartbeats 4000000 in
set_option maxRecDepth 100000 in
theorem r8lines_any (ao : Option Addr) (b o cap : Nat) (bs : List UInt8) (w : World) (h : IsB w ao cap b o bs) :
    Calls Tryd.prog 8 #[.slice ao bs.length cap] w (LinesRes bs w) := by
  have hle := h.le
  have hcap := h.max
  unfold maxLen at hcap
  by_cases hbig : 65536 < bs.length
  · have hlB : decide ((65536 : Int) < (bs.length : Int)) = true := decide_eq_true (by omega)
    have e : linesB bs = ([], 65536, 27) := if_pos hbig
    unfold LinesRes
    rw [e]
    clear e h hle hcap
    go_enter Tryd.func8, Tryd.ntmps8
    go_wp2
    go_ret3
    exact ⟨_, rfl, .inl ⟨rfl, rfl⟩, B.refl _⟩
  have hlB : decide ((65536 : Int) < (bs.length : Int)) = false := decide_eq_false (by omega)
  have e : linesB bs = scan (bs.drop 0) 0 [] [] [] false := if_neg hbig
  obtain ⟨R, hR⟩ : ∃ R, linesB bs = R := ⟨_, rfl⟩
  have hn : bs.length ≤ 65536 := by omega
  unfold LinesRes
  rw [hR]
  rw [hR] at e
  clear hR hbig
  obtain ⟨i0, hi0, hz0, hz1, hz2⟩ := info_of r8lineInfo
  obtain ⟨i1, hi1, hy0, hy1, hy2⟩ := info_of r8wordInfo
  go_enter Tryd.func8, Tryd.ntmps8
  go_wp2
  clear hlB
  go_loopw [5, 6, 7, 8] (fun ov lv nv iv wr => ∃ (i : Nat) (ao1 ao2 : Option Addr) (c1 c2 : Nat) (LL : List (List Wd)) (vs : List Value) (ws : List Wd) (note : Bool), i ≤ bs.length ∧ iv = .int .i64 i ∧ ov = .slice ao1 LL.length c1 ∧ lv = .slice ao2 ws.length c2 ∧ nv = .bool note ∧
      LL.length ≤ i ∧ ws.length ≤ i ∧ LinesO wr w.heap.size 41 (.slice ao1 LL.length c1) LL vs ∧ wr.ownsRow w.heap.size 43 2 (.slice ao2 ws.length c2) ws.length (flatW ws) ∧ Apart (.slice ao2 ws.length c2) (.slice ao1 LL.length c1) vs ∧
      R = scan (bs.drop i) i LL ws [] note ∧ B w wr) (fun _ _ _ iv _ => bs.length + 1 - (intOf iv).toNat)
  case atStart => exact ⟨0, none, none, 0, 0, [], [], [], false, by omega, rfl, rfl, rfl, rfl, by simp, by simp, LinesO.nil _ _ _, World.ownsRow_nil _ _ _ _, apart_nil _ _, e, B.refl _⟩
  case round =>
    obtain ⟨i, ao1, ao2, c1, c2, LL, vs, ws, note, hi, rfl, rfl, rfl, rfl, hLL, hws, hO, hown, hap, hscan, hB⟩ := hrel
    obtain ⟨wo, rfl⟩ : ∃ wo : World, wo = wr := ⟨_, rfl⟩
    clear e
    by_cases hl : i < bs.length
    · obtain rfl := h.ao (by omega)
      obtain ⟨c, hg⟩ : ∃ c, bs[i]? = some c := ⟨_, List.getElem?_eq_getElem hl⟩
      have hat := h.at_.keep hB
      have hc := hat i c hg
      have hlB : decide ((i : Int) < (bs.length : Int)) = true := decide_eq_true (by omega)
      have hlI : (i : Int) < (bs.length : Int) := by omega
      have hi0' : (0 : Int) ≤ (i : Int) := by omega
      have wk1 : IntKind.i64.wrap ((i : Int) + 1) = (i : Int) + 1 := by rw [IntKind.wrap_i64]; omega
      obtain ⟨m, hm⟩ : ∃ m, c.toNat = m := ⟨_, rfl⟩
      rw [hm] at hc
      by_cases e10 : m = 10
      · have b10 : ((m : Int) == 10) = true := by simp; omega
        have hR' : R = scan (bs.drop (i + 1)) (i + 1) (flushL LL ws) [] [] false := by rw [hscan, scan_feed hg (by omega), flushW_none]
        by_cases hw : ws = []
        · subst hw
          rw [flushL_none] at hR'
          have HS := Lib.hid (And.intro hR' (And.intro hO hB))
          have HM := Lib.hid (And.intro hLL hl)
          clear hR' hscan hO hB hl hLL hws hown hap hat h hle hcap hg hm e10 hi
          go_wp2
          go_roundw
          case rel => exact ⟨i + 1, ao1, none, c1, 0, LL, vs, [], false, by have := HM.out; omega, by go_num, rfl, rfl, rfl, by have := HM.out; omega, by simp, HS.out.2.1, World.ownsRow_nil _ _ _ _, apart_nil _ _, HS.out.1, HS.out.2.2⟩
          case measure => have := HM.out; simp [intOf]; omega
        · have hlen : 0 < ws.length := List.length_pos_iff.2 hw
          have hwB : decide ((0 : Int) < (ws.length : Int)) = true := decide_eq_true (by omega)
          rw [flushL_some hw] at hR'
          have hIW := words_own hown rfl
          obtain ⟨g, c3, hv, _, _, hg', _⟩ := hIW.full hlen
          obtain ⟨rfl, _, rfl⟩ : ao2 = some ⟨g, 0, none⟩ ∧ True ∧ c2 = c3 := by simpa using hv
          have hO2 := hO.keep ((B.refl wo).alloc #[.slice (some ⟨g, 0, none⟩) ws.length c2] 41)
          have own2 := hO2.own
          have hIW2 := hIW.keep ((B.refl wo).alloc #[.slice (some ⟨g, 0, none⟩) ws.length c2] 41)
          have B2 := hB.alloc #[.slice (some ⟨g, 0, none⟩) ws.length c2] 41
          have hne := (hap g rfl).1
          have hgb := (hown.lt g rfl).1
          have h16 : LL.length ≤ 65536 := by omega
          have hb2 := B2.below.size
          have HM := Lib.hid (And.intro hLL (And.intro hl hg'))
          have HS := Lib.hid (And.intro hR' (And.intro hO2 (And.intro hIW2 (And.intro hne (And.intro hgb B2)))))
          clear hR' hscan hO hB hl hLL hws hown hap hat h hle hcap hg hm e10 hO2 hIW hIW2 hne hgb B2 hv hw hg' hi
          go_wp2_with (at_builtin; refine wpList_append_lies _ rfl _ _ 25 rfl w.heap.size 41 i0 _ 1 24 Tryd.underlying25 hi0 hz0 hz1 hz2 rfl (by omega) (.slice ao1 LL.length c1) LL.length vs rfl own2 ⟨wo.heap.size, 0, none⟩ 1 1 [.slice (some ⟨g, 0, none⟩) ws.length c2] rfl rfl (newest rfl) (fun u hu => by simp at hu; rw [hu]; rfl) (by omega) (by unfold maxLen; omega) (by omega) hb2 _ rfl ?_; intro gb cp W4 hown4 hgrow hat4 hlt4; have hO4 := lines_more HS.out.2.1 hown4 hgrow hat4 HS.out.2.2.1 rfl HS.out.2.2.2.1 (by simp; have := HM.out; omega) HS.out.2.2.2.2.1; have B4 := HS.out.2.2.2.2.2.grownBy hgrow (fun x hx => (own2.lt x hx).1); clear hgrow hat4 hlt4 own2 hown4 hlen hwB; replace hO4 := Lib.hid hO4; go_wp2_with fail)
          go_roundw
          case rel => exact ⟨i + 1, some ⟨gb, 0, none⟩, none, cp, 0, LL ++ [ws], vs ++ [.slice (some ⟨g, 0, none⟩) ws.length c2], [], false, by have := HM.out; omega, by go_num, by simp, rfl, rfl, by have := HM.out; simp; omega, by simp, hO4.out, World.ownsRow_nil _ _ _ _, apart_nil _ _, HS.out.1, B4⟩
          case measure => have := HM.out; simp [intOf]; omega
      have b10 : ((m : Int) == 10) = false := by simp; omega
      cases note
      case true =>
        have hR' : R = scan (bs.drop (i + 1)) (i + 1) LL ws [] true := by rw [hscan, scan_note hg (by omega)]
        have HS := Lib.hid (And.intro hR' (And.intro hO (And.intro hown (And.intro hap hB))))
        have HM := Lib.hid (And.intro hLL (And.intro hl hws))
        clear hR' hscan hO hB hl hLL hws hown hap hat h hle hcap hg hm e10 hi
        go_wp2
        go_roundw
        case rel => exact ⟨i + 1, ao1, ao2, c1, c2, LL, vs, ws, true, by have := HM.out; omega, by go_num, rfl, rfl, rfl, by have := HM.out; omega, by have := HM.out; omega, HS.out.2.1, HS.out.2.2.1, HS.out.2.2.2.1, HS.out.1, HS.out.2.2.2.2⟩
        case measure => have := HM.out; simp [intOf]; omega
      by_cases e35 : m = 35
      · have b35 : ((m : Int) == 35) = true := by simp; omega
        have hR' : R = scan (bs.drop (i + 1)) (i + 1) LL ws [] true := by rw [hscan, scan_hash hg (by omega), flushW_none]
        have HS := Lib.hid (And.intro hR' (And.intro hO (And.intro hown (And.intro hap hB))))
        have HM := Lib.hid (And.intro hLL (And.intro hl hws))
        clear hR' hscan hO hB hl hLL hws hown hap hat h hle hcap hg hm e10 e35 hi
        go_wp2
        go_roundw
        case rel => exact ⟨i + 1, ao1, ao2, c1, c2, LL, vs, ws, true, by have := HM.out; omega, by go_num, rfl, rfl, rfl, by have := HM.out; omega, by have := HM.out; omega, HS.out.2.1, HS.out.2.2.1, HS.out.2.2.2.1, HS.out.1, HS.out.2.2.2.2⟩
        case measure => have := HM.out; simp [intOf]; omega
      have b35 : ((m : Int) == 35) = false := by simp; omega
      by_cases e32 : m = 32
      · have b32 : ((m : Int) == 32) = true := by simp; omega
        have hR' : R = scan (bs.drop (i + 1)) (i + 1) LL ws [] false := by rw [hscan, scan_gap hg (by omega), flushW_none]
        have HS := Lib.hid (And.intro hR' (And.intro hO (And.intro hown (And.intro hap hB))))
        have HM := Lib.hid (And.intro hLL (And.intro hl hws))
        clear hR' hscan hO hB hl hLL hws hown hap hat h hle hcap hg hm e10 e35 e32 hi
        go_wp2
        go_roundw
        case rel => exact ⟨i + 1, ao1, ao2, c1, c2, LL, vs, ws, false, by have := HM.out; omega, by go_num, rfl, rfl, rfl, by have := HM.out; omega, by have := HM.out; omega, HS.out.2.1, HS.out.2.2.1, HS.out.2.2.2.1, HS.out.1, HS.out.2.2.2.2⟩
        case measure => have := HM.out; simp [intOf]; omega
      by_cases e9 : m = 9
      · have b32 : ((m : Int) == 32) = false := by simp; omega
        have b9 : ((m : Int) == 9) = true := by simp; omega
        have hR' : R = scan (bs.drop (i + 1)) (i + 1) LL ws [] false := by rw [hscan, scan_gap hg (by omega), flushW_none]
        have HS := Lib.hid (And.intro hR' (And.intro hO (And.intro hown (And.intro hap hB))))
        have HM := Lib.hid (And.intro hLL (And.intro hl hws))
        clear hR' hscan hO hB hl hLL hws hown hap hat h hle hcap hg hm e10 e35 e9 e32 hi
        go_wp2
        go_roundw
        case rel => exact ⟨i + 1, ao1, ao2, c1, c2, LL, vs, ws, false, by have := HM.out; omega, by go_num, rfl, rfl, rfl, by have := HM.out; omega, by have := HM.out; omega, HS.out.2.1, HS.out.2.2.1, HS.out.2.2.2.1, HS.out.1, HS.out.2.2.2.2⟩
        case measure => have := HM.out; simp [intOf]; omega
      have b32 : ((m : Int) == 32) = false := by simp; omega
      have b9 : ((m : Int) == 9) = false := by simp; omega
      have cp := fun w => r8part_any m w
      cases hpart : partN m
      · rw [hpart] at cp
        have HR : R = ([], i, 24) := by rw [hscan, scan_bad hg (by omega) (by rw [hm]; exact hpart) (by omega) (by omega)]
        have HB := Lib.hid hB
        subst HR
        clear hscan hO hB hl hLL hws hown hap hat h hle hcap hg hm e10 e35 e32 e9 hpart hi
        go_wp2_with fail
        refine (cp _).mono ?_
        rintro e w1 ⟨rfl, rfl⟩
        clear cp
        go_wp2
        go_ret3
        exact ⟨_, rfl, .inl ⟨rfl, rfl⟩, HB.out⟩
      · rw [hpart] at cp
        have HO := Lib.hid (And.intro hO (And.intro hown (And.intro hap (And.intro hscan hB))))
        have HM := Lib.hid (And.intro hLL (And.intro hl hws))
        have HG := Lib.hid (And.intro hg (show partN c.toNat = true by rw [hm]; exact hpart))
        have hconvs : ∀ k, i ≤ k → k ≤ bs.length → (convert 28 9 (.slice (some ⟨b, o + i, none⟩) (k - i) (cap - i))).run Tryd.prog wo = .ok (.string (strB (cut bs i k))) wo := fun k h1 h2 => by
          have := run_convert_bytes_arg (P := Tryd.prog) wo 28 5 Tryd.underlying28 Tryd.underlying5 b (o + i) (k - i) (cap - i) (nums (cut bs i k)) (by rw [nums_len, cut_len h1 h2])
            ((hat.drop i).take (k - i) |>.nums (cut_len h1 h2)) 9 Tryd.underlying9
          rw [strB_nums] at this
          exact this
        replace hat := Lib.hid hat
        replace hconvs := Lib.hid hconvs
        have hcp : i < cap := by omega
        have hcp' : ¬ cap = i := by omega
        replace h := Lib.hid h
        have Hl := Lib.hid hl
        clear hscan hO hB hl hLL hws hown hap hg hm e10 e35 e32 e9 hpart
        go_wp2_with fail
        refine (cp _).mono ?_
        rintro e w1 ⟨rfl, rfl⟩
        clear cp
        go_wp2
        clear b10 b35 b32 b9
        go_loopw [10] (fun kv wq => ∃ k : Nat, i ≤ k ∧ k ≤ bs.length ∧ kv = .int .i64 k ∧ (∀ j, i ≤ j → j < k → ∀ c, bs[j]? = some c → partN c.toNat = true) ∧ wo = wq) (fun kv _ => bs.length + 1 - (intOf kv).toNat)
        case atStart => exact ⟨i, Nat.le_refl _, hi, rfl, fun j h1 h2 => by omega, rfl⟩
        case round =>
          obtain ⟨k, hik, hk, rfl, hall, rfl⟩ := hrel
          obtain ⟨wo, rfl⟩ : ∃ wq : World, wq = wo := ⟨_, rfl⟩
          by_cases hlk : k < bs.length
          · obtain ⟨x, hx⟩ : ∃ x, bs[k]? = some x := ⟨_, List.getElem?_eq_getElem hlk⟩
            have hcx := hat.out k x hx
            have hlB : decide ((k : Int) < (bs.length : Int)) = true := decide_eq_true (by omega)
            have hlI : (k : Int) < (bs.length : Int) := by omega
            have hk0 : (0 : Int) ≤ (k : Int) := by omega
            obtain ⟨mx, hmx⟩ : ∃ m, x.toNat = m := ⟨_, rfl⟩
            rw [hmx] at hcx
            have cp := fun w => r8part_any mx w
            cases hpx : partN mx
            · rw [hpx] at cp
              have hconv := hconvs.out k hik hk
              have kp : (i : Int) ≤ (k : Int) := by omega
              have kc : (k : Int) ≤ (cap : Int) := by omega
              obtain ⟨hSz, hscan', hqk⟩ : (cut bs i k).length = k - i ∧ R = scan (bs.drop k) k LL (ws ++ [(i, cut bs i k)]) [] false ∧ i < k := by
                obtain ⟨hg, hpart⟩ := HG.out
                have k4 : bs.length ≤ k ∨ ∃ c, bs[k]? = some c ∧ partN c.toNat = false := .inr ⟨x, hx, by rw [hmx]; exact hpx⟩
                have hqk : i < k := by
                  rcases Nat.lt_or_ge i k with hh | hh
                  · exact hh
                  · have e : k = i := by omega
                    subst e
                    rcases k4 with k4 | ⟨x, kx, ky⟩
                    · have := Hl.out; omega
                    · rw [hg] at kx; cases kx; rw [hpart] at ky; cases ky
                exact ⟨cut_len hik hk, HO.out.2.2.2.1.trans (scan_whole hqk hk hall k4), hqk⟩
              obtain ⟨km, hkm⟩ : ∃ km, k = km + 1 := ⟨k - 1, by omega⟩
              have wkm : IntKind.i64.wrap ((k : Int) - 1) = (km : Int) := by rw [IntKind.wrap_i64]; omega
              have wkp : IntKind.i64.wrap ((km : Int) + 1) = (k : Int) := by rw [IntKind.wrap_i64]; omega
              obtain ⟨T, hT⟩ : ∃ T, cut bs i k = T := ⟨_, rfl⟩
              rw [hT] at hscan' hconv
              obtain ⟨S, hS⟩ : ∃ S, strB T = S := ⟨_, rfl⟩
              rw [hS] at hconv
              have own3 := row_keep HO.out.2.1 ((B.refl wo).alloc #[.int .i64 (i : Int), .string S] 43)
              have hO3 := HO.out.1.keep ((B.refl wo).alloc #[.int .i64 (i : Int), .string S] 43)
              have B3 := HO.out.2.2.2.2.alloc #[.int .i64 (i : Int), .string S] 43
              have hfl : flatW (ws ++ [(i, T)]) = flatW ws ++ [.int .i64 ((i : Nat) : Int), .string S] := by rw [flatW_snoc, hS]
              have h16 : ws.length ≤ 65536 := by have := HM.out; omega
              have hb3 := B3.below.size
              have HS := Lib.hid (And.intro hscan' (And.intro hqk (And.intro hk (And.intro hO3 (And.intro HO.out.2.2.1 B3)))))
              replace hfl := Lib.hid hfl
              replace hS := Lib.hid hS
              clear hkm hconvs hall hT hSz hscan' hqk hO3 B3 HG hat HO hik hk h hx hmx hpx hlk
              go_wp2_with fail
              refine (cp _).mono ?_
              rintro e w1 ⟨rfl, rfl⟩
              clear cp hcx
              go_wp2_with (at_builtin; refine wpList_append_lies _ rfl _ _ 41 rfl w.heap.size 43 i1 _ 2 24 Tryd.underlying41 hi1 hy0 hy1 hy2 rfl (by omega) (.slice ao2 ws.length c2) ws.length (flatW ws) rfl own3 ⟨wo.heap.size, 0, none⟩ 1 1 [.int .i64 (i : Int), .string S] rfl rfl (newest rfl) (fun u hu => by simp at hu; rcases hu with rfl | rfl <;> rfl) (by omega) (by unfold maxLen; omega) (by omega) hb3 _ rfl ?_; intro gb cp W4 hown4 hgrow hat4 hlt4; have hO4 := lines_keep HS.out.2.2.2.1 hgrow (fun x hx => (HS.out.2.2.2.2.1 x hx).1) (fun x hx => (HS.out.2.2.2.2.1 x hx).2); have hap4 := apart_more HS.out.2.2.2.1 HS.out.2.2.2.2.1 (n := ws.length + 1) (cap := cp) (Nat.le_refl _) hat4; have B4 := HS.out.2.2.2.2.2.grownBy hgrow (fun x hx => (own3.lt x hx).1); rw [← hfl.out] at hown4; clear hgrow hat4 hlt4 own3; go_wp2_with fail)
              go_roundw
              case rel => exact ⟨k, ao1, some ⟨gb, 0, none⟩, c1, cp, LL, vs, ws ++ [(i, T)], false, HS.out.2.2.1, by go_num, rfl, by simp, rfl, by have := HS.out.2.1; have := HM.out; omega, by have := HS.out.2.1; have := HM.out; simp; omega, hO4, by simpa using hown4, by simpa using hap4, HS.out.1, B4⟩
              case measure => have := HS.out.2.1; have := HM.out; simp [intOf]; omega
            · rw [hpx] at cp
              have wk1 : IntKind.i64.wrap ((k : Int) + 1) = (k : Int) + 1 := by rw [IntKind.wrap_i64]; omega
              have HA := Lib.hid (show i ≤ k + 1 ∧ k + 1 ≤ bs.length ∧ (∀ j, i ≤ j → j < k + 1 → ∀ c, bs[j]? = some c → partN c.toNat = true) ∧ k < bs.length from ⟨by omega, by omega, fun j h1 h2 y hy => by
                by_cases hj : j = k
                · subst hj; rw [hx] at hy; cases hy; rw [hmx]; exact hpx
                · exact hall j h1 (by omega) y hy, hlk⟩)
              clear hall hpx hmx hx hlk hik hk
              go_wp2_with fail
              refine (cp _).mono ?_
              rintro e w1 ⟨rfl, rfl⟩
              clear cp
              go_wp2
              go_roundw
              case rel => exact ⟨k + 1, HA.out.1, HA.out.2.1, by go_num, HA.out.2.2.1, trivial⟩
              case measure => have := HA.out; simp [intOf]; omega
          · have hlB : decide ((k : Int) < (bs.length : Int)) = false := decide_eq_false (by omega)
            have hconv := hconvs.out k hik hk
            have kp : (i : Int) ≤ (k : Int) := by omega
            have kc : (k : Int) ≤ (cap : Int) := by omega
            obtain ⟨hSz, hscan', hqk⟩ : (cut bs i k).length = k - i ∧ R = scan (bs.drop k) k LL (ws ++ [(i, cut bs i k)]) [] false ∧ i < k := by
              obtain ⟨hg, hpart⟩ := HG.out
              have k4 : bs.length ≤ k ∨ ∃ c, bs[k]? = some c ∧ partN c.toNat = false := .inl (by omega)
              have hqk : i < k := by
                rcases Nat.lt_or_ge i k with hh | hh
                · exact hh
                · have e : k = i := by omega
                  subst e
                  rcases k4 with k4 | ⟨x, kx, ky⟩
                  · have := Hl.out; omega
                  · rw [hg] at kx; cases kx; rw [hpart] at ky; cases ky
              exact ⟨cut_len hik hk, HO.out.2.2.2.1.trans (scan_whole hqk hk hall k4), hqk⟩
            obtain ⟨km, hkm⟩ : ∃ km, k = km + 1 := ⟨k - 1, by omega⟩
            have wkm : IntKind.i64.wrap ((k : Int) - 1) = (km : Int) := by rw [IntKind.wrap_i64]; omega
            have wkp : IntKind.i64.wrap ((km : Int) + 1) = (k : Int) := by rw [IntKind.wrap_i64]; omega
            obtain ⟨T, hT⟩ : ∃ T, cut bs i k = T := ⟨_, rfl⟩
            rw [hT] at hscan' hconv
            obtain ⟨S, hS⟩ : ∃ S, strB T = S := ⟨_, rfl⟩
            rw [hS] at hconv
            have own3 := row_keep HO.out.2.1 ((B.refl wo).alloc #[.int .i64 (i : Int), .string S] 43)
            have hO3 := HO.out.1.keep ((B.refl wo).alloc #[.int .i64 (i : Int), .string S] 43)
            have B3 := HO.out.2.2.2.2.alloc #[.int .i64 (i : Int), .string S] 43
            have hfl : flatW (ws ++ [(i, T)]) = flatW ws ++ [.int .i64 ((i : Nat) : Int), .string S] := by rw [flatW_snoc, hS]
            have h16 : ws.length ≤ 65536 := by have := HM.out; omega
            have hb3 := B3.below.size
            have HS := Lib.hid (And.intro hscan' (And.intro hqk (And.intro hk (And.intro hO3 (And.intro HO.out.2.2.1 B3)))))
            replace hfl := Lib.hid hfl
            replace hS := Lib.hid hS
            clear hkm hconvs hall hT hSz hscan' hqk hO3 B3 HG hat HO hik hk h 
            go_wp2_with (at_builtin; refine wpList_append_lies _ rfl _ _ 41 rfl w.heap.size 43 i1 _ 2 24 Tryd.underlying41 hi1 hy0 hy1 hy2 rfl (by omega) (.slice ao2 ws.length c2) ws.length (flatW ws) rfl own3 ⟨wo.heap.size, 0, none⟩ 1 1 [.int .i64 (i : Int), .string S] rfl rfl (newest rfl) (fun u hu => by simp at hu; rcases hu with rfl | rfl <;> rfl) (by omega) (by unfold maxLen; omega) (by omega) hb3 _ rfl ?_; intro gb cp W4 hown4 hgrow hat4 hlt4; have hO4 := lines_keep HS.out.2.2.2.1 hgrow (fun x hx => (HS.out.2.2.2.2.1 x hx).1) (fun x hx => (HS.out.2.2.2.2.1 x hx).2); have hap4 := apart_more HS.out.2.2.2.1 HS.out.2.2.2.2.1 (n := ws.length + 1) (cap := cp) (Nat.le_refl _) hat4; have B4 := HS.out.2.2.2.2.2.grownBy hgrow (fun x hx => (own3.lt x hx).1); rw [← hfl.out] at hown4; clear hgrow hat4 hlt4 own3; go_wp2_with fail)
            go_roundw
            case rel => exact ⟨k, ao1, some ⟨gb, 0, none⟩, c1, cp, LL, vs, ws ++ [(i, T)], false, HS.out.2.2.1, by go_num, rfl, by simp, rfl, by have := HS.out.2.1; have := HM.out; omega, by have := HS.out.2.1; have := HM.out; simp; omega, hO4, by simpa using hown4, by simpa using hap4, HS.out.1, B4⟩
            case measure => have := HS.out.2.1; have := HM.out; simp [intOf]; omega
    · have hlB : decide ((i : Int) < (bs.length : Int)) = false := decide_eq_false (by omega)
      have hR' : R = (flushL LL ws, 0, 0) := by rw [hscan, scan_end (by omega), flushW_none]
      by_cases hw : ws = []
      · subst hw
        rw [flushL_none] at hR'
        have HB := Lib.hid (And.intro hO.is hB)
        subst hR'
        clear hscan hO hB hLL hws hown hap h hle hcap
        go_wp2
        go_ret3
        exact ⟨_, rfl, HB.out.1, HB.out.2⟩
      · have hlen : 0 < ws.length := List.length_pos_iff.2 hw
        have hwB : decide ((0 : Int) < (ws.length : Int)) = true := decide_eq_true (by omega)
        rw [flushL_some hw] at hR'
        have hIW := words_own hown rfl
        obtain ⟨g, c3, hv, _, _, hg', _⟩ := hIW.full hlen
        obtain ⟨rfl, _, rfl⟩ : ao2 = some ⟨g, 0, none⟩ ∧ True ∧ c2 = c3 := by simpa using hv
        have hO2 := hO.keep ((B.refl wo).alloc #[.slice (some ⟨g, 0, none⟩) ws.length c2] 41)
        have own2 := hO2.own
        have hIW2 := hIW.keep ((B.refl wo).alloc #[.slice (some ⟨g, 0, none⟩) ws.length c2] 41)
        have B2 := hB.alloc #[.slice (some ⟨g, 0, none⟩) ws.length c2] 41
        have hne := (hap g rfl).1
        have hgb := (hown.lt g rfl).1
        have h16 : LL.length ≤ 65536 := by omega
        have hb2 := B2.below.size
        subst hR'
        have HM := Lib.hid hg'
        have HS := Lib.hid (And.intro hO2 (And.intro hIW2 (And.intro hne (And.intro hgb B2))))
        clear hscan hO hB hLL hws hown hap h hle hcap hO2 hIW hIW2 hne hgb B2 hv hw hg' hi
        go_wp2_with (at_builtin; refine wpList_append_lies _ rfl _ _ 25 rfl w.heap.size 41 i0 _ 1 24 Tryd.underlying25 hi0 hz0 hz1 hz2 rfl (by omega) (.slice ao1 LL.length c1) LL.length vs rfl own2 ⟨wo.heap.size, 0, none⟩ 1 1 [.slice (some ⟨g, 0, none⟩) ws.length c2] rfl rfl (newest rfl) (fun u hu => by simp at hu; rw [hu]; rfl) (by omega) (by unfold maxLen; omega) (by omega) hb2 _ rfl ?_; intro gb cp W4 hown4 hgrow hat4 hlt4; have hO4 := lines_more HS.out.1 hown4 hgrow hat4 HS.out.2.1 rfl HS.out.2.2.1 (by simp; have := HM.out; omega) HS.out.2.2.2.1; have B4 := HS.out.2.2.2.2.grownBy hgrow (fun x hx => (own2.lt x hx).1); clear hgrow hat4 hlt4 own2 hown4 hlen hwB; replace hO4 := Lib.hid hO4; go_wp2_with fail)
        go_ret3
        exact ⟨_, rfl, by have := hO4.out.is; simpa using this, B4⟩
end Go.Proofs.YthlileddhgglnaaDoor

namespace Go.Proofs.YthlileddhgglnaaDoor
open Go.RowKit
set_option linter.unusedVariables false
theorem lnInfoV : (Tryd.prog.info? 101).map (fun i => (i.zero, i.size, i.bytes)) = some (some (.slice none 0 0), 1, 24) := by kernel_rfl
theorem wdInfoV : (Tryd.prog.info? 105).map (fun i => (i.zero, i.size, i.bytes)) = some (some (.agg #[.int .i64 0, .string .empty]), 2, 24) := by kernel_rfl
set_option maxHeartbeats 4000000 in
set_option maxRecDepth 100000 in
theorem words12_any (v : Value) (LL : List (List Wd)) (w : World) (h : IsLnO w v LL) (hne : ∀ L ∈ LL, 0 < L.length) (hL : LL.length ≤ 65536) (hws : ∀ L ∈ LL, L.length ≤ 65536) :
    Calls Tryd.prog 17 #[v] w fun e w' => ∃ u vs, e = .returned u ∧ LinesO w' w.heap.size 101 u LL vs ∧ B w w' := by
  obtain ⟨ao, ac, rfl⟩ := h.form
  obtain ⟨i0, hi0, hz0, hz1, hz2⟩ := info_of lnInfoV
  obtain ⟨i1, hi1, hy0, hy1, hy2⟩ := info_of wdInfoV
  go_enter Tryd.func17, Tryd.ntmps17
  go_wp2
  go_loopw [3, 4] (fun ov iv wr => ∃ (i : Nat) (ao1 : Option Addr) (c1 : Nat) (vs : List Value), i ≤ LL.length ∧ iv = .int .i64 i ∧ ov = .slice ao1 i c1 ∧ LinesO wr w.heap.size 101 (.slice ao1 i c1) (LL.take i) vs ∧ B w wr) (fun _ iv _ => LL.length + 1 - (intOf iv).toNat)
  case atStart => exact ⟨0, none, 0, [], Nat.zero_le _, rfl, rfl, LinesO.nil _ _ _, B.refl _⟩
  case round =>
    obtain ⟨i, ao1, c1, vs, hi, rfl, rfl, hO, hB⟩ := hrel
    obtain ⟨wo, rfl⟩ : ∃ wo : World, wo = wr := ⟨_, rfl⟩
    by_cases hl : i < LL.length
    · have hlB : decide ((i : Int) < (LL.length : Int)) = true := decide_eq_true (by omega)
      have hlI : (i : Int) < (LL.length : Int) := by omega
      have hi0' : (0 : Int) ≤ (i : Int) := by omega
      have wk1 : IntKind.i64.wrap ((i : Int) + 1) = (i : Int) + 1 := by rw [IntKind.wrap_i64]; omega
      obtain ⟨L, hF⟩ : ∃ L, LL[i]? = some L := ⟨_, List.getElem?_eq_getElem hl⟩
      have hFe : LL[i] = L := by rw [List.getElem?_eq_getElem hl] at hF; simpa using hF
      obtain ⟨g, o, cap, u, e1, hu, hW⟩ := h.at_ hl
      rw [hFe] at hW
      obtain ⟨rfl, _, rfl⟩ : ao = some ⟨g, o, none⟩ ∧ True ∧ ac = cap := by simpa using e1
      have hLne := hne L (List.mem_of_getElem? hF)
      have hL16 := hws L (List.mem_of_getElem? hF)
      obtain ⟨gl, cl, rfl, _, _, hgl, hwd⟩ := hW.full hLne
      have hu0 := hB.keep hu
      have ht1 : LL.take (i + 1) = LL.take i ++ [L] := by rw [List.take_add_one, hF]; rfl
      have htl : (LL.take i).length = i := by rw [List.length_take]; omega
      have HO := Lib.hid (And.intro ht1 (And.intro htl hl))
      clear ht1 e1 hF hFe hl
      go_wp2
      go_loopw [5, 6] (fun lv kv wr => ∃ (k : Nat) (ao2 : Option Addr) (c2 : Nat), k ≤ L.length ∧ kv = .int .i64 k ∧ lv = .slice ao2 k c2 ∧ LinesO wr w.heap.size 101 (.slice ao1 i c1) (LL.take i) vs ∧ wr.ownsRow w.heap.size 105 2 (.slice ao2 k c2) k (flatW (L.take k)) ∧ B w wr ∧ Apart (.slice ao2 k c2) (.slice ao1 i c1) vs) (fun _ kv _ => L.length + 1 - (intOf kv).toNat)
      case atStart => exact ⟨0, none, 0, Nat.zero_le _, rfl, rfl, hO, World.ownsRow_nil _ _ _ _, hB, apart_nil _ _⟩
      case round =>
        obtain ⟨k, ao2, c2, hk, rfl, rfl, hO2, hown, hB2, hap⟩ := hrel
        obtain ⟨wv, rfl⟩ : ∃ wv : World, wv = wr := ⟨_, rfl⟩
        have hu2 := hB2.keep hu
        by_cases hlk : k < L.length
        · have hkB : decide ((k : Int) < (L.length : Int)) = true := decide_eq_true (by omega)
          have hkI : (k : Int) < (L.length : Int) := by omega
          have hk0 : (0 : Int) ≤ (k : Int) := by omega
          have wk2 : IntKind.i64.wrap ((k : Int) + 1) = (k : Int) + 1 := by rw [IntKind.wrap_i64]; omega
          obtain ⟨x, hx⟩ : ∃ x, L[k]? = some x := ⟨_, List.getElem?_eq_getElem hlk⟩
          obtain ⟨n1, n2⟩ := hwd k x hx
          have hfl : flatW (L.take (k + 1)) = flatW (L.take k) ++ [.int .i64 ((x.1 : Nat) : Int), .string (strB x.2)] := by rw [List.take_add_one, hx]; exact flatW_snoc _ x
          have htk0 : k ≤ 65536 := by omega
          obtain ⟨A, hA⟩ : ∃ A, x.1 = A := ⟨_, rfl⟩
          obtain ⟨S, hS⟩ : ∃ S, strB x.2 = S := ⟨_, rfl⟩
          rw [hA, hS] at hfl
          rw [hA] at n1
          rw [hS] at n2
          have kB : ∀ w', B wv w' → w'.cell? ⟨g, o + i, none⟩ = some (.slice (some ⟨gl, 0, none⟩) L.length cl) ∧ w'.cell? ⟨gl, k * 2, none⟩ = some (.int .i64 (A : Int)) ∧ w'.cell? ⟨gl, k * 2 + 1, none⟩ = some (.string S) :=
            fun w' q => ⟨q.keep hu2, (hB2.trans q).keep n1, (hB2.trans q).keep n2⟩
          have HI := Lib.hid (And.intro hO2 (And.intro hown (And.intro hB2 hap)))
          have HM := Lib.hid (And.intro htk0 (And.intro hfl (And.intro hlk hL16)))
          clear hO2 hown hB2 hap htk0 hfl hlk hx hA hS n1 n2 hu hu0 hO hB hwd hW hgl h hne hws hi hk
          go_wp2_with fail
          refine wp_region_noPanic ?_
          refine wp_region_slots [(0, 22), (1, 23), (2, 24), (3, 25), (4, 26), (5, 27), (6, 28), (7, 29), (8, 30), (9, 31), (10, 32), (11, 33), (12, 34), (13, 35), (14, 36), (15, 37), (16, 38), (17, 39), (18, 40)] [(19, 2), (20, 0)] [0, 0, 0, 6, 8, 0, 48, 64, 128, 0, 0, 1536, 2048, 0, 12288, 16384, 32768, 65792, 131072, 262145, 1048575] [0, 0, 0, 6, 8, 0, 48, 64, 128, 0, 0, 1536, 2048, 0, 12288, 16384, 32768, 65792, 131072, 262145, 524289] [0, 0, 0, 6, 14, 0, 62, 126, 254, 0, 0, 1536, 3584, 0, 15872, 32256, 65024, 131070, 262142, 524287, 1048575] 524287 [(fun v _ => v = .slice ao2 k c2), (fun v _ => v = .slice (some ⟨g, o, none⟩) LL.length ac), (fun v _ => v = .int .i64 (i : Int)), (fun v _ => v = .pointer (some ⟨g, o + i, none⟩)), (fun v _ => v = .slice (some ⟨gl, 0, none⟩) L.length cl), (fun v _ => v = .int .i64 (k : Int)), (fun v _ => v = .pointer (some ⟨gl, k * 2, none⟩)), (fun v _ => v = .pointer (some ⟨gl, k * 2, none⟩)), (fun v _ => v = .int .i64 (A : Int)), (fun v _ => v = .slice (some ⟨g, o, none⟩) LL.length ac), (fun v _ => v = .int .i64 (i : Int)), (fun v _ => v = .pointer (some ⟨g, o + i, none⟩)), (fun v _ => v = .slice (some ⟨gl, 0, none⟩) L.length cl), (fun v _ => v = .int .i64 (k : Int)), (fun v _ => v = .pointer (some ⟨gl, k * 2, none⟩)), (fun v _ => v = .pointer (some ⟨gl, k * 2 + 1, none⟩)), (fun v _ => v = .string S), (fun v _ => v = .agg #[.int .i64 (A : Int), .string S]), (Lits 1 [.int .i64 (A : Int), .string S])] (by kernel_rfl) (by kernel_rfl) (fun _ _ _ _ h => h) ⟨slot_val _, slot_val _, slot_val _, slot_val _, slot_val _, slot_val _, slot_val _, slot_val _, slot_val _, slot_val _, slot_val _, slot_val _, slot_val _, slot_val _, slot_val _, slot_val _, slot_val _, slot_val _, slot_lits _ _, trivial⟩ ⟨?_, ?_, ?_, ?_, ?_, ?_, ?_, ?_, ?_, ?_, ?_, ?_, ?_, ?_, ?_, ?_, ?_, ?_, ?_, trivial⟩ ?_
          · intro f w' hf hB
            clear hf
            refine slot_op rfl (fun _ => rfl) (fun T hT K hK => ?_)
            simp only [putsL, List.set_cons_zero, List.set_cons_succ] at hT
            subst hT
            go_simp
            exact hK.out _ _ rfl (B.refl _)
          · intro f w' hf hB
            clear hf
            refine slot_op rfl (fun _ => rfl) (fun T hT K hK => ?_)
            simp only [putsL, List.set_cons_zero, List.set_cons_succ] at hT
            subst hT
            go_simp
            exact hK.out _ _ rfl (B.refl _)
          · intro f w' hf hB
            clear hf
            refine slot_op rfl (fun _ => rfl) (fun T hT K hK => ?_)
            simp only [putsL, List.set_cons_zero, List.set_cons_succ] at hT
            subst hT
            go_simp
            exact hK.out _ _ rfl (B.refl _)
          · intro f w' hf hB
            have h1 := hf (1, 23) (by simp) (by rfl)
            have h2 := hf (2, 24) (by simp) (by rfl)
            clear hf
            have e1 : f 1 = .slice (some ⟨g, o, none⟩) LL.length ac := h1
            have e2 : f 2 = .int .i64 (i : Int) := h2
            refine slot_op rfl (fun _ => rfl) (fun T hT K hK => ?_)
            simp only [putsL, List.set_cons_zero, List.set_cons_succ, e1, e2] at hT
            subst hT
            go_simp
            exact hK.out _ _ rfl (B.refl _)
          · intro f w' hf hB
            have h3 := hf (3, 25) (by simp) (by rfl)
            clear hf
            have e3 : f 3 = .pointer (some ⟨g, o + i, none⟩) := h3
            obtain ⟨k0, k1, k2⟩ := kB _ hB
            refine slot_op rfl (fun _ => rfl) (fun T hT K hK => ?_)
            simp only [putsL, List.set_cons_zero, List.set_cons_succ, e3] at hT
            subst hT
            go_simp
            exact hK.out _ _ rfl (B.refl _)
          · intro f w' hf hB
            clear hf
            refine slot_op rfl (fun _ => rfl) (fun T hT K hK => ?_)
            simp only [putsL, List.set_cons_zero, List.set_cons_succ] at hT
            subst hT
            go_simp
            exact hK.out _ _ rfl (B.refl _)
          · intro f w' hf hB
            have h4 := hf (4, 26) (by simp) (by rfl)
            have h5 := hf (5, 27) (by simp) (by rfl)
            clear hf
            have e4 : f 4 = .slice (some ⟨gl, 0, none⟩) L.length cl := h4
            have e5 : f 5 = .int .i64 (k : Int) := h5
            refine slot_op rfl (fun _ => rfl) (fun T hT K hK => ?_)
            simp only [putsL, List.set_cons_zero, List.set_cons_succ, e4, e5] at hT
            subst hT
            go_simp
            exact hK.out _ _ rfl (B.refl _)
          · intro f w' hf hB
            have h6 := hf (6, 28) (by simp) (by rfl)
            clear hf
            have e6 : f 6 = .pointer (some ⟨gl, k * 2, none⟩) := h6
            refine slot_op rfl (fun _ => rfl) (fun T hT K hK => ?_)
            simp only [putsL, List.set_cons_zero, List.set_cons_succ, e6] at hT
            subst hT
            go_simp
            exact hK.out _ _ rfl (B.refl _)
          · intro f w' hf hB
            have h7 := hf (7, 29) (by simp) (by rfl)
            clear hf
            have e7 : f 7 = .pointer (some ⟨gl, k * 2, none⟩) := h7
            obtain ⟨k0, k1, k2⟩ := kB _ hB
            refine slot_op rfl (fun _ => rfl) (fun T hT K hK => ?_)
            simp only [putsL, List.set_cons_zero, List.set_cons_succ, e7] at hT
            subst hT
            go_simp
            exact hK.out _ _ rfl (B.refl _)
          · intro f w' hf hB
            clear hf
            refine slot_op rfl (fun _ => rfl) (fun T hT K hK => ?_)
            simp only [putsL, List.set_cons_zero, List.set_cons_succ] at hT
            subst hT
            go_simp
            exact hK.out _ _ rfl (B.refl _)
          · intro f w' hf hB
            clear hf
            refine slot_op rfl (fun _ => rfl) (fun T hT K hK => ?_)
            simp only [putsL, List.set_cons_zero, List.set_cons_succ] at hT
            subst hT
            go_simp
            exact hK.out _ _ rfl (B.refl _)
          · intro f w' hf hB
            have h9 := hf (9, 31) (by simp) (by rfl)
            have h10 := hf (10, 32) (by simp) (by rfl)
            clear hf
            have e9 : f 9 = .slice (some ⟨g, o, none⟩) LL.length ac := h9
            have e10 : f 10 = .int .i64 (i : Int) := h10
            refine slot_op rfl (fun _ => rfl) (fun T hT K hK => ?_)
            simp only [putsL, List.set_cons_zero, List.set_cons_succ, e9, e10] at hT
            subst hT
            go_simp
            exact hK.out _ _ rfl (B.refl _)
          · intro f w' hf hB
            have h11 := hf (11, 33) (by simp) (by rfl)
            clear hf
            have e11 : f 11 = .pointer (some ⟨g, o + i, none⟩) := h11
            obtain ⟨k0, k1, k2⟩ := kB _ hB
            refine slot_op rfl (fun _ => rfl) (fun T hT K hK => ?_)
            simp only [putsL, List.set_cons_zero, List.set_cons_succ, e11] at hT
            subst hT
            go_simp
            exact hK.out _ _ rfl (B.refl _)
          · intro f w' hf hB
            clear hf
            refine slot_op rfl (fun _ => rfl) (fun T hT K hK => ?_)
            simp only [putsL, List.set_cons_zero, List.set_cons_succ] at hT
            subst hT
            go_simp
            exact hK.out _ _ rfl (B.refl _)
          · intro f w' hf hB
            have h12 := hf (12, 34) (by simp) (by rfl)
            have h13 := hf (13, 35) (by simp) (by rfl)
            clear hf
            have e12 : f 12 = .slice (some ⟨gl, 0, none⟩) L.length cl := h12
            have e13 : f 13 = .int .i64 (k : Int) := h13
            refine slot_op rfl (fun _ => rfl) (fun T hT K hK => ?_)
            simp only [putsL, List.set_cons_zero, List.set_cons_succ, e12, e13] at hT
            subst hT
            go_simp
            exact hK.out _ _ rfl (B.refl _)
          · intro f w' hf hB
            have h14 := hf (14, 36) (by simp) (by rfl)
            clear hf
            have e14 : f 14 = .pointer (some ⟨gl, k * 2, none⟩) := h14
            refine slot_op rfl (fun _ => rfl) (fun T hT K hK => ?_)
            simp only [putsL, List.set_cons_zero, List.set_cons_succ, e14] at hT
            subst hT
            go_simp
            exact hK.out _ _ rfl (B.refl _)
          · intro f w' hf hB
            have h15 := hf (15, 37) (by simp) (by rfl)
            clear hf
            have e15 : f 15 = .pointer (some ⟨gl, k * 2 + 1, none⟩) := h15
            obtain ⟨k0, k1, k2⟩ := kB _ hB
            refine slot_op rfl (fun _ => rfl) (fun T hT K hK => ?_)
            simp only [putsL, List.set_cons_zero, List.set_cons_succ, e15] at hT
            subst hT
            go_simp
            exact hK.out _ _ rfl (B.refl _)
          · intro f w' hf hB
            have h8 := hf (8, 30) (by simp) (by rfl)
            have h16 := hf (16, 38) (by simp) (by rfl)
            clear hf
            have e8 : f 8 = .int .i64 (A : Int) := h8
            have e16 : f 16 = .string S := h16
            refine slot_op rfl (fun _ => rfl) (fun T hT K hK => ?_)
            simp only [putsL, List.set_cons_zero, List.set_cons_succ, e8, e16] at hT
            subst hT
            go_simp
            exact hK.out _ _ rfl (B.refl _)
          · intro f w' hf hB
            have h17 := hf (17, 39) (by simp) (by rfl)
            clear hf
            have e17 : f 17 = .agg #[.int .i64 (A : Int), .string S] := h17
            refine slot_op rfl (fun _ => rfl) (fun T hT K hK => ?_)
            simp only [putsL, List.set_cons_zero, List.set_cons_succ, e17] at hT
            subst hT
            go_simp
            refine hK.out _ _ ⟨_, rfl, fun j u hj => ?_⟩ ((B.refl _).alloc _ _)
            rw [World.cell?_alloc_new]
            simpa using hj
          · intro f w' hf hB T hT
            have h0 : f 0 = _ := hf (0, 22) (by simp)
            have h18 := hf (18, 40) (by simp)
            obtain ⟨B2, e18, hcs⟩ := h18
            clear hf
            simp only [putsL, List.set_cons_zero, List.set_cons_succ, h0, e18] at hT
            subst hT
            have ownB := row_keep HI.out.2.1 hB
            have hOB := HI.out.1.keep hB
            have BB := HI.out.2.2.1.trans hB
            have hb3 : w.heap.size ≤ w'.heap.size := BB.below.size
            have hk16 := HM.out.1
            refine wpSeq_call rfl (by kernel_rfl) (fun K hK => ?_)
            refine wp_append_lies _ (.tmp 22) (.tmp 40) 101 rfl w.heap.size 105 i1 _ 2 24 Tryd.underlying101 hi1 hy0 hy1 hy2 rfl (by omega) (.slice ao2 k c2) k (flatW (L.take k)) rfl ownB ⟨B2, 0, none⟩ 1 1 [.int .i64 (A : Int), .string S] rfl rfl (fun j u hj => by rw [addz]; exact hcs j u hj) (by intro u hu; simp only [List.mem_cons, List.not_mem_nil, or_false] at hu; rcases hu with rfl | rfl <;> rfl) (by omega) (by unfold maxLen; omega) (by omega) hb3 _ rfl (fun gb cp w5 hown hgrow hat hlt5 => ?_)
            refine hK.out _ _ trivial (fun _ => ?_)
            clear hK
            refine wpSeq_take (d := 5) (v := ?_) rfl rfl (by kernel_rfl) (fun w hS => ?_) ?_
            rotate_left
            · go_simp <;> with_reducible rfl
            dsimp only [List.set_cons_zero, List.set_cons_succ]
            have hap := HI.out.2.2.2
            have hO5 := lines_keep hOB hgrow (fun x hx => (hap x hx).1) (fun x hx => (hap x hx).2)
            have hap5 := apart_more hOB hap (n := k + 1) (cap := cp) (Nat.le_refl _) hat
            have B5 := BB.grownBy hgrow (fun x hx => (ownB.lt x hx).1)
            rw [← HM.out.2.1] at hown
            refine wpSeq_done ?_
            refine NoPanic.normal ?_
            have HZ := Lib.hid (And.intro hO5 (And.intro hown (And.intro B5 hap5)))
            have HM2 := Lib.hid HM.out.2.2
            clear HI HM hO5 hown B5 hap5 hap ownB hOB BB hb3 hk16 hgrow hat hlt5 hB hcs e18 h0 kB
            go_wp2
            go_roundw
            case rel =>
              obtain ⟨u2, u3⟩ := HM2.out
              refine ⟨k + 1, some ⟨gb, 0, none⟩, cp, by omega, by go_num, rfl, ?_, ?_, HZ.out.2.2.1, ?_⟩
              · exact HZ.out.1
              · exact HZ.out.2.1
              · exact HZ.out.2.2.2
            case measure => have := HM2.out.1; simp [intOf]; omega
        · have hkB : decide ((k : Int) < (L.length : Int)) = false := decide_eq_false (by omega)
          obtain rfl : k = L.length := by omega
          rw [List.take_length] at hown
          have hIW := words_own hown rfl
          obtain ⟨gx, c3, hv, _, _, hgx, _⟩ := hIW.full hLne
          obtain ⟨rfl, _, rfl⟩ : ao2 = some ⟨gx, 0, none⟩ ∧ True ∧ c2 = c3 := by simpa using hv
          have hO3 := hO2.keep ((B.refl wv).alloc #[.slice (some ⟨gx, 0, none⟩) L.length c2] 101)
          have own2 := hO3.own
          have hIW2 := hIW.keep ((B.refl wv).alloc #[.slice (some ⟨gx, 0, none⟩) L.length c2] 101)
          have B2 := hB2.alloc #[.slice (some ⟨gx, 0, none⟩) L.length c2] 101
          have hne := (hap gx rfl).1
          have hgb := (hown.lt gx rfl).1
          have hb2 := B2.below.size
          rw [HO.out.2.1] at own2
          have hi16 : i ≤ 65536 := by omega
          have HS := Lib.hid (And.intro hO3 (And.intro hIW2 (And.intro hne (And.intro hgb (And.intro B2 hgx)))))
          clear hO2 hown hB2 hap hIW hIW2 hO3 B2 hne hgb hv hgx hu hu0 hO hB hwd hW hgl h hws hk hi
          go_wp2_with (at_builtin; refine wpList_append_lies _ rfl _ _ 56 rfl w.heap.size 101 i0 _ 1 24 Tryd.underlying56 hi0 hz0 hz1 hz2 rfl (by omega) (.slice ao1 i c1) i vs rfl own2 ⟨wv.heap.size, 0, none⟩ 1 1 [.slice (some ⟨gx, 0, none⟩) L.length c2] rfl rfl (newest rfl) (by intro u hu; rw [List.mem_singleton.1 hu]; rfl) (by omega) (by unfold maxLen; omega) (by omega) hb2 _ rfl ?_; intro gb cp W4 hown4 hgrow hat4 hlt4; rw [← HO.out.2.1] at hown4; have hO4 := lines_more HS.out.1 hown4 hgrow hat4 HS.out.2.1 rfl HS.out.2.2.1 (by have := HS.out.2.2.2.2.2; simp; omega) HS.out.2.2.2.1; have B4 := HS.out.2.2.2.2.1.grownBy hgrow (fun x hx => (own2.lt x hx).1); clear hgrow hat4 hlt4 own2 hown4; replace hO4 := Lib.hid hO4; go_wp2_with fail)
          go_roundw
          case rel =>
            obtain ⟨u1, u2, u3⟩ := HO.out
            refine ⟨i + 1, some ⟨gb, 0, none⟩, cp, vs ++ [.slice (some ⟨gx, 0, none⟩) L.length c2], by omega, by go_num, rfl, ?_, B4⟩
            have e := hO4.out
            rw [← u1] at e
            rw [show (LL.take (i + 1)).length = i + 1 by rw [u1, List.length_append, u2]; rfl] at e
            exact e
          case measure => have := HO.out.2.2; simp [intOf]; omega
    · have hlB : decide ((i : Int) < (LL.length : Int)) = false := decide_eq_false (by omega)
      obtain rfl : i = LL.length := by omega
      rw [List.take_length] at hO
      have HO := Lib.hid (And.intro hO hB)
      clear hO hB h hne hws
      go_wp2
      go_ret
      exact ⟨_, vs, rfl, HO.out.1, HO.out.2⟩
end Go.Proofs.YthlileddhgglnaaDoor
