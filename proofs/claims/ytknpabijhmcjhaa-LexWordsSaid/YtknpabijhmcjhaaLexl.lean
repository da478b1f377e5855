/-
  Contract of the code's line: the words from a place on up to the line's end.
-/
import Derived.Test.YtknpabijhmcjhaaLexc
import Derived.Deep.AppendLies
namespace Go.Proofs.Ytknpabijhmcjhaa
open Go.RowKit

theorem wordInfo : (Try.prog.info? 44).map (fun i => (i.zero, i.size, i.bytes)) = some (some (.agg #[.int .i64 0, .string .empty]), 2, 24) := by kernel_rfl
/-- What a line tells. -/
def LineRes (bs : List UInt8) (p : Nat) (w : World) (e : Ending) (w' : World) : Prop :=
  (∃ (q : Nat) (v : Value) (ws : List Wd), e = .returned (.tuple #[v, .int .i64 (q : Int), .bool true]) ∧ p ≤ q ∧ q ≤ bs.length ∧ (∀ out, scan (bs.drop p) p out [] [] false = scan (bs.drop q) q out ws [] false) ∧ (bs.length ≤ q ∨ ∃ c, bs[q]? = some c ∧ c.toNat = 10) ∧
    IsWords w' v ws ∧ (∀ b, v.ownBlock = some b → w.heap.size ≤ b ∧ b < w'.heap.size) ∧ B w w') ∨
  (∃ q : Nat, e = .returned (.tuple #[.slice none 0 0, .int .i64 (q : Int), .bool false]) ∧ (∀ out, scan (bs.drop p) p out [] [] false = ([], q, 24)) ∧ B w w')
set_option maxHeartbeats 2000000 in
theorem line_any (ao : Option Addr) (b o cap p : Nat) (bs : List UInt8) (w : World) (h : IsB w ao cap b o bs) (hn : bs.length ≤ 65536) (hp : p ≤ bs.length) :
    Calls Try.prog 18 #[.slice ao bs.length cap, .int .i64 (p : Int)] w (LineRes bs p w) := by
  obtain ⟨i0, hi0, hz0, hz1, hz2⟩ := info_of wordInfo
  have hle := h.le
  have hcap := h.max
  unfold maxLen at hcap
  go_enter Try.func18, Try.ntmps18
  go_wp2
  go_loopw [1, 7] (fun iv vv wr => ∃ (q : Nat) (ao' : Option Addr) (c : Nat) (ws : List Wd), p ≤ q ∧ q ≤ bs.length ∧ iv = .int .i64 q ∧ vv = .slice ao' ws.length c ∧ ws.length ≤ q ∧ wr.ownsRow w.heap.size 44 2 (.slice ao' ws.length c) ws.length (flatW ws) ∧
      (∀ out, scan (bs.drop p) p out [] [] false = scan (bs.drop q) q out ws [] false) ∧ B w wr) (fun iv _ _ => bs.length + 1 - (intOf iv).toNat)
  case atStart => exact ⟨p, none, 0, [], Nat.le_refl _, hp, rfl, rfl, by simp, World.ownsRow_nil _ _ _ _, fun _ => rfl, B.refl _⟩
  case round =>
    obtain ⟨q, ao', cc, ws, hpq, hq, rfl, rfl, hws, hown, hscan, hB⟩ := hrel
    by_cases hl : q < bs.length
    · obtain rfl := h.ao (by omega)
      obtain ⟨c, hg⟩ : ∃ c, bs[q]? = some c := ⟨_, List.getElem?_eq_getElem hl⟩
      have hat := h.at_.keep hB
      have hc := hat q c hg
      have hlB : decide ((q : Int) < (bs.length : Int)) = true := decide_eq_true (by omega)
      have hlI : (q : Int) < (bs.length : Int) := by omega
      have hq0 : (0 : Int) ≤ (q : Int) := by omega
      have c1 := fun w => kind_any c.toNat w
      have ks := kind_le c.toNat
      obtain ⟨K, hK⟩ : ∃ K, kindN c.toNat = K := ⟨_, rfl⟩
      rw [hK] at c1 ks
      have kc : (1 ≤ K ∧ K ≤ 4) ∨ K = 0 ∨ K = 5 ∨ K = 6 ∨ K = 7 := by omega
      rcases kc with kc | rfl | rfl | rfl | rfl
      · have hpart : partN c.toNat = true := (kind_part _).2 (by omega)
        have cw := fun w h => word_any b o cap q bs w h hl hle (by unfold maxLen; exact hcap)
        have k4 : K = 1 ∨ K = 2 ∨ K = 3 ∨ K = 4 := by omega
        have HP := Lib.hid (And.intro hg hpart)
        obtain ⟨m, hm⟩ : ∃ m, c.toNat = m := ⟨_, rfl⟩
        rw [hm] at hc c1
        clear hg hpart hK ks kc hm
        rcases k4 with rfl | rfl | rfl | rfl
        · go_wp2_with fail
          refine (c1 _).mono ?_
          rintro e w1 ⟨rfl, rfl⟩
          clear c1
          go_wp2_with fail
          refine (cw _ hat).mono ?_
          rintro e w1 ⟨⟨k, rfl, k1, k2, k3, k4⟩, q1⟩
          obtain ⟨hSz, hscan', hqk⟩ : (cut bs q k).length = k - q ∧ (∀ out, scan (bs.drop p) p out [] [] false = scan (bs.drop k) k out (ws ++ [(q, cut bs q k)]) [] false) ∧ q < k := by
            obtain ⟨hg, hpart⟩ := HP.out
            have hqk : q < k := by
              rcases Nat.lt_or_ge q k with hh | hh
              · exact hh
              · have e : k = q := by omega
                subst e
                rcases k4 with k4 | ⟨x, kx, ky⟩
                · omega
                · rw [hg] at kx; cases kx; rw [hpart] at ky; cases ky
            exact ⟨cut_len k1 k2, fun out => (hscan out).trans (scan_whole hqk k2 k3 k4), hqk⟩
          obtain ⟨d, hd⟩ : ∃ d, k = q + d := ⟨k - q, by omega⟩
          obtain ⟨T, hT⟩ : ∃ T, cut bs q k = T := ⟨_, rfl⟩
          rw [hT] at hSz hscan'
          obtain ⟨S, hS⟩ : ∃ S, strB T = S := ⟨_, rfl⟩
          have hss : S.size = d := by rw [← hS, strB_size, hSz]; omega
          rw [hT, hS]
          have wk : IntKind.i64.wrap ((q : Int) + (d : Int)) = (k : Int) := by rw [IntKind.wrap_i64]; omega
          have own3 := row_keep hown ((q1.b.alloc #[.int .i64 (q : Int), .string S] 44).alloc #[.int .i64 (q : Int), .string S] 44)
          have hlw : ∀ x, (Value.slice ao' ws.length cc).ownBlock = some x → x < w1.heap.size := fun x hx => Nat.lt_of_lt_of_le (hown.lt x hx).2 q1.below.size
          have hbox3 : ((w1.alloc (.cells #[.int .i64 (q : Int), .string S] 44)).alloc (.cells #[.int .i64 (q : Int), .string S] 44)).cell? ⟨w1.heap.size, 1, none⟩ = some (.string S) := ((B.refl (w1.alloc (.cells #[.int .i64 (q : Int), .string S] 44))).alloc _ _).keep (by rw [World.cell?_alloc_new]; rfl)
          have B3 := ((hB.trans q1.b).alloc #[.int .i64 (q : Int), .string S] 44).alloc #[.int .i64 (q : Int), .string S] 44
          have hfl : flatW (ws ++ [(q, T)]) = flatW ws ++ [.int .i64 ((q : Nat) : Int), .string S] := by rw [flatW_snoc, hS]
          have hbw := hB.below.size
          have hq1s := q1.below.size
          have h16 : ws.length ≤ 65536 := by omega
          have HS := Lib.hid (And.intro hscan' (And.intro hqk (And.intro k2 (And.intro hpq (And.intro hws hd)))))
          replace hS := Lib.hid hS
          replace hfl := Lib.hid hfl
          clear hscan hscan' k3 k4 hT hSz cw hat hc hlB hlI HP hl hq hpq hp k1 k2 hqk h hle hcap
          go_wp2_with (at_builtin; refine wpList_append_lies _ rfl _ _ 42 rfl w.heap.size 44 i0 _ 2 24 Try.underlying42 hi0 hz0 hz1 hz2 rfl (by omega) (.slice ao' ws.length cc) ws.length (flatW ws) rfl own3 ⟨w1.heap.size + 1, 0, none⟩ 1 1 [.int .i64 (q : Int), .string S] rfl rfl (newest (by simp)) (fun u hu => by simp at hu; rcases hu with rfl | rfl <;> rfl) (by omega) (by unfold maxLen; omega) (by omega) B3.below.size _ rfl ?_; intro gb cp W4 hown4 hgrow hat4 hlt4; have hbox : W4.cell? ⟨w1.heap.size, 1, none⟩ = some (.string S) := (World.cell?_of_block (a := ⟨w1.heap.size, 1, none⟩) (hgrow.block w1.heap.size (by simp; omega) (fun e => by have := hlw _ e.symm; omega))).trans hbox3; have B4 := B3.grownBy hgrow (fun x hx => (hown.lt x hx).1); rw [← hfl.out] at hown4; clear hgrow hat4 hlt4 hbox3 B3 own3 hown hB q1 hlw; go_wp2_with fail)
          go_roundw
          case rel => exact ⟨k, some ⟨gb, 0, none⟩, cp, ws ++ [(q, T)], by have := HS.out; omega, by have := HS.out; omega, by go_num, by simp, by have := HS.out; simp; omega, by simpa using hown4, HS.out.1, B4⟩
          case measure => have := HS.out; simp [intOf]; omega
        · go_wp2_with fail
          refine (c1 _).mono ?_
          rintro e w1 ⟨rfl, rfl⟩
          clear c1
          go_wp2_with fail
          refine (cw _ hat).mono ?_
          rintro e w1 ⟨⟨k, rfl, k1, k2, k3, k4⟩, q1⟩
          obtain ⟨hSz, hscan', hqk⟩ : (cut bs q k).length = k - q ∧ (∀ out, scan (bs.drop p) p out [] [] false = scan (bs.drop k) k out (ws ++ [(q, cut bs q k)]) [] false) ∧ q < k := by
            obtain ⟨hg, hpart⟩ := HP.out
            have hqk : q < k := by
              rcases Nat.lt_or_ge q k with hh | hh
              · exact hh
              · have e : k = q := by omega
                subst e
                rcases k4 with k4 | ⟨x, kx, ky⟩
                · omega
                · rw [hg] at kx; cases kx; rw [hpart] at ky; cases ky
            exact ⟨cut_len k1 k2, fun out => (hscan out).trans (scan_whole hqk k2 k3 k4), hqk⟩
          obtain ⟨d, hd⟩ : ∃ d, k = q + d := ⟨k - q, by omega⟩
          obtain ⟨T, hT⟩ : ∃ T, cut bs q k = T := ⟨_, rfl⟩
          rw [hT] at hSz hscan'
          obtain ⟨S, hS⟩ : ∃ S, strB T = S := ⟨_, rfl⟩
          have hss : S.size = d := by rw [← hS, strB_size, hSz]; omega
          rw [hT, hS]
          have wk : IntKind.i64.wrap ((q : Int) + (d : Int)) = (k : Int) := by rw [IntKind.wrap_i64]; omega
          have own3 := row_keep hown ((q1.b.alloc #[.int .i64 (q : Int), .string S] 44).alloc #[.int .i64 (q : Int), .string S] 44)
          have hlw : ∀ x, (Value.slice ao' ws.length cc).ownBlock = some x → x < w1.heap.size := fun x hx => Nat.lt_of_lt_of_le (hown.lt x hx).2 q1.below.size
          have hbox3 : ((w1.alloc (.cells #[.int .i64 (q : Int), .string S] 44)).alloc (.cells #[.int .i64 (q : Int), .string S] 44)).cell? ⟨w1.heap.size, 1, none⟩ = some (.string S) := ((B.refl (w1.alloc (.cells #[.int .i64 (q : Int), .string S] 44))).alloc _ _).keep (by rw [World.cell?_alloc_new]; rfl)
          have B3 := ((hB.trans q1.b).alloc #[.int .i64 (q : Int), .string S] 44).alloc #[.int .i64 (q : Int), .string S] 44
          have hfl : flatW (ws ++ [(q, T)]) = flatW ws ++ [.int .i64 ((q : Nat) : Int), .string S] := by rw [flatW_snoc, hS]
          have hbw := hB.below.size
          have hq1s := q1.below.size
          have h16 : ws.length ≤ 65536 := by omega
          have HS := Lib.hid (And.intro hscan' (And.intro hqk (And.intro k2 (And.intro hpq (And.intro hws hd)))))
          replace hS := Lib.hid hS
          replace hfl := Lib.hid hfl
          clear hscan hscan' k3 k4 hT hSz cw hat hc hlB hlI HP hl hq hpq hp k1 k2 hqk h hle hcap
          go_wp2_with (at_builtin; refine wpList_append_lies _ rfl _ _ 42 rfl w.heap.size 44 i0 _ 2 24 Try.underlying42 hi0 hz0 hz1 hz2 rfl (by omega) (.slice ao' ws.length cc) ws.length (flatW ws) rfl own3 ⟨w1.heap.size + 1, 0, none⟩ 1 1 [.int .i64 (q : Int), .string S] rfl rfl (newest (by simp)) (fun u hu => by simp at hu; rcases hu with rfl | rfl <;> rfl) (by omega) (by unfold maxLen; omega) (by omega) B3.below.size _ rfl ?_; intro gb cp W4 hown4 hgrow hat4 hlt4; have hbox : W4.cell? ⟨w1.heap.size, 1, none⟩ = some (.string S) := (World.cell?_of_block (a := ⟨w1.heap.size, 1, none⟩) (hgrow.block w1.heap.size (by simp; omega) (fun e => by have := hlw _ e.symm; omega))).trans hbox3; have B4 := B3.grownBy hgrow (fun x hx => (hown.lt x hx).1); rw [← hfl.out] at hown4; clear hgrow hat4 hlt4 hbox3 B3 own3 hown hB q1 hlw; go_wp2_with fail)
          go_roundw
          case rel => exact ⟨k, some ⟨gb, 0, none⟩, cp, ws ++ [(q, T)], by have := HS.out; omega, by have := HS.out; omega, by go_num, by simp, by have := HS.out; simp; omega, by simpa using hown4, HS.out.1, B4⟩
          case measure => have := HS.out; simp [intOf]; omega
        · go_wp2_with fail
          refine (c1 _).mono ?_
          rintro e w1 ⟨rfl, rfl⟩
          clear c1
          go_wp2_with fail
          refine (cw _ hat).mono ?_
          rintro e w1 ⟨⟨k, rfl, k1, k2, k3, k4⟩, q1⟩
          obtain ⟨hSz, hscan', hqk⟩ : (cut bs q k).length = k - q ∧ (∀ out, scan (bs.drop p) p out [] [] false = scan (bs.drop k) k out (ws ++ [(q, cut bs q k)]) [] false) ∧ q < k := by
            obtain ⟨hg, hpart⟩ := HP.out
            have hqk : q < k := by
              rcases Nat.lt_or_ge q k with hh | hh
              · exact hh
              · have e : k = q := by omega
                subst e
                rcases k4 with k4 | ⟨x, kx, ky⟩
                · omega
                · rw [hg] at kx; cases kx; rw [hpart] at ky; cases ky
            exact ⟨cut_len k1 k2, fun out => (hscan out).trans (scan_whole hqk k2 k3 k4), hqk⟩
          obtain ⟨d, hd⟩ : ∃ d, k = q + d := ⟨k - q, by omega⟩
          obtain ⟨T, hT⟩ : ∃ T, cut bs q k = T := ⟨_, rfl⟩
          rw [hT] at hSz hscan'
          obtain ⟨S, hS⟩ : ∃ S, strB T = S := ⟨_, rfl⟩
          have hss : S.size = d := by rw [← hS, strB_size, hSz]; omega
          rw [hT, hS]
          have wk : IntKind.i64.wrap ((q : Int) + (d : Int)) = (k : Int) := by rw [IntKind.wrap_i64]; omega
          have own3 := row_keep hown ((q1.b.alloc #[.int .i64 (q : Int), .string S] 44).alloc #[.int .i64 (q : Int), .string S] 44)
          have hlw : ∀ x, (Value.slice ao' ws.length cc).ownBlock = some x → x < w1.heap.size := fun x hx => Nat.lt_of_lt_of_le (hown.lt x hx).2 q1.below.size
          have hbox3 : ((w1.alloc (.cells #[.int .i64 (q : Int), .string S] 44)).alloc (.cells #[.int .i64 (q : Int), .string S] 44)).cell? ⟨w1.heap.size, 1, none⟩ = some (.string S) := ((B.refl (w1.alloc (.cells #[.int .i64 (q : Int), .string S] 44))).alloc _ _).keep (by rw [World.cell?_alloc_new]; rfl)
          have B3 := ((hB.trans q1.b).alloc #[.int .i64 (q : Int), .string S] 44).alloc #[.int .i64 (q : Int), .string S] 44
          have hfl : flatW (ws ++ [(q, T)]) = flatW ws ++ [.int .i64 ((q : Nat) : Int), .string S] := by rw [flatW_snoc, hS]
          have hbw := hB.below.size
          have hq1s := q1.below.size
          have h16 : ws.length ≤ 65536 := by omega
          have HS := Lib.hid (And.intro hscan' (And.intro hqk (And.intro k2 (And.intro hpq (And.intro hws hd)))))
          replace hS := Lib.hid hS
          replace hfl := Lib.hid hfl
          clear hscan hscan' k3 k4 hT hSz cw hat hc hlB hlI HP hl hq hpq hp k1 k2 hqk h hle hcap
          go_wp2_with (at_builtin; refine wpList_append_lies _ rfl _ _ 42 rfl w.heap.size 44 i0 _ 2 24 Try.underlying42 hi0 hz0 hz1 hz2 rfl (by omega) (.slice ao' ws.length cc) ws.length (flatW ws) rfl own3 ⟨w1.heap.size + 1, 0, none⟩ 1 1 [.int .i64 (q : Int), .string S] rfl rfl (newest (by simp)) (fun u hu => by simp at hu; rcases hu with rfl | rfl <;> rfl) (by omega) (by unfold maxLen; omega) (by omega) B3.below.size _ rfl ?_; intro gb cp W4 hown4 hgrow hat4 hlt4; have hbox : W4.cell? ⟨w1.heap.size, 1, none⟩ = some (.string S) := (World.cell?_of_block (a := ⟨w1.heap.size, 1, none⟩) (hgrow.block w1.heap.size (by simp; omega) (fun e => by have := hlw _ e.symm; omega))).trans hbox3; have B4 := B3.grownBy hgrow (fun x hx => (hown.lt x hx).1); rw [← hfl.out] at hown4; clear hgrow hat4 hlt4 hbox3 B3 own3 hown hB q1 hlw; go_wp2_with fail)
          go_roundw
          case rel => exact ⟨k, some ⟨gb, 0, none⟩, cp, ws ++ [(q, T)], by have := HS.out; omega, by have := HS.out; omega, by go_num, by simp, by have := HS.out; simp; omega, by simpa using hown4, HS.out.1, B4⟩
          case measure => have := HS.out; simp [intOf]; omega
        · go_wp2_with fail
          refine (c1 _).mono ?_
          rintro e w1 ⟨rfl, rfl⟩
          clear c1
          go_wp2_with fail
          refine (cw _ hat).mono ?_
          rintro e w1 ⟨⟨k, rfl, k1, k2, k3, k4⟩, q1⟩
          obtain ⟨hSz, hscan', hqk⟩ : (cut bs q k).length = k - q ∧ (∀ out, scan (bs.drop p) p out [] [] false = scan (bs.drop k) k out (ws ++ [(q, cut bs q k)]) [] false) ∧ q < k := by
            obtain ⟨hg, hpart⟩ := HP.out
            have hqk : q < k := by
              rcases Nat.lt_or_ge q k with hh | hh
              · exact hh
              · have e : k = q := by omega
                subst e
                rcases k4 with k4 | ⟨x, kx, ky⟩
                · omega
                · rw [hg] at kx; cases kx; rw [hpart] at ky; cases ky
            exact ⟨cut_len k1 k2, fun out => (hscan out).trans (scan_whole hqk k2 k3 k4), hqk⟩
          obtain ⟨d, hd⟩ : ∃ d, k = q + d := ⟨k - q, by omega⟩
          obtain ⟨T, hT⟩ : ∃ T, cut bs q k = T := ⟨_, rfl⟩
          rw [hT] at hSz hscan'
          obtain ⟨S, hS⟩ : ∃ S, strB T = S := ⟨_, rfl⟩
          have hss : S.size = d := by rw [← hS, strB_size, hSz]; omega
          rw [hT, hS]
          have wk : IntKind.i64.wrap ((q : Int) + (d : Int)) = (k : Int) := by rw [IntKind.wrap_i64]; omega
          have own3 := row_keep hown ((q1.b.alloc #[.int .i64 (q : Int), .string S] 44).alloc #[.int .i64 (q : Int), .string S] 44)
          have hlw : ∀ x, (Value.slice ao' ws.length cc).ownBlock = some x → x < w1.heap.size := fun x hx => Nat.lt_of_lt_of_le (hown.lt x hx).2 q1.below.size
          have hbox3 : ((w1.alloc (.cells #[.int .i64 (q : Int), .string S] 44)).alloc (.cells #[.int .i64 (q : Int), .string S] 44)).cell? ⟨w1.heap.size, 1, none⟩ = some (.string S) := ((B.refl (w1.alloc (.cells #[.int .i64 (q : Int), .string S] 44))).alloc _ _).keep (by rw [World.cell?_alloc_new]; rfl)
          have B3 := ((hB.trans q1.b).alloc #[.int .i64 (q : Int), .string S] 44).alloc #[.int .i64 (q : Int), .string S] 44
          have hfl : flatW (ws ++ [(q, T)]) = flatW ws ++ [.int .i64 ((q : Nat) : Int), .string S] := by rw [flatW_snoc, hS]
          have hbw := hB.below.size
          have hq1s := q1.below.size
          have h16 : ws.length ≤ 65536 := by omega
          have HS := Lib.hid (And.intro hscan' (And.intro hqk (And.intro k2 (And.intro hpq (And.intro hws hd)))))
          replace hS := Lib.hid hS
          replace hfl := Lib.hid hfl
          clear hscan hscan' k3 k4 hT hSz cw hat hc hlB hlI HP hl hq hpq hp k1 k2 hqk h hle hcap
          go_wp2_with (at_builtin; refine wpList_append_lies _ rfl _ _ 42 rfl w.heap.size 44 i0 _ 2 24 Try.underlying42 hi0 hz0 hz1 hz2 rfl (by omega) (.slice ao' ws.length cc) ws.length (flatW ws) rfl own3 ⟨w1.heap.size + 1, 0, none⟩ 1 1 [.int .i64 (q : Int), .string S] rfl rfl (newest (by simp)) (fun u hu => by simp at hu; rcases hu with rfl | rfl <;> rfl) (by omega) (by unfold maxLen; omega) (by omega) B3.below.size _ rfl ?_; intro gb cp W4 hown4 hgrow hat4 hlt4; have hbox : W4.cell? ⟨w1.heap.size, 1, none⟩ = some (.string S) := (World.cell?_of_block (a := ⟨w1.heap.size, 1, none⟩) (hgrow.block w1.heap.size (by simp; omega) (fun e => by have := hlw _ e.symm; omega))).trans hbox3; have B4 := B3.grownBy hgrow (fun x hx => (hown.lt x hx).1); rw [← hfl.out] at hown4; clear hgrow hat4 hlt4 hbox3 B3 own3 hown hB q1 hlw; go_wp2_with fail)
          go_roundw
          case rel => exact ⟨k, some ⟨gb, 0, none⟩, cp, ws ++ [(q, T)], by have := HS.out; omega, by have := HS.out; omega, by go_num, by simp, by have := HS.out; simp; omega, by simpa using hown4, HS.out.1, B4⟩
          case measure => have := HS.out; simp [intOf]; omega
      · obtain ⟨z1, z2, z3, z4⟩ := kind_zero hK
        have HS := Lib.hid (show ∀ out, scan (bs.drop p) p out [] [] false = ([], q, 24) from fun out => (hscan out).trans (scan_bad hg z1 z2 z3 z4))
        have HB := Lib.hid hB
        obtain ⟨m, hm⟩ : ∃ m, c.toNat = m := ⟨_, rfl⟩
        rw [hm] at hc c1
        clear hg hK ks hscan z1 z2 z3 z4 hm hown hat h hB hle hcap
        go_wp2_with fail
        refine (c1 _).mono ?_
        rintro e w1 ⟨rfl, rfl⟩
        clear c1
        go_wp2
        go_ret3
        exact .inr ⟨q, rfl, HS.out, HB.out⟩
      · obtain ⟨z1, z2⟩ := kind_five hK
        have HS := Lib.hid (show ∀ out, scan (bs.drop p) p out [] [] false = scan (bs.drop (q + 1)) (q + 1) out ws [] false from fun out => (hscan out).trans (by rw [scan_gap hg z1, flushW_none]))
        have HB := Lib.hid (And.intro hB hown)
        have wk1 : IntKind.i64.wrap ((q : Int) + 1) = (q : Int) + 1 := by rw [IntKind.wrap_i64]; omega
        obtain ⟨m, hm⟩ : ∃ m, c.toNat = m := ⟨_, rfl⟩
        rw [hm] at hc c1
        have HM := Lib.hid (And.intro hl (And.intro hpq hws))
        clear hg hK ks hscan z1 z2 hm hown hat h hB hle hcap hl hpq hws hq
        go_wp2_with fail
        refine (c1 _).mono ?_
        rintro e w1 ⟨rfl, rfl⟩
        clear c1
        go_wp2
        go_roundw
        case rel => exact ⟨q + 1, ao', cc, ws, by have := HM.out; omega, by have := HM.out; omega, by go_num, rfl, by have := HM.out; omega, HB.out.2, HS.out, HB.out.1⟩
        case measure => have := HM.out; simp [intOf]; omega
      · have z1 := kind_six hK
        have HS := Lib.hid (show ∀ out, scan (bs.drop p) p out [] [] false = scan (bs.drop q) q out ws [] false from hscan)
        have HW := Lib.hid (And.intro (words_own hown rfl) (And.intro (fun x hx => hown.lt x hx) (And.intro hB (And.intro hpq (And.intro hq (show bs.length ≤ q ∨ ∃ c, bs[q]? = some c ∧ c.toNat = 10 from .inr ⟨c, hg, z1⟩))))))
        obtain ⟨m, hm⟩ : ∃ m, c.toNat = m := ⟨_, rfl⟩
        rw [hm] at hc c1
        clear hg hK ks hscan z1 hm hown hat h hB hle hcap hpq hws hq
        go_wp2_with fail
        refine (c1 _).mono ?_
        rintro e w1 ⟨rfl, rfl⟩
        clear c1
        go_wp2
        go_ret3
        exact .inl ⟨q, _, ws, rfl, HW.out.2.2.2.1, HW.out.2.2.2.2.1, HS.out, HW.out.2.2.2.2.2, HW.out.1, HW.out.2.1, HW.out.2.2.1⟩
      · have z1 := kind_seven hK
        have ce := fun w h => lineEnd_any b o cap q bs w h hl hle (by unfold maxLen; exact hcap)
        have HP := Lib.hid (And.intro hg z1)
        obtain ⟨m, hm⟩ : ∃ m, c.toNat = m := ⟨_, rfl⟩
        rw [hm] at hc c1
        clear hg hK ks z1 hm
        go_wp2_with fail
        refine (c1 _).mono ?_
        rintro e w1 ⟨rfl, rfl⟩
        clear c1
        go_wp2_with fail
        refine (ce _ hat).mono ?_
        rintro e w1 ⟨⟨k, rfl, k1, k2, k3, k4⟩, rfl⟩
        clear ce
        have HS := Lib.hid (show (∀ out, scan (bs.drop p) p out [] [] false = scan (bs.drop k) k out ws [] false) ∧ q < k ∧ k ≤ bs.length ∧ p ≤ q ∧ ws.length ≤ q by
          obtain ⟨hg, hc35⟩ := HP.out
          have hqk : q < k := by
            rcases Nat.lt_or_ge q k with hh | hh
            · exact hh
            · have e : k = q := by omega
              subst e
              rcases k4 with k4 | ⟨x, kx, ky⟩
              · omega
              · rw [hg] at kx; cases kx; omega
          refine ⟨fun out => (hscan out).trans ?_, hqk, k2, hpq, hws⟩
          rw [scan_hash hg hc35, flushW_none, scan_skip (p := q + 1) (q := k) hqk k2 (fun i h1 h2 => k3 i (by omega) h2), scan_noted k4])
        have HB := Lib.hid (And.intro hB hown)
        clear hscan k3 k4 HP hown hat h hB hle hcap k1 k2 hl hpq hws hq hc
        go_wp2
        go_roundw
        case rel => exact ⟨k, ao', cc, ws, by have := HS.out; omega, HS.out.2.2.1, by go_num, rfl, by have := HS.out; omega, HB.out.2, HS.out.1, HB.out.1⟩
        case measure => have := HS.out; simp [intOf]; omega
    · have hlB : decide ((q : Int) < (bs.length : Int)) = false := decide_eq_false (by omega)
      have HS := Lib.hid (show ∀ out, scan (bs.drop p) p out [] [] false = scan (bs.drop q) q out ws [] false from hscan)
      have HW := Lib.hid (And.intro (words_own hown rfl) (And.intro (fun x hx => hown.lt x hx) (And.intro hB (And.intro hpq (And.intro hq (show bs.length ≤ q ∨ ∃ c, bs[q]? = some c ∧ c.toNat = 10 from .inl (by omega)))))))
      clear hscan hown h hB hle hcap hpq hws hq
      go_wp2
      go_ret3
      exact .inl ⟨q, _, ws, rfl, HW.out.2.2.2.1, HW.out.2.2.2.2.1, HS.out, HW.out.2.2.2.2.2, HW.out.1, HW.out.2.1, HW.out.2.2.1⟩
end Go.Proofs.Ytknpabijhmcjhaa
