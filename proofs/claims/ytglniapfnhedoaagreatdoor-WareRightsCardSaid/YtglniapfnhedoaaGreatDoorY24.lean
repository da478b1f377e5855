/-
 Contracts and what they rest on.
-/
import Derived.Deep.AppendLies
import Derived.Lib.BytesEntry
import Derived.Lib.IndexLaws
import Derived.Test.YtglniapfnhedoaaGreatDoorY23
namespace Go.Proofs.YtglniapfnhedoaaGreatDoor
open Go.RowKit
theorem bytesOf_nums (bs : List UInt8) : Lib.bytesOf (nums bs) = bs := bytes_nums bs
set_option maxRecDepth 100000 in
theorem idx_any (b o cap : Nat) (bs : List UInt8) (w : World) (h : BAt w b o bs) : Calls Tryz.prog 80 #[.slice (some ⟨b, o, none⟩) bs.length cap, .int .u8 10] w fun e w' => e = .returned (.int .i64 (Lib.indexByte bs 10)) ∧ w = w' := by
 have hr := Lib.run_indexByteSlice (P := Tryz.prog) w b o bs.length cap (nums bs) (nums_len bs) (h.nums rfl) 10
 rw [bytesOf_nums] at hr
 go_enter Tryz.func80, Tryz.ntmps80
 go_wp2
 rw [run_callFunc_extern (fn := Tryz.f90) Tryz.func90 (by kernel_rfl) (by kernel_rfl) (by kernel_rfl) (e := Extern.BytealgIndexByte.indexByte) (by kernel_rfl), hr]
 simp only [Result.andThen]
 rw [Oper.upon_value]
 go_wp2
 go_ret
 exact ⟨rfl, rfl⟩
theorem lineEnd_any (b o cap p : Nat) (bs : List UInt8) (w : World) (h : BAt w b o bs) (hp : p < bs.length) (hle : bs.length ≤ cap) (hcap : cap ≤ maxLen) :
  Calls Tryz.prog 70 #[.slice (some ⟨b, o, none⟩) bs.length cap, .int .i64 (p : Int)] w fun e w' => (∃ q : Nat, e = .returned (.int .i64 (q : Int)) ∧ p ≤ q ∧ q ≤ bs.length ∧ (∀ i, p ≤ i → i < q → ∀ c, bs[i]? = some c → c.toNat ≠ 10) ∧
   (bs.length ≤ q ∨ ∃ c, bs[q]? = some c ∧ c.toNat = 10)) ∧ w = w' := by
 unfold maxLen at hcap
 have c0 := fun w h => idx_any b (o + p) (cap - p) (bs.drop p) w h
 rw [List.length_drop] at c0
 have hd := h.drop p
 have hpI : (p : Int) ≤ (bs.length : Int) := by omega
 have hp0 : (0 : Int) ≤ (p : Int) := by omega
 have hpc : (p : Int) ≤ (cap : Int) := by omega
 go_enter Tryz.func70, Tryz.ntmps70
 go_wp2_with fail
 refine (c0 _ hd).mono ?_
 rintro e w1 ⟨rfl, rfl⟩
 clear c0 hd
 have hge := Lib.indexByte_ge (bs.drop p) 10
 by_cases hx : Lib.indexByte (bs.drop p) 10 = -1
 ·have hn := Lib.indexByte_none hx
  have HR := Lib.hid (show p ≤ bs.length ∧ bs.length ≤ bs.length ∧ (∀ i, p ≤ i → i < bs.length → ∀ c, bs[i]? = some c → c.toNat ≠ 10) ∧ (bs.length ≤ bs.length ∨ ∃ c, bs[bs.length]? = some c ∧ c.toNat = 10) from ⟨by omega, Nat.le_refl _, fun i h1 h2 c hc e => by
    refine hn (i - p) ?_
    rw [List.getElem?_drop, show p + (i - p) = i by omega, hc]
    exact congrArg some (UInt8.toNat.inj e), .inl (Nat.le_refl _)⟩)
  rw [hx]
  clear hx hn hge h
  go_wp2
  go_ret
  exact ⟨⟨_, rfl, HR.out⟩, rfl⟩
 ·obtain ⟨k, hk⟩ : ∃ k : Nat, Lib.indexByte (bs.drop p) 10 = (k : Int) := ⟨(Lib.indexByte (bs.drop p) 10).toNat, by omega⟩
  obtain ⟨s1, s2⟩ := Lib.indexByte_some hk
  rw [List.getElem?_drop] at s1
  obtain ⟨q, hq⟩ : ∃ q, q = p + k := ⟨_, rfl⟩
  rw [← hq] at s1
  have hlt : q < bs.length := (List.getElem?_eq_some_iff.1 s1).1
  have wk : IntKind.i64.wrap ((p : Int) + (k : Int)) = (q : Int) := by rw [IntKind.wrap_i64]; omega
  have kB : decide ((0 : Int) ≤ (k : Int)) = true := decide_eq_true (by omega)
  have HR := Lib.hid (show p ≤ q ∧ q ≤ bs.length ∧ (∀ i, p ≤ i → i < q → ∀ c, bs[i]? = some c → c.toNat ≠ 10) ∧ (bs.length ≤ q ∨ ∃ c, bs[q]? = some c ∧ c.toNat = 10) from ⟨by omega, by omega, fun i h1 h2 c hc e => by
    refine s2 (i - p) (by omega) ?_
    rw [List.getElem?_drop, show p + (i - p) = i by omega, hc]
    exact congrArg some (UInt8.toNat.inj e), .inr ⟨_, s1, rfl⟩⟩)
  rw [hk]
  clear hx hk s1 s2 hge h hq
  go_wp2
  go_ret
  exact ⟨⟨_, rfl, HR.out⟩, rfl⟩
set_option maxHeartbeats 2000000 in
theorem word_any (b o cap p : Nat) (bs : List UInt8) (w : World) (h : BAt w b o bs) (hp : p < bs.length) (hle : bs.length ≤ cap) (hcap : cap ≤ maxLen) :
  Calls Tryz.prog 69 #[.slice (some ⟨b, o, none⟩) bs.length cap, .int .i64 (p : Int)] w fun e w' => (∃ k : Nat, e = .returned (.agg #[.int .i64 (p : Int), .string (strB (cut bs p k))]) ∧ p ≤ k ∧ k ≤ bs.length ∧
   (∀ j, p ≤ j → j < k → ∀ c, bs[j]? = some c → partN c.toNat = true) ∧ (bs.length ≤ k ∨ ∃ c, bs[k]? = some c ∧ partN c.toNat = false)) ∧ Q w w' := by
 unfold maxLen at hcap
 have hcp : p < cap := by omega
 have hcp' : ¬ cap = p := by omega
 have hconvs : ∀ k, p ≤ k → k ≤ bs.length → (convert 47 9 (.slice (some ⟨b, o + p, none⟩) (k - p) (cap - p))).run Tryz.prog (w.alloc (.cells #[.int .i64 0, .string .empty] 95)) = .ok (.string (strB (cut bs p k))) (w.alloc (.cells #[.int .i64 0, .string .empty] 95)) := fun k h1 h2 => by
  have := run_convert_bytes_arg (P := Tryz.prog) (w.alloc (.cells #[.int .i64 0, .string .empty] 95)) 47 5 Tryz.underlying47 Tryz.underlying5 b (o + p) (k - p) (cap - p) (nums (cut bs p k)) (by rw [nums_len, cut_len h1 h2])
   (((h.keep ((Q.refl w).alloc _ _).b).drop p).take (k - p) |>.nums (cut_len h1 h2)) 9 Tryz.underlying9
  rw [strB_nums] at this
  exact this
 have hcell : ∀ k c, bs[k]? = some c → (w.alloc (.cells #[.int .i64 0, .string .empty] 95)).cell? ⟨b, o + k, none⟩ = some (.int .u8 ((c.toNat : Nat) : Int)) := (h.keep ((Q.refl w).alloc _ _).b)
 clear h
 go_enter Tryz.func69, Tryz.ntmps69
 go_wp2
 go_loopw [5] (fun i wr => ∃ k : Nat, p ≤ k ∧ k ≤ bs.length ∧ i = .int .i64 k ∧ (∀ j, p ≤ j → j < k → ∀ c, bs[j]? = some c → partN c.toNat = true) ∧ w.alloc (.cells #[.int .i64 0, .string .empty] 95) = wr) (fun i _ => bs.length + 1 - (intOf i).toNat)
 case atStart => exact ⟨p, Nat.le_refl _, by omega, rfl, fun j h1 h2 => by omega, rfl⟩
 case round =>
  obtain ⟨k, hpk, hk, rfl, hall, rfl⟩ := hrel
  by_cases hl : k < bs.length
  ·obtain ⟨c, hg⟩ : ∃ c, bs[k]? = some c := ⟨_, List.getElem?_eq_getElem hl⟩
   have hc := hcell k c hg
   have hlB : decide ((k : Int) < (bs.length : Int)) = true := decide_eq_true (by omega)
   have hlI : (k : Int) < (bs.length : Int) := by omega
   have hk0 : (0 : Int) ≤ (k : Int) := by omega
   have c1 := fun w => ofWord_any c.toNat w
   cases hp2 : partN c.toNat
   ·rw [hp2] at c1
    have HR := Lib.hid (show p ≤ k ∧ k ≤ bs.length ∧ (∀ j, p ≤ j → j < k → ∀ c, bs[j]? = some c → partN c.toNat = true) ∧ (bs.length ≤ k ∨ ∃ c, bs[k]? = some c ∧ partN c.toNat = false) from ⟨hpk, hk, hall, .inr ⟨c, hg, hp2⟩⟩)
    have hconv := hconvs k hpk hk
    have kp : (p : Int) ≤ (k : Int) := by omega
    have kc : (k : Int) ≤ (cap : Int) := by omega
    have p0 : (0 : Int) ≤ (p : Int) := by omega
    have HQ := Lib.hid ((Q.refl w).alloc #[.int .i64 (p : Int), .string (strB (cut bs p k))] 95)
    obtain ⟨S, hS⟩ : ∃ S, strB (cut bs p k) = S := ⟨_, rfl⟩
    rw [hS] at hconv HQ
    replace hS := Lib.hid hS
    clear hall hconvs hg hp2 hl hcell hp hpk hk hle
    generalize c.toNat = m at *
    go_wp2_with fail
    refine (c1 _).mono ?_
    rintro e w1 ⟨rfl, rfl⟩
    clear c1 hc
    go_wp2
    exact bodyPost_ret (v := .agg #[.int .i64 (p : Int), .string S]) (by simp [results, Tryz.results69, go_sem, *]) rfl ⟨⟨k, by rw [hS.out], HR.out⟩, HQ.out⟩
   ·rw [hp2] at c1
    have wk1 : IntKind.i64.wrap ((k : Int) + 1) = (k : Int) + 1 := by rw [IntKind.wrap_i64]; omega
    have HA := Lib.hid (show p ≤ k + 1 ∧ k + 1 ≤ bs.length ∧ ∀ j, p ≤ j → j < k + 1 → ∀ c, bs[j]? = some c → partN c.toNat = true from ⟨by omega, by omega, fun j h1 h2 x hx => by
     by_cases hj : j = k
     ·subst hj; rw [hg] at hx; cases hx; exact hp2
     ·exact hall j h1 (by omega) x hx⟩)
    have HM := Lib.hid hl
    clear hall hp2 hg hl hcell hconvs hp hpk hk hle
    generalize c.toNat = m at *
    go_wp2_with fail
    refine (c1 _).mono ?_
    rintro e w1 ⟨rfl, rfl⟩
    clear c1 hc
    go_wp2
    go_roundw
    case rel => exact ⟨k + 1, HA.out.1, HA.out.2.1, by go_num, HA.out.2.2, trivial⟩
    case measure => have := HM.out; simp [intOf]; omega
  ·have hlB : decide ((k : Int) < (bs.length : Int)) = false := decide_eq_false (by omega)
   have HR := Lib.hid (show p ≤ k ∧ k ≤ bs.length ∧ (∀ j, p ≤ j → j < k → ∀ c, bs[j]? = some c → partN c.toNat = true) ∧ (bs.length ≤ k ∨ ∃ c, bs[k]? = some c ∧ partN c.toNat = false) from ⟨hpk, hk, hall, .inl (by omega)⟩)
   have hconv := hconvs k hpk hk
   have kp : (p : Int) ≤ (k : Int) := by omega
   have kc : (k : Int) ≤ (cap : Int) := by omega
   have p0 : (0 : Int) ≤ (p : Int) := by omega
   have HQ := Lib.hid ((Q.refl w).alloc #[.int .i64 (p : Int), .string (strB (cut bs p k))] 95)
   obtain ⟨S, hS⟩ : ∃ S, strB (cut bs p k) = S := ⟨_, rfl⟩
   rw [hS] at hconv HQ
   replace hS := Lib.hid hS
   clear hall hconvs hcell hp hpk hk hle
   go_wp2
   exact bodyPost_ret (v := .agg #[.int .i64 (p : Int), .string S]) (by simp [results, Tryz.results69, go_sem, *]) rfl ⟨⟨k, by rw [hS.out], HR.out⟩, HQ.out⟩
end Go.Proofs.YtglniapfnhedoaaGreatDoor
namespace Go.Proofs.YtglniapfnhedoaaGreatDoor
open Go.RowKit
theorem wordInfo : (Tryz.prog.info? 95).map (fun i => (i.zero, i.size, i.bytes)) = some (some (.agg #[.int .i64 0, .string .empty]), 2, 24) := by kernel_rfl
def LineRes (bs : List UInt8) (p : Nat) (w : World) (e : Ending) (w' : World) : Prop :=
 (∃ (q : Nat) (v : Value) (ws : List Wd), e = .returned (.tuple #[v, .int .i64 (q : Int), .bool true]) ∧ p ≤ q ∧ q ≤ bs.length ∧ (∀ out, scan (bs.drop p) p out [] [] false = scan (bs.drop q) q out ws [] false) ∧ (bs.length ≤ q ∨ ∃ c, bs[q]? = some c ∧ c.toNat = 10) ∧
  IsWords w' v ws ∧ (∀ b, v.ownBlock = some b → w.heap.size ≤ b ∧ b < w'.heap.size) ∧ B w w') ∨
 (∃ q : Nat, e = .returned (.tuple #[.slice none 0 0, .int .i64 (q : Int), .bool false]) ∧ (∀ out, scan (bs.drop p) p out [] [] false = ([], q, 24)) ∧ B w w')
set_option maxHeartbeats 2000000 in
theorem line_any (ao : Option Addr) (b o cap p : Nat) (bs : List UInt8) (w : World) (h : IsB w ao cap b o bs) (hn : bs.length ≤ 65536) (hp : p ≤ bs.length) :
  Calls Tryz.prog 51 #[.slice ao bs.length cap, .int .i64 (p : Int)] w (LineRes bs p w) := by
 obtain ⟨i0, hi0, hz0, hz1, hz2⟩ := info_of wordInfo
 have hle := h.le
 have hcap := h.max
 unfold maxLen at hcap
 go_enter Tryz.func51, Tryz.ntmps51
 go_wp2
 go_loopw [1, 7] (fun iv vv wr => ∃ (q : Nat) (ao' : Option Addr) (c : Nat) (ws : List Wd), p ≤ q ∧ q ≤ bs.length ∧ iv = .int .i64 q ∧ vv = .slice ao' ws.length c ∧ ws.length ≤ q ∧ wr.ownsRow w.heap.size 95 2 (.slice ao' ws.length c) ws.length (flatW ws) ∧
   (∀ out, scan (bs.drop p) p out [] [] false = scan (bs.drop q) q out ws [] false) ∧ B w wr) (fun iv _ _ => bs.length + 1 - (intOf iv).toNat)
 case atStart => exact ⟨p, none, 0, [], Nat.le_refl _, hp, rfl, rfl, by simp, World.ownsRow_nil _ _ _ _, fun _ => rfl, B.refl _⟩
 case round =>
  obtain ⟨q, ao', cc, ws, hpq, hq, rfl, rfl, hws, hown, hscan, hB⟩ := hrel
  by_cases hl : q < bs.length
  ·obtain rfl := h.ao (by omega)
   obtain ⟨c, hg⟩ : ∃ c, bs[q]? = some c := ⟨_, List.getElem?_eq_getElem hl⟩
   have hat := h.at_.keep hB
   have hc := hat q c hg
   have hlB : decide ((q : Int) < (bs.length : Int)) = true := decide_eq_true (by omega)
   have hlI : (q : Int) < (bs.length : Int) := by omega
   have hq0 : (0 : Int) ≤ (q : Int) := by omega
   have c1 := fun w => kind_any c.toNat w
   have ks := kind_le c.toNat
   obtain ⟨K, hK⟩ : ∃ K, kindN c.toNat = K := ⟨_, rfl⟩
   rw [hK] at c1 ks
   have kc : (1 ≤ K ∧ K ≤ 4) ∨ K = 0 ∨ K = 5 ∨ K = 6 ∨ K = 7 := by omega
   rcases kc with kc | rfl | rfl | rfl | rfl
   ·have hpart : partN c.toNat = true := (kind_part _).2 (by omega)
    have cw := fun w h => word_any b o cap q bs w h hl hle (by unfold maxLen; exact hcap)
    have k4 : K = 1 ∨ K = 2 ∨ K = 3 ∨ K = 4 := by omega
    have HP := Lib.hid (And.intro hg hpart)
    obtain ⟨m, hm⟩ : ∃ m, c.toNat = m := ⟨_, rfl⟩
    rw [hm] at hc c1
    clear hg hpart hK ks kc hm
    rcases k4 with rfl | rfl | rfl | rfl
    ·go_wp2_with fail
     refine (c1 _).mono ?_
     rintro e w1 ⟨rfl, rfl⟩
     clear c1
     go_wp2_with fail
     refine (cw _ hat).mono ?_
     rintro e w1 ⟨⟨k, rfl, k1, k2, k3, k4⟩, q1⟩
     obtain ⟨hSz, hscan', hqk⟩ : (cut bs q k).length = k - q ∧ (∀ out, scan (bs.drop p) p out [] [] false = scan (bs.drop k) k out (ws ++ [(q, cut bs q k)]) [] false) ∧ q < k := by
      obtain ⟨hg, hpart⟩ := HP.out
      have hqk : q < k := by
       rcases Nat.lt_or_ge q k with hh | hh
       ·exact hh
       ·have e : k = q := by omega
        subst e
        rcases k4 with k4 | ⟨x, kx, ky⟩
        ·omega
        ·rw [hg] at kx; cases kx; rw [hpart] at ky; cases ky
      exact ⟨cut_len k1 k2, fun out => (hscan out).trans (scan_whole hqk k2 k3 k4), hqk⟩
     obtain ⟨d, hd⟩ : ∃ d, k = q + d := ⟨k - q, by omega⟩
     obtain ⟨T, hT⟩ : ∃ T, cut bs q k = T := ⟨_, rfl⟩
     rw [hT] at hSz hscan'
     obtain ⟨S, hS⟩ : ∃ S, strB T = S := ⟨_, rfl⟩
     have hss : S.size = d := by rw [← hS, strB_size, hSz]; omega
     rw [hT, hS]
     have wk : IntKind.i64.wrap ((q : Int) + (d : Int)) = (k : Int) := by rw [IntKind.wrap_i64]; omega
     have own3 := row_keep hown ((q1.b.alloc #[.int .i64 (q : Int), .string S] 95).alloc #[.int .i64 (q : Int), .string S] 95)
     have hlw : ∀ x, (Value.slice ao' ws.length cc).ownBlock = some x → x < w1.heap.size := fun x hx => Nat.lt_of_lt_of_le (hown.lt x hx).2 q1.below.size
     have hbox3 : ((w1.alloc (.cells #[.int .i64 (q : Int), .string S] 95)).alloc (.cells #[.int .i64 (q : Int), .string S] 95)).cell? ⟨w1.heap.size, 1, none⟩ = some (.string S) := ((B.refl (w1.alloc (.cells #[.int .i64 (q : Int), .string S] 95))).alloc _ _).keep (by rw [World.cell?_alloc_new]; rfl)
     have B3 := ((hB.trans q1.b).alloc #[.int .i64 (q : Int), .string S] 95).alloc #[.int .i64 (q : Int), .string S] 95
     have hfl : flatW (ws ++ [(q, T)]) = flatW ws ++ [.int .i64 ((q : Nat) : Int), .string S] := by rw [flatW_snoc, hS]
     have hbw := hB.below.size
     have hq1s := q1.below.size
     have h16 : ws.length ≤ 65536 := by omega
     have HS := Lib.hid (And.intro hscan' (And.intro hqk (And.intro k2 (And.intro hpq (And.intro hws hd)))))
     replace hS := Lib.hid hS
     replace hfl := Lib.hid hfl
     clear hscan hscan' k3 k4 hT hSz cw hat hc hlB hlI HP hl hq hpq hp k1 k2 hqk h hle hcap
     go_wp2_with (at_builtin; refine wpList_append_lies _ rfl _ _ 96 rfl w.heap.size 95 i0 _ 2 24 Tryz.underlying96 hi0 hz0 hz1 hz2 rfl (by omega) (.slice ao' ws.length cc) ws.length (flatW ws) rfl own3 ⟨w1.heap.size + 1, 0, none⟩ 1 1 [.int .i64 (q : Int), .string S] rfl rfl (newest (by simp)) (fun u hu => by simp at hu; rcases hu with rfl | rfl <;> rfl) (by omega) (by unfold maxLen; omega) (by omega) B3.below.size _ rfl ?_; intro gb cp W4 hown4 hgrow hat4 hlt4; have hbox : W4.cell? ⟨w1.heap.size, 1, none⟩ = some (.string S) := (World.cell?_of_block (a := ⟨w1.heap.size, 1, none⟩) (hgrow.block w1.heap.size (by simp; omega) (fun e => by have := hlw _ e.symm; omega))).trans hbox3; have B4 := B3.grownBy hgrow (fun x hx => (hown.lt x hx).1); rw [← hfl.out] at hown4; clear hgrow hat4 hlt4 hbox3 B3 own3 hown hB q1 hlw; go_wp2_with fail)
     go_roundw
     case rel => exact ⟨k, some ⟨gb, 0, none⟩, cp, ws ++ [(q, T)], by have := HS.out; omega, by have := HS.out; omega, by go_num, by simp, by have := HS.out; simp; omega, by simpa using hown4, HS.out.1, B4⟩
     case measure => have := HS.out; simp [intOf]; omega
    ·go_wp2_with fail
     refine (c1 _).mono ?_
     rintro e w1 ⟨rfl, rfl⟩
     clear c1
     go_wp2_with fail
     refine (cw _ hat).mono ?_
     rintro e w1 ⟨⟨k, rfl, k1, k2, k3, k4⟩, q1⟩
     obtain ⟨hSz, hscan', hqk⟩ : (cut bs q k).length = k - q ∧ (∀ out, scan (bs.drop p) p out [] [] false = scan (bs.drop k) k out (ws ++ [(q, cut bs q k)]) [] false) ∧ q < k := by
      obtain ⟨hg, hpart⟩ := HP.out
      have hqk : q < k := by
       rcases Nat.lt_or_ge q k with hh | hh
       ·exact hh
       ·have e : k = q := by omega
        subst e
        rcases k4 with k4 | ⟨x, kx, ky⟩
        ·omega
        ·rw [hg] at kx; cases kx; rw [hpart] at ky; cases ky
      exact ⟨cut_len k1 k2, fun out => (hscan out).trans (scan_whole hqk k2 k3 k4), hqk⟩
     obtain ⟨d, hd⟩ : ∃ d, k = q + d := ⟨k - q, by omega⟩
     obtain ⟨T, hT⟩ : ∃ T, cut bs q k = T := ⟨_, rfl⟩
     rw [hT] at hSz hscan'
     obtain ⟨S, hS⟩ : ∃ S, strB T = S := ⟨_, rfl⟩
     have hss : S.size = d := by rw [← hS, strB_size, hSz]; omega
     rw [hT, hS]
     have wk : IntKind.i64.wrap ((q : Int) + (d : Int)) = (k : Int) := by rw [IntKind.wrap_i64]; omega
     have own3 := row_keep hown ((q1.b.alloc #[.int .i64 (q : Int), .string S] 95).alloc #[.int .i64 (q : Int), .string S] 95)
     have hlw : ∀ x, (Value.slice ao' ws.length cc).ownBlock = some x → x < w1.heap.size := fun x hx => Nat.lt_of_lt_of_le (hown.lt x hx).2 q1.below.size
     have hbox3 : ((w1.alloc (.cells #[.int .i64 (q : Int), .string S] 95)).alloc (.cells #[.int .i64 (q : Int), .string S] 95)).cell? ⟨w1.heap.size, 1, none⟩ = some (.string S) := ((B.refl (w1.alloc (.cells #[.int .i64 (q : Int), .string S] 95))).alloc _ _).keep (by rw [World.cell?_alloc_new]; rfl)
     have B3 := ((hB.trans q1.b).alloc #[.int .i64 (q : Int), .string S] 95).alloc #[.int .i64 (q : Int), .string S] 95
     have hfl : flatW (ws ++ [(q, T)]) = flatW ws ++ [.int .i64 ((q : Nat) : Int), .string S] := by rw [flatW_snoc, hS]
     have hbw := hB.below.size
     have hq1s := q1.below.size
     have h16 : ws.length ≤ 65536 := by omega
     have HS := Lib.hid (And.intro hscan' (And.intro hqk (And.intro k2 (And.intro hpq (And.intro hws hd)))))
     replace hS := Lib.hid hS
     replace hfl := Lib.hid hfl
     clear hscan hscan' k3 k4 hT hSz cw hat hc hlB hlI HP hl hq hpq hp k1 k2 hqk h hle hcap
     go_wp2_with (at_builtin; refine wpList_append_lies _ rfl _ _ 96 rfl w.heap.size 95 i0 _ 2 24 Tryz.underlying96 hi0 hz0 hz1 hz2 rfl (by omega) (.slice ao' ws.length cc) ws.length (flatW ws) rfl own3 ⟨w1.heap.size + 1, 0, none⟩ 1 1 [.int .i64 (q : Int), .string S] rfl rfl (newest (by simp)) (fun u hu => by simp at hu; rcases hu with rfl | rfl <;> rfl) (by omega) (by unfold maxLen; omega) (by omega) B3.below.size _ rfl ?_; intro gb cp W4 hown4 hgrow hat4 hlt4; have hbox : W4.cell? ⟨w1.heap.size, 1, none⟩ = some (.string S) := (World.cell?_of_block (a := ⟨w1.heap.size, 1, none⟩) (hgrow.block w1.heap.size (by simp; omega) (fun e => by have := hlw _ e.symm; omega))).trans hbox3; have B4 := B3.grownBy hgrow (fun x hx => (hown.lt x hx).1); rw [← hfl.out] at hown4; clear hgrow hat4 hlt4 hbox3 B3 own3 hown hB q1 hlw; go_wp2_with fail)
     go_roundw
     case rel => exact ⟨k, some ⟨gb, 0, none⟩, cp, ws ++ [(q, T)], by have := HS.out; omega, by have := HS.out; omega, by go_num, by simp, by have := HS.out; simp; omega, by simpa using hown4, HS.out.1, B4⟩
     case measure => have := HS.out; simp [intOf]; omega
    ·go_wp2_with fail
     refine (c1 _).mono ?_
     rintro e w1 ⟨rfl, rfl⟩
     clear c1
     go_wp2_with fail
     refine (cw _ hat).mono ?_
     rintro e w1 ⟨⟨k, rfl, k1, k2, k3, k4⟩, q1⟩
     obtain ⟨hSz, hscan', hqk⟩ : (cut bs q k).length = k - q ∧ (∀ out, scan (bs.drop p) p out [] [] false = scan (bs.drop k) k out (ws ++ [(q, cut bs q k)]) [] false) ∧ q < k := by
      obtain ⟨hg, hpart⟩ := HP.out
      have hqk : q < k := by
       rcases Nat.lt_or_ge q k with hh | hh
       ·exact hh
       ·have e : k = q := by omega
        subst e
        rcases k4 with k4 | ⟨x, kx, ky⟩
        ·omega
        ·rw [hg] at kx; cases kx; rw [hpart] at ky; cases ky
      exact ⟨cut_len k1 k2, fun out => (hscan out).trans (scan_whole hqk k2 k3 k4), hqk⟩
     obtain ⟨d, hd⟩ : ∃ d, k = q + d := ⟨k - q, by omega⟩
     obtain ⟨T, hT⟩ : ∃ T, cut bs q k = T := ⟨_, rfl⟩
     rw [hT] at hSz hscan'
     obtain ⟨S, hS⟩ : ∃ S, strB T = S := ⟨_, rfl⟩
     have hss : S.size = d := by rw [← hS, strB_size, hSz]; omega
     rw [hT, hS]
     have wk : IntKind.i64.wrap ((q : Int) + (d : Int)) = (k : Int) := by rw [IntKind.wrap_i64]; omega
     have own3 := row_keep hown ((q1.b.alloc #[.int .i64 (q : Int), .string S] 95).alloc #[.int .i64 (q : Int), .string S] 95)
     have hlw : ∀ x, (Value.slice ao' ws.length cc).ownBlock = some x → x < w1.heap.size := fun x hx => Nat.lt_of_lt_of_le (hown.lt x hx).2 q1.below.size
     have hbox3 : ((w1.alloc (.cells #[.int .i64 (q : Int), .string S] 95)).alloc (.cells #[.int .i64 (q : Int), .string S] 95)).cell? ⟨w1.heap.size, 1, none⟩ = some (.string S) := ((B.refl (w1.alloc (.cells #[.int .i64 (q : Int), .string S] 95))).alloc _ _).keep (by rw [World.cell?_alloc_new]; rfl)
     have B3 := ((hB.trans q1.b).alloc #[.int .i64 (q : Int), .string S] 95).alloc #[.int .i64 (q : Int), .string S] 95
     have hfl : flatW (ws ++ [(q, T)]) = flatW ws ++ [.int .i64 ((q : Nat) : Int), .string S] := by rw [flatW_snoc, hS]
     have hbw := hB.below.size
     have hq1s := q1.below.size
     have h16 : ws.length ≤ 65536 := by omega
     have HS := Lib.hid (And.intro hscan' (And.intro hqk (And.intro k2 (And.intro hpq (And.intro hws hd)))))
     replace hS := Lib.hid hS
     replace hfl := Lib.hid hfl
     clear hscan hscan' k3 k4 hT hSz cw hat hc hlB hlI HP hl hq hpq hp k1 k2 hqk h hle hcap
     go_wp2_with (at_builtin; refine wpList_append_lies _ rfl _ _ 96 rfl w.heap.size 95 i0 _ 2 24 Tryz.underlying96 hi0 hz0 hz1 hz2 rfl (by omega) (.slice ao' ws.length cc) ws.length (flatW ws) rfl own3 ⟨w1.heap.size + 1, 0, none⟩ 1 1 [.int .i64 (q : Int), .string S] rfl rfl (newest (by simp)) (fun u hu => by simp at hu; rcases hu with rfl | rfl <;> rfl) (by omega) (by unfold maxLen; omega) (by omega) B3.below.size _ rfl ?_; intro gb cp W4 hown4 hgrow hat4 hlt4; have hbox : W4.cell? ⟨w1.heap.size, 1, none⟩ = some (.string S) := (World.cell?_of_block (a := ⟨w1.heap.size, 1, none⟩) (hgrow.block w1.heap.size (by simp; omega) (fun e => by have := hlw _ e.symm; omega))).trans hbox3; have B4 := B3.grownBy hgrow (fun x hx => (hown.lt x hx).1); rw [← hfl.out] at hown4; clear hgrow hat4 hlt4 hbox3 B3 own3 hown hB q1 hlw; go_wp2_with fail)
     go_roundw
     case rel => exact ⟨k, some ⟨gb, 0, none⟩, cp, ws ++ [(q, T)], by have := HS.out; omega, by have := HS.out; omega, by go_num, by simp, by have := HS.out; simp; omega, by simpa using hown4, HS.out.1, B4⟩
     case measure => have := HS.out; simp [intOf]; omega
    ·go_wp2_with fail
     refine (c1 _).mono ?_
     rintro e w1 ⟨rfl, rfl⟩
     clear c1
     go_wp2_with fail
     refine (cw _ hat).mono ?_
     rintro e w1 ⟨⟨k, rfl, k1, k2, k3, k4⟩, q1⟩
     obtain ⟨hSz, hscan', hqk⟩ : (cut bs q k).length = k - q ∧ (∀ out, scan (bs.drop p) p out [] [] false = scan (bs.drop k) k out (ws ++ [(q, cut bs q k)]) [] false) ∧ q < k := by
      obtain ⟨hg, hpart⟩ := HP.out
      have hqk : q < k := by
       rcases Nat.lt_or_ge q k with hh | hh
       ·exact hh
       ·have e : k = q := by omega
        subst e
        rcases k4 with k4 | ⟨x, kx, ky⟩
        ·omega
        ·rw [hg] at kx; cases kx; rw [hpart] at ky; cases ky
      exact ⟨cut_len k1 k2, fun out => (hscan out).trans (scan_whole hqk k2 k3 k4), hqk⟩
     obtain ⟨d, hd⟩ : ∃ d, k = q + d := ⟨k - q, by omega⟩
     obtain ⟨T, hT⟩ : ∃ T, cut bs q k = T := ⟨_, rfl⟩
     rw [hT] at hSz hscan'
     obtain ⟨S, hS⟩ : ∃ S, strB T = S := ⟨_, rfl⟩
     have hss : S.size = d := by rw [← hS, strB_size, hSz]; omega
     rw [hT, hS]
     have wk : IntKind.i64.wrap ((q : Int) + (d : Int)) = (k : Int) := by rw [IntKind.wrap_i64]; omega
     have own3 := row_keep hown ((q1.b.alloc #[.int .i64 (q : Int), .string S] 95).alloc #[.int .i64 (q : Int), .string S] 95)
     have hlw : ∀ x, (Value.slice ao' ws.length cc).ownBlock = some x → x < w1.heap.size := fun x hx => Nat.lt_of_lt_of_le (hown.lt x hx).2 q1.below.size
     have hbox3 : ((w1.alloc (.cells #[.int .i64 (q : Int), .string S] 95)).alloc (.cells #[.int .i64 (q : Int), .string S] 95)).cell? ⟨w1.heap.size, 1, none⟩ = some (.string S) := ((B.refl (w1.alloc (.cells #[.int .i64 (q : Int), .string S] 95))).alloc _ _).keep (by rw [World.cell?_alloc_new]; rfl)
     have B3 := ((hB.trans q1.b).alloc #[.int .i64 (q : Int), .string S] 95).alloc #[.int .i64 (q : Int), .string S] 95
     have hfl : flatW (ws ++ [(q, T)]) = flatW ws ++ [.int .i64 ((q : Nat) : Int), .string S] := by rw [flatW_snoc, hS]
     have hbw := hB.below.size
     have hq1s := q1.below.size
     have h16 : ws.length ≤ 65536 := by omega
     have HS := Lib.hid (And.intro hscan' (And.intro hqk (And.intro k2 (And.intro hpq (And.intro hws hd)))))
     replace hS := Lib.hid hS
     replace hfl := Lib.hid hfl
     clear hscan hscan' k3 k4 hT hSz cw hat hc hlB hlI HP hl hq hpq hp k1 k2 hqk h hle hcap
     go_wp2_with (at_builtin; refine wpList_append_lies _ rfl _ _ 96 rfl w.heap.size 95 i0 _ 2 24 Tryz.underlying96 hi0 hz0 hz1 hz2 rfl (by omega) (.slice ao' ws.length cc) ws.length (flatW ws) rfl own3 ⟨w1.heap.size + 1, 0, none⟩ 1 1 [.int .i64 (q : Int), .string S] rfl rfl (newest (by simp)) (fun u hu => by simp at hu; rcases hu with rfl | rfl <;> rfl) (by omega) (by unfold maxLen; omega) (by omega) B3.below.size _ rfl ?_; intro gb cp W4 hown4 hgrow hat4 hlt4; have hbox : W4.cell? ⟨w1.heap.size, 1, none⟩ = some (.string S) := (World.cell?_of_block (a := ⟨w1.heap.size, 1, none⟩) (hgrow.block w1.heap.size (by simp; omega) (fun e => by have := hlw _ e.symm; omega))).trans hbox3; have B4 := B3.grownBy hgrow (fun x hx => (hown.lt x hx).1); rw [← hfl.out] at hown4; clear hgrow hat4 hlt4 hbox3 B3 own3 hown hB q1 hlw; go_wp2_with fail)
     go_roundw
     case rel => exact ⟨k, some ⟨gb, 0, none⟩, cp, ws ++ [(q, T)], by have := HS.out; omega, by have := HS.out; omega, by go_num, by simp, by have := HS.out; simp; omega, by simpa using hown4, HS.out.1, B4⟩
     case measure => have := HS.out; simp [intOf]; omega
   ·obtain ⟨z1, z2, z3, z4⟩ := kind_zero hK
    have HS := Lib.hid (show ∀ out, scan (bs.drop p) p out [] [] false = ([], q, 24) from fun out => (hscan out).trans (scan_bad hg z1 z2 z3 z4))
    have HB := Lib.hid hB
    obtain ⟨m, hm⟩ : ∃ m, c.toNat = m := ⟨_, rfl⟩
    rw [hm] at hc c1
    clear hg hK ks hscan z1 z2 z3 z4 hm hown hat h hB hle hcap
    go_wp2_with fail
    refine (c1 _).mono ?_
    rintro e w1 ⟨rfl, rfl⟩
    clear c1
    go_wp2
    go_ret3
    exact .inr ⟨q, rfl, HS.out, HB.out⟩
   ·obtain ⟨z1, z2⟩ := kind_five hK
    have HS := Lib.hid (show ∀ out, scan (bs.drop p) p out [] [] false = scan (bs.drop (q + 1)) (q + 1) out ws [] false from fun out => (hscan out).trans (by rw [scan_gap hg z1, flushW_none]))
    have HB := Lib.hid (And.intro hB hown)
    have wk1 : IntKind.i64.wrap ((q : Int) + 1) = (q : Int) + 1 := by rw [IntKind.wrap_i64]; omega
    obtain ⟨m, hm⟩ : ∃ m, c.toNat = m := ⟨_, rfl⟩
    rw [hm] at hc c1
    have HM := Lib.hid (And.intro hl (And.intro hpq hws))
    clear hg hK ks hscan z1 z2 hm hown hat h hB hle hcap hl hpq hws hq
    go_wp2_with fail
    refine (c1 _).mono ?_
    rintro e w1 ⟨rfl, rfl⟩
    clear c1
    go_wp2
    go_roundw
    case rel => exact ⟨q + 1, ao', cc, ws, by have := HM.out; omega, by have := HM.out; omega, by go_num, rfl, by have := HM.out; omega, HB.out.2, HS.out, HB.out.1⟩
    case measure => have := HM.out; simp [intOf]; omega
   ·have z1 := kind_six hK
    have HS := Lib.hid (show ∀ out, scan (bs.drop p) p out [] [] false = scan (bs.drop q) q out ws [] false from hscan)
    have HW := Lib.hid (And.intro (words_own hown rfl) (And.intro (fun x hx => hown.lt x hx) (And.intro hB (And.intro hpq (And.intro hq (show bs.length ≤ q ∨ ∃ c, bs[q]? = some c ∧ c.toNat = 10 from .inr ⟨c, hg, z1⟩))))))
    obtain ⟨m, hm⟩ : ∃ m, c.toNat = m := ⟨_, rfl⟩
    rw [hm] at hc c1
    clear hg hK ks hscan z1 hm hown hat h hB hle hcap hpq hws hq
    go_wp2_with fail
    refine (c1 _).mono ?_
    rintro e w1 ⟨rfl, rfl⟩
    clear c1
    go_wp2
    go_ret3
    exact .inl ⟨q, _, ws, rfl, HW.out.2.2.2.1, HW.out.2.2.2.2.1, HS.out, HW.out.2.2.2.2.2, HW.out.1, HW.out.2.1, HW.out.2.2.1⟩
   ·have z1 := kind_seven hK
    have ce := fun w h => lineEnd_any b o cap q bs w h hl hle (by unfold maxLen; exact hcap)
    have HP := Lib.hid (And.intro hg z1)
    obtain ⟨m, hm⟩ : ∃ m, c.toNat = m := ⟨_, rfl⟩
    rw [hm] at hc c1
    clear hg hK ks z1 hm
    go_wp2_with fail
    refine (c1 _).mono ?_
    rintro e w1 ⟨rfl, rfl⟩
    clear c1
    go_wp2_with fail
    refine (ce _ hat).mono ?_
    rintro e w1 ⟨⟨k, rfl, k1, k2, k3, k4⟩, rfl⟩
    clear ce
    have HS := Lib.hid (show (∀ out, scan (bs.drop p) p out [] [] false = scan (bs.drop k) k out ws [] false) ∧ q < k ∧ k ≤ bs.length ∧ p ≤ q ∧ ws.length ≤ q by
     obtain ⟨hg, hc35⟩ := HP.out
     have hqk : q < k := by
      rcases Nat.lt_or_ge q k with hh | hh
      ·exact hh
      ·have e : k = q := by omega
       subst e
       rcases k4 with k4 | ⟨x, kx, ky⟩
       ·omega
       ·rw [hg] at kx; cases kx; omega
     refine ⟨fun out => (hscan out).trans ?_, hqk, k2, hpq, hws⟩
     rw [scan_hash hg hc35, flushW_none, scan_skip (p := q + 1) (q := k) hqk k2 (fun i h1 h2 => k3 i (by omega) h2), scan_noted k4])
    have HB := Lib.hid (And.intro hB hown)
    clear hscan k3 k4 HP hown hat h hB hle hcap k1 k2 hl hpq hws hq hc
    go_wp2
    go_roundw
    case rel => exact ⟨k, ao', cc, ws, by have := HS.out; omega, HS.out.2.2.1, by go_num, rfl, by have := HS.out; omega, HB.out.2, HS.out.1, HB.out.1⟩
    case measure => have := HS.out; simp [intOf]; omega
  ·have hlB : decide ((q : Int) < (bs.length : Int)) = false := decide_eq_false (by omega)
   have HS := Lib.hid (show ∀ out, scan (bs.drop p) p out [] [] false = scan (bs.drop q) q out ws [] false from hscan)
   have HW := Lib.hid (And.intro (words_own hown rfl) (And.intro (fun x hx => hown.lt x hx) (And.intro hB (And.intro hpq (And.intro hq (show bs.length ≤ q ∨ ∃ c, bs[q]? = some c ∧ c.toNat = 10 from .inl (by omega)))))))
   clear hscan hown h hB hle hcap hpq hws hq
   go_wp2
   go_ret3
   exact .inl ⟨q, _, ws, rfl, HW.out.2.2.2.1, HW.out.2.2.2.2.1, HS.out, HW.out.2.2.2.2.2, HW.out.1, HW.out.2.1, HW.out.2.2.1⟩
end Go.Proofs.YtglniapfnhedoaaGreatDoor
namespace Go.Proofs.YtglniapfnhedoaaGreatDoor
open Go.RowKit
theorem lineInfo : (Tryz.prog.info? 96).map (fun i => (i.zero, i.size, i.bytes)) = some (some (.slice none 0 0), 1, 24) := by kernel_rfl
theorem scan_next {bs : List UInt8} {q : Nat} {out : List (List Wd)} {ws : List Wd} (h : bs.length ≤ q ∨ ∃ c, bs[q]? = some c ∧ c.toNat = 10) : scan (bs.drop q) q out ws [] false = scan (bs.drop (q + 1)) (q + 1) (flushL out ws) [] [] false := by
 rcases h with h | ⟨c, h, hc⟩
 ·rw [scan_end h, scan_end (by omega), flushW_none, flushW_none, flushL_none]
 ·rw [scan_feed h hc, flushW_none]
def LinesRes (bs : List UInt8) (w : World) (e : Ending) (w' : World) : Prop :=
 ∃ v, e = .returned (.tuple #[v, .int .i64 (((linesB bs).2.1 : Nat) : Int), .int .i64 (((linesB bs).2.2 : Nat) : Int)]) ∧ IsLines w' v (linesB bs).1 ∧ B w w'
set_option maxHeartbeats 2000000 in
theorem lines_any (ao : Option Addr) (b o cap : Nat) (bs : List UInt8) (w : World) (h : IsB w ao cap b o bs) :
  Calls Tryz.prog 15 #[.slice ao bs.length cap] w (LinesRes bs w) := by
 have hle := h.le
 have hcap := h.max
 unfold maxLen at hcap
 by_cases hbig : 65536 < bs.length
 ·have hlB : decide ((65536 : Int) < (bs.length : Int)) = true := decide_eq_true (by omega)
  have e : linesB bs = ([], 65536, 27) := if_pos hbig
  unfold LinesRes
  rw [e]
  clear e h hle hcap
  go_enter Tryz.func15, Tryz.ntmps15
  go_wp2
  go_ret3
  exact ⟨_, rfl, .inl ⟨rfl, rfl⟩, B.refl _⟩
 have hlB : decide ((65536 : Int) < (bs.length : Int)) = false := decide_eq_false (by omega)
 have e : linesB bs = scan (bs.drop 0) 0 [] [] [] false := if_neg hbig
 obtain ⟨R, hR⟩ : ∃ R, linesB bs = R := ⟨_, rfl⟩
 have hn : bs.length ≤ 65536 := by omega
 unfold LinesRes
 rw [hR]
 rw [hR] at e
 clear hR hbig
 obtain ⟨i0, hi0, hz0, hz1, hz2⟩ := info_of lineInfo
 go_enter Tryz.func15, Tryz.ntmps15
 go_wp2
 clear hlB
 go_loopw [5, 6] (fun lv av wr => ∃ (p : Nat) (ao' : Option Addr) (c : Nat) (LL : List (List Wd)) (vs : List Value), p ≤ bs.length + 1 ∧ av = .int .i64 p ∧ lv = .slice ao' LL.length c ∧ LL.length ≤ p ∧ LinesO wr w.heap.size 96 (.slice ao' LL.length c) LL vs ∧
   R = scan (bs.drop p) p LL [] [] false ∧ B w wr) (fun _ av _ => bs.length + 2 - (intOf av).toNat)
 case atStart => exact ⟨0, none, 0, [], [], by omega, rfl, rfl, by simp, LinesO.nil _ _ _, e, B.refl _⟩
 case round =>
  obtain ⟨p, ao', cc, LL, vs, hp, rfl, rfl, hLL, hO, hscan, hB⟩ := hrel
  clear e
  by_cases hl : p < bs.length
  ·have hlB : decide ((p : Int) < (bs.length : Int)) = true := decide_eq_true (by omega)
   have hlI : (p : Int) < (bs.length : Int) := by omega
   have cl := line_any ao b o cap p bs wr (h.keep hB) hn (by omega)
   go_wp2_with fail
   refine cl.mono ?_
   clear cl
   rintro e w1 (⟨q, v, ws, rfl, k1, k2, k3, k4, k5, k6, k7⟩ | ⟨q, rfl, k3, k7⟩)
   ·obtain ⟨av, cv, rfl⟩ := k5.form
    have wk : IntKind.i64.wrap ((q : Int) + 1) = (q : Int) + 1 := by rw [IntKind.wrap_i64]; omega
    have hR' : R = scan (bs.drop (q + 1)) (q + 1) (flushL LL ws) [] [] false := by rw [hscan, k3 LL, scan_next k4]
    by_cases hw : ws = []
    ·subst hw
     rw [flushL_none] at hR'
     have HS := Lib.hid (And.intro hR' (And.intro (hO.keep k7) (hB.trans k7)))
     have HM := Lib.hid (And.intro k1 (And.intro k2 (And.intro hLL hl)))
     clear hR' hscan k1 k2 k3 k4 k5 k6 k7 hO hB hl hlB hlI hLL hp
     go_wp2
     go_roundw
     case rel => exact ⟨q + 1, ao', cc, LL, vs, by have := HM.out; omega, by go_num, rfl, by have := HM.out; omega, HS.out.2.1, HS.out.1, HS.out.2.2⟩
     case measure => have := HM.out; simp [intOf]; omega
    ·have hlen : 0 < ws.length := List.length_pos_iff.2 hw
     have hwB : decide ((0 : Int) < (ws.length : Int)) = true := decide_eq_true (by omega)
     rw [flushL_some hw] at hR'
     obtain ⟨g, c2, hv, _, _, hg, _⟩ := k5.full hlen
     obtain ⟨rfl, _, rfl⟩ : av = some ⟨g, 0, none⟩ ∧ True ∧ cv = c2 := by simpa using hv
     have hO2 := (hO.keep k7).keep ((B.refl w1).alloc #[.slice (some ⟨g, 0, none⟩) ws.length cv] 96)
     have own2 := hO2.own
     have hIW : IsWords (w1.alloc (.cells #[.slice (some ⟨g, 0, none⟩) ws.length cv] 96)) (.slice (some ⟨g, 0, none⟩) ws.length cv) ws := k5.keep ((B.refl w1).alloc _ _)
     have B2 := (hB.trans k7).alloc #[.slice (some ⟨g, 0, none⟩) ws.length cv] 96
     have hne : (Value.slice ao' LL.length cc).ownBlock ≠ some g := fun e => by have := (hO.own.lt g e).2; have := (k6 g rfl).1; omega
     have hgb : w.heap.size ≤ g := by have := (k6 g rfl).1; have := hB.below.size; omega
     have h16 : LL.length ≤ 65536 := by omega
     have hb2 := B2.below.size
     have HM := Lib.hid (And.intro k1 (And.intro k2 (And.intro hLL (And.intro hl hg))))
     have HS := Lib.hid (And.intro hR' (And.intro hO2 (And.intro hIW (And.intro hne (And.intro hgb B2)))))
     clear hR' hscan k1 k2 k3 k4 k5 k6 k7 hO hB hl hlB hlI hLL hp hO2 hIW hne hgb B2 hv hw hle hcap
     go_wp2_with (at_builtin; refine wpList_append_lies _ rfl _ _ 48 rfl w.heap.size 96 i0 _ 1 24 Tryz.underlying48 hi0 hz0 hz1 hz2 rfl (by omega) (.slice ao' LL.length cc) LL.length vs rfl own2 ⟨w1.heap.size, 0, none⟩ 1 1 [.slice (some ⟨g, 0, none⟩) ws.length cv] rfl rfl (newest rfl) (fun u hu => by simp at hu; rw [hu]; rfl) (by omega) (by unfold maxLen; omega) (by omega) hb2 _ rfl ?_; intro gb cp W4 hown4 hgrow hat4 hlt4; have hO4 := lines_more HS.out.2.1 hown4 hgrow hat4 HS.out.2.2.1 rfl HS.out.2.2.2.1 (by simp; have := HM.out; omega) HS.out.2.2.2.2.1; have B4 := HS.out.2.2.2.2.2.grownBy hgrow (fun x hx => (own2.lt x hx).1); clear hgrow hat4 hlt4 own2 hown4 hlen hwB; replace hO4 := Lib.hid hO4; go_wp2_with fail)
     go_roundw
     case rel => exact ⟨q + 1, some ⟨gb, 0, none⟩, cp, LL ++ [ws], vs ++ [.slice (some ⟨g, 0, none⟩) ws.length cv], by have := HM.out; omega, by go_num, by simp, by have := HM.out; simp; omega, hO4.out, HS.out.1, B4⟩
     case measure => have := HM.out; simp [intOf]; omega
   ·have HR : R = ([], q, 24) := by rw [hscan, k3]
    have HB := Lib.hid (hB.trans k7)
    subst HR
    clear hscan k3 k7 hB hO
    go_wp2
    go_ret3
    exact ⟨_, rfl, .inl ⟨rfl, rfl⟩, HB.out⟩
  ·have hlB : decide ((p : Int) < (bs.length : Int)) = false := decide_eq_false (by omega)
   have HR : R = (LL, 0, 0) := by rw [hscan, scan_end (by omega), flushW_none, flushL_none]
   have HB := Lib.hid (And.intro hO.is hB)
   subst HR
   clear hscan hB hO
   go_wp2
   go_ret3
   exact ⟨_, rfl, HB.out.1, HB.out.2⟩
end Go.Proofs.YtglniapfnhedoaaGreatDoor
