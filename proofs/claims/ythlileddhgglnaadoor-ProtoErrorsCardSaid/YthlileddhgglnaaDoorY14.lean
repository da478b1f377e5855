/-
 Contracts and what they rest on.
-/
import Derived.KernelRfl
import Derived.Lib.ConvBytes
import Derived.Lib.Strings
import Derived.Lib.UnsafeStr
import Derived.Test.YthlileddhgglnaaDoorChecked
import Derived.Test.YthlileddhgglnaaDoorY13
namespace Go.Proofs.YthlileddhgglnaaDoor
open Go.RowKit
set_option linter.unusedVariables false
def k12T : List UInt8 := [117, 115, 101, 32, 116, 10, 109, 105, 120, 32, 112, 46, 65, 49, 32, 49, 48, 48, 32, 51]
def k12S : List Sp := [⟨0, strB [116], [], 0, 0⟩, ⟨5, ⟨#[]⟩, [⟨strB [112], 0, 0⟩], 100, 3⟩]
def k12L : List (List Wd) := (linesB k12T).1
theorem k12_lines : linesB k12T = (k12L, 0, 0) := by kernel_rfl
theorem k12_parse : parseP k12L [] = .ok k12S := by kernel_rfl
theorem k12_places : (placesP k12L).length = 2 := by kernel_rfl
theorem k12_all : (k12L.all fun ws => decide (0 < ws.length) && decide (ws.length ≤ 65536) && ws.all (fun x => decide (x.2.length ≤ 65536))) = true := by kernel_rfl
theorem k12_len : decide (k12L.length ≤ 65536) = true := by kernel_rfl
def k12B : List (List Wd) := [[(4, [109, 105, 120]), (8, [112]), (10, [49]), (12, [49])]]
theorem k12_parseB : parseP k12B [] = .error (8, 26) := by kernel_rfl
theorem k12_right : stepsOk k12S = true := by kernel_rfl
theorem k12_I : SpsI k12S := by
 intro s hs p hp
 rcases List.mem_cons.1 hs with rfl | hs
 ·cases hp
 ·rw [List.mem_singleton.1 hs] at hp
  rw [List.mem_singleton.1 hp]
  exact ⟨by decide, by decide⟩
def k12P : List UInt8 := [117, 115, 101, 32, 116, 10, 109, 105, 120, 32, 112, 46, 65, 49, 32, 49, 48, 48, 32, 51, 10]
theorem dec1_one {n : Nat} (h : n < 10) : Lib.decDigits n = [UInt8.ofNat (48 + n)] := by rw [Lib.decDigits, dif_pos h]
theorem k12_text : stepsT k12S = k12P := by
 unfold stepsT
 rw [k12_right, if_pos rfl]
 have d1 : decI 1 = [49] := dec1_one (by decide)
 have d3 : decI 3 = [51] := dec1_one (by decide)
 have d100 : decI 100 = [49, 48, 48] := by
  show Lib.decDigits 100 = _
  rw [Lib.decDigits, dif_neg (by decide), show 100 / 10 = 10 from rfl, Lib.decDigits, dif_neg (by decide), show 10 / 10 = 1 from rfl, dec1_one (by decide)]
  rfl
 have hw : wellT ({ data := #[112] } : ByteArray) 0 0 = [112, 46, 65, 49] := by
  unfold wellT
  rw [if_pos ⟨by kernel_rfl, by decide, by decide, by decide, by decide⟩, show (0 : Int) + 1 = 1 from rfl, d1]
  rfl
 show lineT (stepL ⟨0, strB [116], [], 0, 0⟩) ++ (lineT (stepL ⟨5, ⟨#[]⟩, [⟨strB [112], 0, 0⟩], 100, 3⟩) ++ []) = _
 rw [sl_0, sl_5, List.append_nil, d100, d3]
 show kindW 0 ++ [32] ++ [116] ++ [10] ++ (kindW 5 ++ (32 :: wellT ({ data := #[112] } : ByteArray) 0 0 ++ []) ++ [32] ++ [49, 48, 48] ++ [32] ++ [51] ++ [10]) = _
 rw [hw]
 rfl
end Go.Proofs.YthlileddhgglnaaDoor
namespace Go.Proofs.YthlileddhgglnaaDoor
open Go.RowKit
set_option linter.unusedVariables false
def ck12 : Array Value := #[.int .u8 117, .int .u8 115, .int .u8 101, .int .u8 32, .int .u8 116, .int .u8 10, .int .u8 109, .int .u8 105, .int .u8 120, .int .u8 32, .int .u8 112, .int .u8 46, .int .u8 65, .int .u8 49, .int .u8 32, .int .u8 49, .int .u8 48, .int .u8 48, .int .u8 32, .int .u8 51]
theorem ck12_eq : cellsB k12T = ck12 := rfl
theorem isLn_lit12 (w : World) (N M : Nat) (hN : w.heap.size = N) (hM : N + 1 = M) : IsLnO ((w.alloc (.cells #[.int .i64 4, .string ⟨#[109, 105, 120]⟩, .int .i64 8, .string ⟨#[112]⟩, .int .i64 10, .string ⟨#[49]⟩, .int .i64 12, .string ⟨#[49]⟩] 43)).alloc (.cells #[.slice (some ⟨N, 0, none⟩) 4 4] 41)) (.slice (some ⟨M, 0, none⟩) 1 1) k12B := by
 subst hN hM
 have o1 := obj_past (obj_new w (.cells #[.int .i64 4, .string ⟨#[109, 105, 120]⟩, .int .i64 8, .string ⟨#[112]⟩, .int .i64 10, .string ⟨#[49]⟩, .int .i64 12, .string ⟨#[49]⟩] 43)) (.cells #[.slice (some ⟨w.heap.size, 0, none⟩) 4 4] 41)
 have o2 := obj_new (w.alloc (.cells #[.int .i64 4, .string ⟨#[109, 105, 120]⟩, .int .i64 8, .string ⟨#[112]⟩, .int .i64 10, .string ⟨#[49]⟩, .int .i64 12, .string ⟨#[49]⟩] 43)) (.cells #[.slice (some ⟨w.heap.size, 0, none⟩) 4 4] 41)
 rw [show (w.alloc (.cells #[.int .i64 4, .string ⟨#[109, 105, 120]⟩, .int .i64 8, .string ⟨#[112]⟩, .int .i64 10, .string ⟨#[49]⟩, .int .i64 12, .string ⟨#[49]⟩] 43)).heap.size = w.heap.size + 1 by simp] at o2
 refine .inr ⟨_, 0, 1, rfl, by decide, by decide, fun i L hL => ?_⟩
 match i, hL with
 | 0, hL =>
  obtain rfl := Option.some.inj hL
  refine ⟨.slice (some ⟨w.heap.size, 0, none⟩) 4 4, obj_cell o2 0, .inr ⟨w.heap.size, 4, rfl, by decide, by decide, fun k x hx => ?_⟩⟩
  match k, hx with
  | 0, hx =>
   obtain rfl := Option.some.inj hx
   exact ⟨obj_cell o1 0, obj_cell o1 1⟩
  | 1, hx =>
   obtain rfl := Option.some.inj hx
   exact ⟨obj_cell o1 2, obj_cell o1 3⟩
  | 2, hx =>
   obtain rfl := Option.some.inj hx
   exact ⟨obj_cell o1 4, obj_cell o1 5⟩
  | 3, hx =>
   obtain rfl := Option.some.inj hx
   exact ⟨obj_cell o1 6, obj_cell o1 7⟩
  | n + 4, hx => simp at hx
 | n + 1, hL => simp [k12B] at hL
set_option maxRecDepth 100000 in
set_option maxHeartbeats 4000000 in
theorem known12_any (w : World) (htab : Lib.TabIs Tryd.prog w "internal/strconv.uint64pow10" .u64 Lib.pow10Tab) : Calls Tryd.prog 7 #[] w fun e w' => e = .returned (.bool true) ∧ B w w' := by
 have hk1 := Lib.run_convert_bytes_const (P := Tryd.prog) w 28 5 (cellsB k12T) 20 20 Tryd.underlying28 Tryd.underlying5
 have hB1 := (B.refl w).allocM (.cells (cellsB k12T) 5 (20, 21))
 have c1 : Calls Tryd.prog 20 #[.slice (some ⟨w.heap.size, 0, none⟩) 20 20] (w.alloc (.cells (cellsB k12T) 5 (20, 21))) (LinesRes k12T (w.alloc (.cells (cellsB k12T) 5 (20, 21)))) :=
  lines_any (some ⟨w.heap.size, 0, none⟩) w.heap.size 0 20 k12T _ (isB_const w k12T _ _ (by decide))
 rw [ck12_eq] at hk1 hB1 c1
 unfold ck12 at hk1 hB1 c1
 go_enter Tryd.func7, Tryd.ntmps7
 go_wp2_with fail
 refine c1.mono ?_
 unfold LinesRes
 rw [k12_lines]
 rintro e w1 ⟨v, rfl, hv, q1⟩
 clear hk1 c1
 have B1 := hB1.trans q1
 clear hB1 q1
 have hall := k12_all
 rw [List.all_eq_true] at hall
 simp only [Bool.and_eq_true, decide_eq_true_eq, List.all_eq_true] at hall
 have c2 := pparse_any v k12L w1 hv.lnO (of_decide_eq_true k12_len) (fun ws h => (hall ws h).1.2) (fun ws h x hx => (hall ws h).2 x hx)
 clear hall
 go_wp2_with fail
 refine c2.mono ?_
 rintro e w2 (⟨S, sv, ov, hp, rfl, hS, hP, q2⟩ | ⟨p, n, hp, rfl, q2⟩)
 case inr => rw [k12_parse] at hp; cases hp
 rw [k12_parse] at hp
 obtain rfl : k12S = S := by injection hp
 clear c2 hp hv
 have B2 := B1.trans q2
 obtain ⟨so, sc, rfl⟩ := hS.form
 obtain ⟨po, pc, e1⟩ := hP.form
 rw [k12_places] at e1
 obtain rfl : ov = .slice po 2 pc := e1
 clear B1 q2 hP
 have c3 := words12_any _ k12B _ (isLn_lit12 w2 _ _ rfl rfl) (by intro L hL; rw [List.mem_singleton.1 hL]; decide) (by decide) (by intro L hL; rw [List.mem_singleton.1 hL]; decide)
 have B3 := ((B.refl w2).alloc #[.int .i64 4, .string ⟨#[109, 105, 120]⟩, .int .i64 8, .string ⟨#[112]⟩, .int .i64 10, .string ⟨#[49]⟩, .int .i64 12, .string ⟨#[49]⟩] 43).alloc #[.slice (some ⟨w2.heap.size, 0, none⟩) 4 4] 41
 rw [show k12S.length = 2 from rfl]
 go_wp2_with fail
 refine c3.mono ?_
 rintro e w6 ⟨u, vs, rfl, hO, q6⟩
 clear c3
 have c4 := pparse_any u k12B w6 hO.is.lnO (by decide) (by intro L hL; rw [List.mem_singleton.1 hL]; decide) (by intro L hL; rw [List.mem_singleton.1 hL]; decide)
 go_wp2_with fail
 refine c4.mono ?_
 rintro e w7 (⟨S, sv, ov, hp, rfl, _, _, q7⟩ | ⟨p, n, hp, rfl, q7⟩)
 case inl => rw [k12_parseB] at hp; cases hp
 rw [k12_parseB] at hp
 obtain ⟨rfl, rfl⟩ : p = 8 ∧ n = 26 := by injection hp with hp; injection hp with h1 h2; exact ⟨h1.symm, h2.symm⟩
 clear c4 hO hp
 have B27 := (B3.trans q6).trans q7
 have B7 := B2.trans B27
 have hS7 := hS.keepB B27
 obtain ⟨a, cp, e5, _, _, f0, f1, _, f3, f4⟩ := hS7.at_ (i := 1) (by decide)
 obtain rfl : so = some a := by
  simp only [Value.slice.injEq] at e5
  exact e5.1
 have g0 : w7.cell? ⟨a.block, a.off + 5, none⟩ = some (.int .i64 5) := by
  have e := f0
  rw [show a.add (1 * 5) = ⟨a.block, a.off + 5, none⟩ from by unfold Addr.add; rw [if_neg (by decide)], show (k12S[1]).k = 5 from rfl] at e
  exact e
 have g0' : w7.cell? (a.add 5) = some (.int .i64 5) := f0
 have g4 : w7.cell? ⟨a.block, a.off + 5 + 4, none⟩ = some (.int .i64 3) := by
  have e := f4
  rw [show a.add (1 * 5) = ⟨a.block, a.off + 5, none⟩ from by unfold Addr.add; rw [if_neg (by decide)], show (k12S[1]).m = 3 from rfl] at e
  exact e
 have g4' : w7.cell? ⟨(a.add 5).block, (a.add 5).off + 4, none⟩ = some (.int .i64 3) := f4
 have cR := pright_any _ k12S w7 hS7 k12_I
 rw [k12_right, show k12S.length = 2 from rfl] at cR
 have HT := Lib.hid htab
 clear f0 f1 f3 f4 e5 q6 q7 B3 B2 hS B27 htab
 go_wp2_with fail
 refine cR.mono ?_
 rintro _ w9 ⟨rfl, q9⟩
 have B9 := B7.trans q9
 have cP := pprint_any _ k12S w9 (hS7.keepB q9) k12_I (Lib.TabBelow.here ((Lib.tabBelow_of_tabIs HT.out).on B9.below))
 rw [k12_text, show k12S.length = 2 from rfl] at cP
 clear cR hS7 q9 g0 g0' g4 g4'
 go_wp2_with fail
 refine cP.mono ?_
 rintro _ w10 ⟨rfl, q10⟩
 clear cP
 have HB := Lib.hid (B9.trans q10)
 have hstr : ((strB k12P).toList == [117, 115, 101, 32, 116, 10, 109, 105, 120, 32, 112, 46, 65, 49, 32, 49, 48, 48, 32, 51, 10]) = true := by
  rw [strB_lst]
  rfl
 clear B9 B7 q10
 go_wp2
 go_ret
 exact ⟨rfl, HB.out⟩
end Go.Proofs.YthlileddhgglnaaDoor
namespace Go.Proofs.YthlileddhgglnaaDoor
open Go.RowKit
def fineL (L : List (List Wd)) : Bool := decide (L.length ≤ 65536) && L.all fun ws => decide (0 < ws.length) && decide (ws.length ≤ 65536) && ws.all (fun x => decide (x.2.length ≤ 65536))
theorem fineL_parts {L : List (List Wd)} (h : fineL L = true) : (∀ ws ∈ L, 0 < ws.length) ∧ L.length ≤ 65536 ∧ (∀ ws ∈ L, ws.length ≤ 65536) ∧ ∀ ws ∈ L, ∀ x ∈ ws, x.2.length ≤ 65536 := by
 unfold fineL at h
 simp only [Bool.and_eq_true, decide_eq_true_eq, List.all_eq_true] at h
 exact ⟨fun ws hw => (h.2 ws hw).1.1, h.1, fun ws hw => (h.2 ws hw).1.2, fun ws hw x hx => (h.2 ws hw).2 x hx⟩
end Go.Proofs.YthlileddhgglnaaDoor
namespace Go.Proofs.YthlileddhgglnaaDoor
open Go.RowKit
set_option linter.unusedVariables false
def pErrTs : List (List UInt8) := [
 [117, 115, 101, 32, 84],
 [117, 115, 101],
 [117, 115, 101, 32, 97, 32, 98],
 [102, 114, 101, 115, 104, 32, 110, 111, 119],
 [116, 114, 97, 110, 115, 102, 101, 114, 32, 112, 46, 65, 49, 32, 112, 46, 65, 50, 32, 48],
 [116, 114, 97, 110, 115, 102, 101, 114, 32, 112, 46, 65, 49, 32, 112, 46, 65, 50],
 [116, 114, 97, 110, 115, 102, 101, 114, 32, 112, 46, 65, 49, 32, 112, 32, 53],
 [115, 112, 114, 101, 97, 100, 32, 112, 46, 65, 49, 32, 53],
 [115, 112, 114, 101, 97, 100, 32, 112, 46, 65, 49, 32, 120, 32, 112, 46, 65, 50],
 [103, 97, 116, 104, 101, 114, 32, 112, 46, 65, 49, 32, 53, 32, 112, 46, 73, 50],
 [109, 105, 120, 32, 112, 46, 65, 49, 32, 53, 32, 50, 49],
 [109, 105, 120, 32, 112, 46, 65, 49, 32, 50, 48, 48, 48, 48, 48, 48, 49, 32, 50],
 [100, 105, 108, 117, 116, 101, 32, 53, 32, 112, 46, 65, 49],
 [100, 105, 108, 117, 116, 101, 32, 48, 32, 112, 46, 65, 49, 32, 112, 46, 65, 50],
 [103, 111, 32, 112, 46, 65, 49],
 [102, 114, 101, 115, 104, 32, 101, 97, 99, 104, 32, 111, 110, 99, 101]]
def pErrUp (s : List UInt8) : List UInt8 := [102, 114, 101, 115, 104, 32, 101, 97, 99, 104, 10] ++ s
def pErrT (k n : Nat) : List UInt8 := match n with
 | 0 => pErrTs.getD k []
 | n + 1 => pErrUp (pErrT k n)
def errP (L : List (List Wd)) : Bool := match parseP L [] with
 | .error _ => true
 | .ok _ => false
def pErrOk (k n : Nat) : Bool := fineL (linesB (pErrT k n)).1 && errP (linesB (pErrT k n)).1 && decide ((pErrT k n).length ≤ 200)
theorem pErr_all : ((List.range 16).all fun k => (List.range 4).all fun n => pErrOk k n) = true := by kernel_rfl
theorem pErr_ok {k n : Nat} (hk : k < 16) (hn : n < 4) : pErrOk k n = true := by
 have h := pErr_all
 rw [List.all_eq_true] at h
 have h2 := h k (List.mem_range.2 hk)
 rw [List.all_eq_true] at h2
 exact h2 n (List.mem_range.2 hn)
end Go.Proofs.YthlileddhgglnaaDoor
namespace Go.Proofs.YthlileddhgglnaaDoor
open Go.RowKit
theorem conv_b (w : World) (e : TypeId) (s : ByteArray) : B w (Lib.bytesWorld w e s) :=
 ⟨Lib.below_freeze (((B.refl w).drew.alloc _ _).below) (p := ⟨w.heap.size, _, none⟩) (Nat.le_refl _) _⟩
theorem isB_conv (w : World) (e : TypeId) (T : List UInt8) (h : T.length ≤ 1000000) : IsB (Lib.bytesWorld w e (strB T)) (some ⟨w.heap.size, 0, none⟩) (grownCap w (strB T).size 0 e) w.heap.size 0 T := by
 have hz : (strB T).size = T.length := strB_size T
 refine ⟨fun i c hc => ?_, fun _ => rfl, ?_, grownCap_le_maxLen _ _ _ _ (by rw [hz]; unfold maxLen; omega)⟩
 ·have hi : i < T.length := (List.getElem?_eq_some_iff.1 hc).1
  rw [Nat.zero_add, Lib.bytesWorld_cell w e (strB T) i (by rw [hz]; exact hi)]
  have : (strB T).data.toList.getD i 0 = c := by
   show T.getD i 0 = c
   rw [List.getD_eq_getElem?_getD, hc]
   rfl
  rw [this]
 ·rw [← hz]
  exact grownCap_ge _ _ _ _
end Go.Proofs.YthlileddhgglnaaDoor
namespace Go.Proofs.YthlileddhgglnaaDoor
open Go.RowKit
set_option linter.unusedVariables false
def pManyT (wells : Bool) : Nat → List UInt8
 | 0 => if wells then [115, 112, 114, 101, 97, 100, 32, 112, 46, 65, 49, 32, 53] else []
 | i + 1 => pManyT wells i ++ (if wells then [32, 112, 46, 65, 50] else [102, 114, 101, 115, 104, 32, 111, 110, 99, 101, 10])
def pManyRes (ok : Bool) (L : List (List Wd)) : Bool := match parseP L [] with
 | .ok _ => ok
 | .error (_, n) => !ok && decide (n = 27)
def pManyOk (ok wells : Bool) (i : Nat) : Bool := fineL (linesB (pManyT wells i)).1 && pManyRes ok (linesB (pManyT wells i)).1
theorem pMany_len : ∀ (wells : Bool) (i : Nat), (pManyT wells i).length ≤ 13 + 11 * i
 | true, 0 => by decide
 | false, 0 => by decide
 | true, i + 1 => by
  have h := pMany_len true i
  show (pManyT true i ++ [32, 112, 46, 65, 50]).length ≤ _
  rw [List.length_append]
  simp only [List.length_cons, List.length_nil]
  omega
 | false, i + 1 => by
  have h := pMany_len false i
  show (pManyT false i ++ [102, 114, 101, 115, 104, 32, 111, 110, 99, 101, 10]).length ≤ _
  rw [List.length_append]
  simp only [List.length_cons, List.length_nil]
  omega
theorem pMany_w : ((List.range 5).all fun m => pManyOk (decide (94 + m ≤ 96)) true (93 + m)) = true := by kernel_rfl
theorem pMany_f : ((List.range 5).all fun m => pManyOk (decide (198 + m ≤ 200)) false (198 + m)) = true := by kernel_rfl
theorem pMany_wok {m : Nat} (h : m < 5) : pManyOk (decide (94 + m ≤ 96)) true (93 + m) = true := by
 have h2 := pMany_w
 rw [List.all_eq_true] at h2
 exact h2 m (List.mem_range.2 h)
theorem pMany_fok {m : Nat} (h : m < 5) : pManyOk (decide (198 + m ≤ 200)) false (198 + m) = true := by
 have h2 := pMany_f
 rw [List.all_eq_true] at h2
 exact h2 m (List.mem_range.2 h)
end Go.Proofs.YthlileddhgglnaaDoor
