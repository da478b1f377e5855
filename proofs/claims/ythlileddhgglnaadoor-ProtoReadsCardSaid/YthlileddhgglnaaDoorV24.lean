/-
  ProtoReads; Arguments opened: a slice of pieces; ProtoReads, over any arguments.
-/
import Derived.Lib.MinMax
import Derived.Deep.DeepCutAuto
import Derived.Test.YthlileddhgglnaaDoorChecked
import Derived.ProofKit
import Derived.OpenShut
import Derived.Deep.Slices
import Derived.ChangeArms
import Derived.Test.YthlileddhgglnaaDoorV1
import Derived.Test.YthlileddhgglnaaDoorV2
import Derived.Test.YthlileddhgglnaaDoorV3
import Derived.Test.YthlileddhgglnaaDoorV4
import Derived.Test.YthlileddhgglnaaDoorV5
import Derived.Test.YthlileddhgglnaaDoorV6
import Derived.Test.YthlileddhgglnaaDoorV7
import Derived.Test.YthlileddhgglnaaDoorV8
import Derived.Test.YthlileddhgglnaaDoorV9
import Derived.Test.YthlileddhgglnaaDoorV10
import Derived.Test.YthlileddhgglnaaDoorV11
import Derived.Test.YthlileddhgglnaaDoorV12
import Derived.Test.YthlileddhgglnaaDoorV13
import Derived.Test.YthlileddhgglnaaDoorV14
import Derived.Test.YthlileddhgglnaaDoorV15
import Derived.Test.YthlileddhgglnaaDoorV16
import Derived.Test.YthlileddhgglnaaDoorV17
import Derived.Test.YthlileddhgglnaaDoorV18
import Derived.Test.YthlileddhgglnaaDoorV19
import Derived.Test.YthlileddhgglnaaDoorV20
import Derived.Test.YthlileddhgglnaaDoorV21
import Derived.Test.YthlileddhgglnaaDoorV22
import Derived.Test.YthlileddhgglnaaDoorV23
import Derived.Test.YthlileddhgglnaaDoorV25
namespace Go.Proofs.YthlileddhgglnaaDoor
open Go.RowKit
set_option linter.unusedVariables false
theorem r8lnI : (Tryd.prog.info? 41).map (fun i => (i.zero, i.size, i.bytes)) = some (some (.slice none 0 0), 1, 24) := by kernel_rfl
theorem r8wdI : (Tryd.prog.info? 43).map (fun i => (i.zero, i.size, i.bytes)) = some (some (.agg #[.int .i64 0, .string .empty]), 2, 24) := by kernel_rfl
def readC (S : ByteArray) : Array Value := #[.string { data := #[117, 115, 101] }, .string { data := #[102, 114, 101, 115, 104] }, .string { data := #[101, 97, 99, 104] }, .string { data := #[116, 114, 97, 110, 115, 102, 101, 114] }, .string { data := #[115, 112, 114, 101, 97, 100] }, .string { data := #[103, 97, 116, 104, 101, 114] }, .string { data := #[109, 105, 120] }, .string { data := #[100, 105, 108, 117, 116, 101] }, .string { data := #[48] }, .string { data := #[50, 49] }, .string { data := #[50, 48, 48, 48, 48, 48, 48, 49] }, .string { data := #[112, 108, 97, 116, 101, 46, 65, 49] }, .string { data := #[116, 117, 98, 101, 46, 65, 50] }, .string { data := #[81] }, .string { data := #[112, 46, 65, 49, 51] }, .string S]
theorem readC_get (S : ByteArray) (hS : S.size ≤ 20) : ∀ j, j < 16 → ∃ t : List UInt8, t.length ≤ 20 ∧ (readC S)[j]? = some (.string (strB t)) := by
  intro j hj
  match j, hj with
  | 0, _ => exact ⟨[117, 115, 101], by decide, rfl⟩
  | 1, _ => exact ⟨[102, 114, 101, 115, 104], by decide, rfl⟩
  | 2, _ => exact ⟨[101, 97, 99, 104], by decide, rfl⟩
  | 3, _ => exact ⟨[116, 114, 97, 110, 115, 102, 101, 114], by decide, rfl⟩
  | 4, _ => exact ⟨[115, 112, 114, 101, 97, 100], by decide, rfl⟩
  | 5, _ => exact ⟨[103, 97, 116, 104, 101, 114], by decide, rfl⟩
  | 6, _ => exact ⟨[109, 105, 120], by decide, rfl⟩
  | 7, _ => exact ⟨[100, 105, 108, 117, 116, 101], by decide, rfl⟩
  | 8, _ => exact ⟨[48], by decide, rfl⟩
  | 9, _ => exact ⟨[50, 49], by decide, rfl⟩
  | 10, _ => exact ⟨[50, 48, 48, 48, 48, 48, 48, 49], by decide, rfl⟩
  | 11, _ => exact ⟨[112, 108, 97, 116, 101, 46, 65, 49], by decide, rfl⟩
  | 12, _ => exact ⟨[116, 117, 98, 101, 46, 65, 50], by decide, rfl⟩
  | 13, _ => exact ⟨[81], by decide, rfl⟩
  | 14, _ => exact ⟨[112, 46, 65, 49, 51], by decide, rfl⟩
  | 15, _ => exact ⟨S.data.toList, by simpa using hS, rfl⟩
  | n + 16, h => omega
set_option maxRecDepth 100000 in
set_option maxHeartbeats 4000000 in
theorem reads12_any (a b c d : Int) (lv tv : Value) (tx : ByteArray) (nt : Nat) (ps : List Pz) (ha : 0 ≤ a ∧ a ≤ 255) (hb : 0 ≤ b ∧ b ≤ 255) (hc : 0 ≤ c ∧ c ≤ 255) (hd : 0 ≤ d ∧ d ≤ 255) (w : World) (hP : IsPzs w lv ps) (hT : IsU16 w tv nt)
    (htab : Lib.TabIs Tryd.prog w "internal/strconv.uint64pow10" .u64 Lib.pow10Tab) :
    Calls Tryd.prog 3 #[.int .u8 a, .int .u8 b, .int .u8 c, .int .u8 d, lv, tv, .string tx] w fun e w' => e = .returned (.bool true) ∧ B w w' := by
  have ck := known12_any w htab
  obtain ⟨po, pc, rfl⟩ := hP.form
  obtain ⟨ta, tc, rfl, hnt⟩ := hT.form
  by_cases hbig : 15 < ps.length ∨ 6 < nt ∨ 20 < tx.size
  · have hor : (decide ((15 : Int) < (ps.length : Int)) = true ∧ decide (15 < ps.length) = true) ∨ (decide ((15 : Int) < (ps.length : Int)) = false ∧ decide (15 < ps.length) = false ∧ decide ((6 : Int) < (nt : Int)) = true ∧ decide (6 < nt) = true) ∨ (decide ((15 : Int) < (ps.length : Int)) = false ∧ decide (15 < ps.length) = false ∧ decide ((6 : Int) < (nt : Int)) = false ∧ decide (6 < nt) = false ∧ decide ((20 : Int) < (tx.size : Int)) = true ∧ decide (20 < tx.size) = true) := by
      by_cases h1 : 15 < ps.length
      · exact .inl ⟨decide_eq_true (by omega), decide_eq_true h1⟩
      · by_cases h2 : 6 < nt
        · exact .inr (.inl ⟨decide_eq_false (by omega), decide_eq_false h1, decide_eq_true (by omega), decide_eq_true h2⟩)
        · exact .inr (.inr ⟨decide_eq_false (by omega), decide_eq_false h1, decide_eq_false (by omega), decide_eq_false h2, decide_eq_true (by omega), decide_eq_true (by omega)⟩)
    clear hbig hT hP
    rcases hor with ⟨g1, g2⟩ | ⟨g1, g2, g3, g4⟩ | ⟨g1, g2, g3, g4, g5, g6⟩
    all_goals
      go_enter Tryd.func3, Tryd.ntmps3
      go_wp2_with fail
      refine ck.mono ?_
      rintro _ w1 ⟨rfl, q1⟩
      go_wp2
      go_ret
      exact ⟨rfl, q1⟩
  have g1 : decide ((15 : Int) < (ps.length : Int)) = false := decide_eq_false (by omega)
  have g2 : decide (15 < ps.length) = false := decide_eq_false (by omega)
  have g3 : decide ((6 : Int) < (nt : Int)) = false := decide_eq_false (by omega)
  have g4 : decide (6 < nt) = false := decide_eq_false (by omega)
  have g5 : decide ((20 : Int) < (tx.size : Int)) = false := decide_eq_false (by omega)
  have g6 : decide (20 < tx.size) = false := decide_eq_false (by omega)
  have hnt6 : nt ≤ 6 := by omega
  have hwb := seat_wares ha hb hc hd
  have hnm : ∀ x ∈ wares7 a b c d, nameS x.n = true := fun x hx => by
    unfold wares7 at hx
    simp only [List.mem_cons, List.not_mem_nil, or_false] at hx
    rcases hx with rfl | rfl
    · exact nameS_plate
    · exact nameS_tube
  have hcnt : 0 < countW (wares7 a b c d) ∧ countW (wares7 a b c d) ≤ 192 := by
    obtain ⟨p1, p2, p3, p4⟩ := hwb _ (List.mem_cons_self ..)
    obtain ⟨t1, t2, t3, t4⟩ := hwb _ (List.mem_cons_of_mem _ (List.mem_cons_self ..))
    have m1 := mul_small (by omega) p2 (by omega) p4
    have m2 := mul_small (by omega) t2 (by omega) t4
    have m3 := Int.mul_le_mul p1 p3 (by omega) (by omega : (0 : Int) ≤ (a / 6 % 3 + 1))
    show 0 < _ * _ + (_ * _ + 0) ∧ _ * _ + (_ * _ + 0) ≤ 192
    omega
  obtain ⟨LL, s1, s2, s3, f2, f3, f4⟩ := seat_read (d := seatD a b c d []) hwb hnm hcnt.1 (ps := ps) (by omega)
  have cD := fun w1 (q : B w w1) => deck_any a b c d _ [] (by simp) ha hb hc hd w1 (isU32s_nil w1)
  have cS := fun w1 (q : B w w1) wv tv fv (hD : IsDk w1 wv tv fv (seatD a b c d [])) => steps_any wv tv fv _ (seatD a b c d []) ps w1 hD (hP.keepB q) hwb (by show (wares7 a b c d).length ≤ 100; show 2 ≤ 100; omega) hcnt.1 (by have := hcnt.2; show countW (wares7 a b c d) ≤ 9600; omega) (by omega)
  generalize seatSteps (seatD a b c d []) ps = SS at *
  generalize seatD a b c d [] = SD at *
  have cT := fun w1 v (h : IsSps w1 v SS) => r8stepsprint_any v SS w1 h
  generalize stepsT SS = T at *
  have HF := Lib.hid (And.intro s3 (And.intro f2 (And.intro f3 f4)))
  have HT := Lib.hid hT
  have hz20 : tx.size ≤ 20 := by omega
  have hcv := fun w2 => Lib.run_convert_string_bytes (P := Tryd.prog) w2 9 28 5 (strB T) Tryd.underlying9 Tryd.underlying28 Tryd.underlying5
  have IB := fun w2 => isB_conv w2 5 T (by omega)
  have b3 := fun w2 => conv_b w2 5 (strB T)
  simp only [strB_size] at hcv IB
  clear hwb hnm hcnt hP hT s3 f2 f3 f4 hbig htab
  go_enter Tryd.func3, Tryd.ntmps3
  go_wp2_with fail
  refine ck.mono ?_
  rintro _ w1 ⟨rfl, q1⟩
  go_wp2_with fail
  refine (cD _ q1).mono ?_
  rintro _ w2 ⟨wv, tv, fv, rfl, hD, q2⟩
  have q12 := q1.trans q2
  have cS1 := cS _ q12 _ _ _ hD
  clear cD ck cS
  go_wp2_with fail
  refine cS1.mono ?_
  rintro _ w3 ⟨sv, rfl, hS, q3⟩
  have q13 := q12.trans q3
  have cT1 := cT _ _ hS
  clear cS1 cT hD
  obtain ⟨so, sc, rfl⟩ := hS.form
  go_wp2_with fail
  refine cT1.mono ?_
  rintro _ w4 ⟨rfl, q4⟩
  clear cT1 hS
  replace hcv := hcv w4
  replace IB := IB w4
  replace b3 := (q13.trans q4).trans (b3 w4)
  clear q1 q2 q3 q4 q12 q13
  generalize grownCap w4 T.length 0 5 = cap at *
  generalize Lib.bytesWorld w4 5 (strB T) = w5 at *
  generalize w4.heap.size = N at *
  have cL := r8lines_any _ _ _ _ T w5 IB
  unfold LinesRes at cL
  rw [s1] at cL
  simp only at cL
  go_wp2_with fail
  refine cL.mono ?_
  rintro _ w6 ⟨v6, rfl, hv6, q6⟩
  have hvl := hv6.lnO
  have q06 := b3.trans q6
  have cA := alike12e_any _ LL w6 hvl (by have := HF.out.2.1; omega) (fun ws hws => by have := HF.out.2.2.1 ws hws; omega) (fun ws hws x hx => by have := HF.out.2.2.2 ws hws x hx; omega)
  clear cL hcv IB b3 q6 hv6 s1 s2
  go_wp2_with fail
  refine cA.mono ?_
  rintro _ w7 ⟨rfl, q7⟩
  clear cA
  obtain ⟨vo, vc, rfl⟩ := hvl.form
  obtain ⟨nl, hnl⟩ : ∃ nl, LL.length = nl := ⟨_, rfl⟩
  rw [hnl] at hvl ⊢
  have HV := Lib.hid hvl
  clear hvl
  have HN := Lib.hid hnl
  clear hnl
  obtain ⟨i0, hi0, hz0, hz1, hz2⟩ := info_of r8lnI
  obtain ⟨i1, hi1, hy0, hy1, hy2⟩ := info_of r8wdI
  have hcW : ∀ j, j < 16 → ∃ t : List UInt8, t.length ≤ 20 ∧ (w7.alloc (.cells (readC tx) 9)).cell? ⟨w7.heap.size, j, none⟩ = some (.string (strB t)) := fun j hj => by
    obtain ⟨t, h1, h2⟩ := readC_get tx hz20 j hj
    exact ⟨t, h1, by rw [World.cell?_alloc_new]; exact h2⟩
  have q8 := (q06.trans q7).alloc (readC tx) 9
  have hV8 := HV.out.keep (q7.alloc (readC tx) 9)
  unfold readC at hcW q8 hV8
  clear q06 q7 HV
  go_wp2_with fail
  generalize w7.alloc (.cells #[.string { data := #[117, 115, 101] }, .string { data := #[102, 114, 101, 115, 104] }, .string { data := #[101, 97, 99, 104] }, .string { data := #[116, 114, 97, 110, 115, 102, 101, 114] }, .string { data := #[115, 112, 114, 101, 97, 100] }, .string { data := #[103, 97, 116, 104, 101, 114] }, .string { data := #[109, 105, 120] }, .string { data := #[100, 105, 108, 117, 116, 101] }, .string { data := #[48] }, .string { data := #[50, 49] }, .string { data := #[50, 48, 48, 48, 48, 48, 48, 49] }, .string { data := #[112, 108, 97, 116, 101, 46, 65, 49] }, .string { data := #[116, 117, 98, 101, 46, 65, 50] }, .string { data := #[81] }, .string { data := #[112, 46, 65, 49, 51] }, .string tx] 9) = w8 at *
  generalize w7.heap.size = N7 at *
  have HW := Lib.hid hcW
  have HQ := Lib.hid q8
  have HI : 1 ≤ nl ∧ nl ≤ 6000 := by have := HF.out.1; have := HF.out.2.1; have := HN.out; omega
  have hFn : ∀ L ∈ LL, FineW 6000 L := fun L hL => ⟨HF.out.2.2.1 L hL, HF.out.2.2.2 L hL⟩
  have HS := Lib.hid (And.intro hV8 (And.intro HN.out hFn))
  clear hcW q8 hV8 hFn HF HN g1 g2 g3 g4 g5 g6
  go_loopw [15, 19] (fun wv iv wr => ∃ (i : Nat) (LQ : List (List Wd)) (ao : Option Addr) (ac : Nat), i ≤ nt ∧ iv = .int .i64 i ∧ wv = .slice ao nl ac ∧ IsLnO wr (.slice ao nl ac) LQ ∧ LQ.length = nl ∧ (∀ L ∈ LQ, FineW (6000 + i) L) ∧ B w8 wr) (fun _ iv _ => nt + 1 - (intOf iv).toNat)
  case atStart => exact ⟨0, LL, vo, vc, Nat.zero_le _, rfl, rfl, by have := HS.out.1; exact this, HS.out.2.1, HS.out.2.2, B.refl _⟩
  case round =>
    obtain ⟨i, LQ, ao, ac, hi, rfl, rfl, hL, hLl, hLf, hB⟩ := hrel
    obtain ⟨wo, rfl⟩ : ∃ wo : World, wo = wr := ⟨_, rfl⟩
    by_cases hl : i < nt
    · have hlB : decide ((i : Int) < (nt : Int)) = true := decide_eq_true (by omega)
      have hlN : decide (i < nt) = true := decide_eq_true hl
      have hlI : (i : Int) < (nt : Int) := by omega
      have hi0' : (0 : Int) ≤ (i : Int) := by omega
      have wk1 : IntKind.i64.wrap ((i : Int) + 1) = (i : Int) + 1 := by rw [IntKind.wrap_i64]; omega
      obtain ⟨ad, cap9, e9, _, _, h9⟩ := HT.out.resolve_left (fun h => by omega)
      obtain ⟨rfl, rfl⟩ : ta = some ad ∧ tc = cap9 := by simpa using e9
      obtain ⟨x, x0, x1, hx⟩ := h9 i hl
      obtain ⟨T9, rfl⟩ := Int.eq_ofNat_of_zero_le x0
      have hx' := (HQ.out.trans hB).keep hx
      have wT : IntKind.i64.wrap (T9 : Int) = (T9 : Int) := by rw [IntKind.wrap_i64]; omega
      have hnl0 : ¬ nl = 0 := by omega
      have hnl0' : ¬ (nl : Int) = 0 := by omega
      obtain ⟨q, hq⟩ : ∃ q, T9 % nl = q := ⟨_, rfl⟩
      have hqN : q < nl := by rw [← hq]; exact Nat.mod_lt _ (by omega)
      have hqT : (T9 : Int).tmod (nl : Int) = (q : Int) := by rw [← hq]; exact (Int.ofNat_tmod T9 nl).symm
      have hqI : (q : Int) < (nl : Int) := by omega
      have hq0 : (0 : Int) ≤ (q : Int) := by omega
      obtain ⟨L, hLq⟩ : ∃ L, LQ[q]? = some L := ⟨_, List.getElem?_eq_getElem (by omega)⟩
      obtain ⟨g, o, cap, u, e1, hu, hWu⟩ := hL.at_ (i := q) (by omega)
      rw [show LQ[q]'(by omega) = L by rw [List.getElem?_eq_getElem (by omega)] at hLq; simpa using hLq] at hWu
      rw [hLl] at e1
      obtain ⟨rfl, rfl⟩ : ao = some ⟨g, o, none⟩ ∧ ac = cap := by simpa using e1
      have hLn := hLf L (List.mem_of_getElem? hLq)
      have hin := hWu.rowIn
      have hl1 := flatW_len L
      have hl2 := flatW_one L
      obtain ⟨ln, hln⟩ : ∃ ln, L.length = ln := ⟨_, rfl⟩
      rw [hln] at hin hl1
      have hln6 : ln ≤ 6006 := by have := hLn.1; omega
      have z1 : ln ≤ maxLen := by unfold maxLen; omega
      have z2 : ln * 24 ≤ 140737488355328 := by omega
      obtain ⟨XS, hXS⟩ : ∃ XS, flatW L = XS := ⟨_, rfl⟩
      rw [hXS] at hin hl1 hl2
      obtain ⟨dd, hdd⟩ : ∃ dd, T9 / 16 = dd := ⟨_, rfl⟩
      have hddT : (T9 : Int).tdiv 16 = (dd : Int) := by rw [← hdd]; exact (Int.ofNat_tdiv T9 16).symm
      have wdd : IntKind.i64.wrap (dd : Int) = (dd : Int) := by rw [IntKind.wrap_i64]; omega
      obtain ⟨m1, hm1⟩ : ∃ m1, max ln 1 = m1 := ⟨_, rfl⟩
      have hm1T : max (ln : Int) 1 = (m1 : Int) := by omega
      have hm0 : ¬ m1 = 0 := by omega
      have hm0' : ¬ (m1 : Int) = 0 := by omega
      obtain ⟨k, hk⟩ : ∃ k, dd % m1 = k := ⟨_, rfl⟩
      have hkN : k < m1 := by rw [← hk]; exact Nat.mod_lt _ (by omega)
      have hkT : (dd : Int).tmod (m1 : Int) = (k : Int) := by rw [← hk]; exact (Int.ofNat_tmod dd m1).symm
      have HK := Lib.hid (And.intro hXS (And.intro hln (And.intro hLn (And.intro hLq (And.intro hLf (And.intro hLl (And.intro hB (And.intro hkN (And.intro hm1 hi)))))))))
      have HL := Lib.hid hL
      have hT9 : T9 ≤ 65535 := by omega
      clear hXS hln hLn hLq hLf hLl hB hi hL e1 e9 h9 hx x0 x1 hWu hkN hm1
      go_upto_block 2 with (at_builtin; refine wpList_copy _ rfl _ _ 41 rfl 43 i1 _ 2 24 Tryd.underlying41 hi1 hy0 hy1 hy2 rfl (by omega) _ rfl rfl ln XS hin hl1 hl2 z1 z2 ?_; intro oN cN w2 hown hq2)
      have hBw : B w8 w2 := HK.out.2.2.2.2.2.2.1.trans hq2
      go_cut [21] (fun xv wx => ∃ (L2 : List Wd) (uo : Option Addr) (uc : Nat), xv = .slice uo L2.length uc ∧ IsWords wx (.slice uo L2.length uc) L2 ∧ FineW (6001 + i) L2 ∧ B wo wx)
      case first =>
        by_cases hz : ln = 0
        · subst hz
          have t0 : (((0 : Nat) : Int) == 0) = true := rfl
          obtain ⟨jw, hjw⟩ : ∃ jw, T9 % 16 = jw := ⟨_, rfl⟩
          have hjwT : (T9 : Int).tmod 16 = (jw : Int) := by rw [← hjw]; exact (Int.ofNat_tmod T9 16).symm
          have hjwI : (jw : Int) < 16 := by omega
          have hjw0 : (0 : Int) ≤ (jw : Int) := by omega
          have hjwN : jw < 16 := by omega
          obtain ⟨t, ht, hct⟩ := HW.out jw hjwN
          obtain ⟨S, hS⟩ : ∃ S, strB t = S := ⟨_, rfl⟩
          rw [hS] at hct
          replace hct := hBw.keep hct
          have qA : B w2 (w2.alloc (.cells #[.int .i64 1, .string S] 43)) := (B.refl _).alloc _ _
          have own2 := row_keep hown qA
          have q2 := hq2.trans qA
          have hb2 : wo.heap.size ≤ (w2.alloc (.cells #[.int .i64 1, .string S] 43)).heap.size := q2.below.size
          have HM := Lib.hid (And.intro hS (And.intro ht (And.intro own2 q2)))
          clear hS ht hown hq2 qA hBw hin hl1 hl2
          go_wp2_with (at_builtin; refine wpList_append_lies _ rfl _ _ 41 rfl wo.heap.size 43 i1 _ 2 24 Tryd.underlying41 hi1 hy0 hy1 hy2 rfl (by omega) (.slice oN 0 cN) 0 XS rfl own2 ⟨w2.heap.size, 0, none⟩ 1 1 [.int .i64 1, .string S] rfl rfl (newest rfl) (by intro u hu; simp only [List.mem_cons, List.not_mem_nil, or_false] at hu; rcases hu with rfl | rfl <;> rfl) (by omega) (by unfold maxLen; omega) (by omega) hb2 _ rfl ?_; intro gb cp W4 hown4 hgrow hat4 hlt4; have HN := Lib.hid (And.intro hown4 (HM.out.2.2.2.grownBy hgrow (fun x hx => (HM.out.2.2.1.lt x hx).1))); clear hown4 hgrow hat4 hlt4 own2 q2 hb2; go_wp2_with fail)
          go_meet
          case rel =>
            have hfl : flatW (L ++ [(1, t)]) = XS ++ [.int .i64 1, .string S] := by rw [flatW_snoc, HK.out.1, HM.out.1]; try rfl
            have hle : (L ++ [(1, t)]).length = 0 + 1 := by rw [List.length_append, HK.out.2.1]; rfl
            refine ⟨L ++ [(1, t)], some ⟨gb, 0, none⟩, cp, by rw [hle], ?_, (HK.out.2.2.1.snoc (by have := HM.out.2.1; show t.length ≤ 6000; omega)).mono (by omega), HN.out.2⟩
            rw [hle]
            exact words_own (by rw [hfl]; exact HN.out.1) hle
        · have t0 : ((ln : Int) == 0) = false := by rw [beq_eq_false_iff_ne]; omega
          by_cases hz5 : T9 % 5 = 0
          · have t5 : (T9 : Int).tmod 5 = 0 := by rw [Int.tmod_eq_emod_of_nonneg (by omega)]; omega
            obtain ⟨d8, hd8⟩ : ∃ d8, T9 / 8 = d8 := ⟨_, rfl⟩
            have hd8T : (T9 : Int).tdiv 8 = (d8 : Int) := by rw [← hd8]; exact (Int.ofNat_tdiv T9 8).symm
            have wd8 : IntKind.i64.wrap (d8 : Int) = (d8 : Int) := by rw [IntKind.wrap_i64]; omega
            obtain ⟨jw, hjw⟩ : ∃ jw, d8 % 16 = jw := ⟨_, rfl⟩
            have hjwT : (d8 : Int).tmod 16 = (jw : Int) := by rw [← hjw]; exact (Int.ofNat_tmod d8 16).symm
            have hjwI : (jw : Int) < 16 := by omega
            have hjw0 : (0 : Int) ≤ (jw : Int) := by omega
            have hjwN : jw < 16 := by omega
            obtain ⟨t, ht, hct⟩ := HW.out jw hjwN
            obtain ⟨S, hS⟩ : ∃ S, strB t = S := ⟨_, rfl⟩
            rw [hS] at hct
            replace hct := hBw.keep hct
            obtain ⟨A9, hA9⟩ : ∃ A9 : Nat, 900 + i = A9 := ⟨_, rfl⟩
            have wk9 : IntKind.i64.wrap (900 + (i : Int)) = (A9 : Int) := by rw [IntKind.wrap_i64]; omega
            clear hA9
            have qA : B w2 (w2.alloc (.cells #[.int .i64 (A9 : Int), .string S] 43)) := (B.refl _).alloc _ _
            have own2 := row_keep hown qA
            have q2 := hq2.trans qA
            have hb2 : wo.heap.size ≤ (w2.alloc (.cells #[.int .i64 (A9 : Int), .string S] 43)).heap.size := q2.below.size
            have HM := Lib.hid (And.intro hS (And.intro ht (And.intro own2 q2)))
            clear hS ht hown hq2 qA hBw hin hl1 hl2
            go_wp2_with (at_builtin; refine wpList_append_lies _ rfl _ _ 41 rfl wo.heap.size 43 i1 _ 2 24 Tryd.underlying41 hi1 hy0 hy1 hy2 rfl (by omega) (.slice oN ln cN) ln XS rfl own2 ⟨w2.heap.size, 0, none⟩ 1 1 [.int .i64 (A9 : Int), .string S] rfl rfl (newest rfl) (by intro u hu; simp only [List.mem_cons, List.not_mem_nil, or_false] at hu; rcases hu with rfl | rfl <;> rfl) (by omega) (by unfold maxLen; omega) (by omega) hb2 _ rfl ?_; intro gb cp W4 hown4 hgrow hat4 hlt4; have HN := Lib.hid (And.intro hown4 (HM.out.2.2.2.grownBy hgrow (fun x hx => (HM.out.2.2.1.lt x hx).1))); clear hown4 hgrow hat4 hlt4 own2 q2 hb2; go_wp2_with fail)
            go_meet
            case rel =>
              have hfl : flatW (L ++ [(A9, t)]) = XS ++ [.int .i64 (A9 : Int), .string S] := by rw [flatW_snoc, HK.out.1, HM.out.1]; try rfl
              have hle : (L ++ [(A9, t)]).length = ln + 1 := by rw [List.length_append, HK.out.2.1]; rfl
              refine ⟨L ++ [(A9, t)], some ⟨gb, 0, none⟩, cp, by rw [hle], ?_, (HK.out.2.2.1.snoc (by have := HM.out.2.1; show t.length ≤ 6000; omega)).mono (by omega), HN.out.2⟩
              rw [hle]
              exact words_own (by rw [hfl]; exact HN.out.1) hle
          · obtain ⟨m5, hm5⟩ : ∃ m5, T9 % 5 = m5 := ⟨_, rfl⟩
            have t5 : (T9 : Int).tmod 5 = (m5 : Int) := by rw [Int.tmod_eq_emod_of_nonneg (by omega)]; omega
            have t50 : ((m5 : Int) == 0) = false := by rw [beq_eq_false_iff_ne]; omega
            have hkln : k < ln := by have h1 := HK.out.2.2.2.2.2.2.2.1; have h2 := HK.out.2.2.2.2.2.2.2.2.1; omega
            obtain ⟨gN, rfl, hgb, hcn⟩ : ∃ gN, oN = some ⟨gN, 0, none⟩ ∧ wo.heap.size ≤ gN ∧ ln ≤ cN := by
              rcases hown.2 with ⟨h0, _⟩ | ⟨g', cap', cur, h0, hb', _, hnc, _⟩
              · simp only [Value.slice.injEq] at h0; omega
              · simp only [Value.slice.injEq] at h0
                obtain ⟨rfl, _, rfl⟩ := h0
                exact ⟨g', rfl, hb', hnc⟩
            clear hm5
            by_cases h51 : m5 = 1
            · subst h51
              have hkc : (k : Int) ≤ (cN : Int) := by omega
              have hc0 : ¬ cN = 0 := by omega
              have hc0' : ¬ (cN : Int) = 0 := by omega
              have hc00 : (0 : Int) ≤ (cN : Int) := by omega
              have hk0 : (0 : Int) ≤ (k : Int) := by omega
              have HM := Lib.hid (And.intro hown (And.intro hq2 hkln))
              clear hown hq2 hBw hin hl1 hl2
              go_wp2_with fail
              go_meet
              case rel =>
                obtain ⟨e1, e2, e3, _⟩ := HK.out
                have hlk : (L.take k).length = k := by rw [List.length_take]; have := HM.out.2.2; omega
                refine ⟨L.take k, some ⟨gN, 0, none⟩, cN, by rw [hlk], ?_, (e3.take k).mono (by omega), HM.out.2.1⟩
                rw [hlk]
                exact words_take (words_own (by rw [e1]; exact HM.out.1) e2) (by have := HM.out.2.2; omega)
            · have t51 : ((m5 : Int) == 1) = false := by rw [beq_eq_false_iff_ne]; omega
              obtain ⟨d8, hd8⟩ : ∃ d8, T9 / 8 = d8 := ⟨_, rfl⟩
              have hd8T : (T9 : Int).tdiv 8 = (d8 : Int) := by rw [← hd8]; exact (Int.ofNat_tdiv T9 8).symm
              have wd8 : IntKind.i64.wrap (d8 : Int) = (d8 : Int) := by rw [IntKind.wrap_i64]; omega
              obtain ⟨jw, hjw⟩ : ∃ jw, d8 % 16 = jw := ⟨_, rfl⟩
              have hjwT : (d8 : Int).tmod 16 = (jw : Int) := by rw [← hjw]; exact (Int.ofNat_tmod d8 16).symm
              have hjwI : (jw : Int) < 16 := by omega
              have hjw0 : (0 : Int) ≤ (jw : Int) := by omega
              have hjwN : jw < 16 := by omega
              obtain ⟨t, ht, hct⟩ := HW.out jw hjwN
              obtain ⟨S, hS⟩ : ∃ S, strB t = S := ⟨_, rfl⟩
              rw [hS] at hct
              replace hct := hBw.keep hct
              have hkI : (k : Int) < (ln : Int) := by omega
              have hk0 : (0 : Int) ≤ (k : Int) := by omega
              obtain ⟨y, hy⟩ : ∃ y, L[k]? = some y := ⟨_, List.getElem?_eq_getElem (by have := HK.out.2.1; omega)⟩
              have c1 := hown.cellAt (k * 2 + 1) (by omega)
              rw [← HK.out.1, (flatW_get L k y hy).2] at c1
              have z9 := hown.frozenAt (k * 2 + 1)
              obtain ⟨r1, _⟩ := hown.stored (k * 2 + 1) (.string S)
              have hset := flatW_set L k y t hy
              rw [HK.out.1, hS] at hset
              rw [← hset] at r1
              have q9 : B wo (w2.setCell ⟨gN, k * 2 + 1, none⟩ (.string S)) := hq2.setCell (p := ⟨gN, k * 2 + 1, none⟩) hgb _
              have HM := Lib.hid (And.intro r1 (And.intro q9 ht))
              clear hS ht hown hq2 hBw hin hl1 hl2 hset r1 q9 hy
              go_wp2_with fail
              go_meet
              case rel =>
                have hle : (L.set k (y.1, t)).length = ln := by rw [List.length_set]; exact HK.out.2.1
                refine ⟨L.set k (y.1, t), some ⟨gN, 0, none⟩, cN, by rw [hle], ?_, (HK.out.2.2.1.set k (by have := HM.out.2.2; show t.length ≤ 6000; omega)).mono (by omega), HM.out.2.1⟩
                rw [hle]
                exact words_own HM.out.1 hle
      case rest =>
        obtain ⟨L2, uo, uc, hx21, hW2, hF2, hq3⟩ := hcut
        subst hx21
        have hLl := HK.out.2.2.2.2.2.1
        have hLc := HL.out.keep hq3
        obtain ⟨us, hus1, hus2, hus3, hus4⟩ := hLc.rowIn
        rw [hLl] at hus1 hus2
        have hus1' : us.length = nl * 1 := by omega
        have z3 : nl ≤ maxLen := by unfold maxLen; omega
        have z4 : nl * 24 ≤ 140737488355328 := by omega
        have HU := Lib.hid (And.intro hus4 (And.intro hW2 (And.intro hF2 (And.intro hq3 hus1))))
        clear hLc hus4 hW2 hF2 hq3 hus1 hown hq2 hBw hin hl1 hl2 hLl hx' hu
        go_wp2_with (
          at_builtin
          refine wpList_copy _ rfl _ _ 25 rfl 41 i0 _ 1 24 Tryd.underlying25 hi0 hz0 hz1 hz2 rfl (by omega) _ rfl rfl nl us hus2 hus1' hus3 z3 z4 ?_
          intro oW cW w3 hownW hq4
          obtain ⟨gW, rfl, hgbW, hcW⟩ : ∃ gW, oW = some ⟨gW, 0, none⟩ ∧ wc.heap.size ≤ gW ∧ nl ≤ cW := by
            rcases hownW.2 with ⟨h0, _⟩ | ⟨g', cap', cur, h0, hb', _, hnc, _⟩
            · simp only [Value.slice.injEq] at h0; omega
            · simp only [Value.slice.injEq] at h0
              obtain ⟨rfl, _, rfl⟩ := h0
              exact ⟨g', rfl, hb', hnc⟩
          obtain ⟨u2, hu2⟩ : ∃ u2, us[q]? = some u2 := ⟨_, List.getElem?_eq_getElem (by omega)⟩
          have c2 := hownW.cellAt q (by omega)
          rw [hu2] at c2
          have z8 := hownW.frozenAt q
          obtain ⟨r2, _⟩ := hownW.stored q (.slice uo L2.length uc)
          have q5 : B wc (w3.setCell ⟨gW, q, none⟩ (.slice uo L2.length uc)) := hq4.setCell (p := ⟨gW, q, none⟩) hgbW _
          obtain ⟨LS, hLS⟩ : ∃ LS, LQ.set q L2 = LS := ⟨_, rfl⟩
          have hIs : IsLnO (w3.setCell ⟨gW, q, none⟩ (.slice uo L2.length uc)) (.slice (some ⟨gW, 0, none⟩) nl cW) LS := by
            subst hLS
            refine lnO_of r2 (by rw [List.length_set]; exact HK.out.2.2.2.2.2.1.symm) (by rw [List.length_set, List.length_set, HU.out.2.2.2.2]; exact HK.out.2.2.2.2.2.1.symm) fun j v' L' h1 h2 => ?_
            by_cases hj : j = q
            · subst hj
              rw [List.getElem?_set_self (by have := HU.out.2.2.2.2; omega)] at h1
              rw [List.getElem?_set_self (by have := HK.out.2.2.2.2.2.1; omega)] at h2
              cases h1
              cases h2
              exact HU.out.2.1.keep q5
            · rw [List.getElem?_set_ne (fun h => hj h.symm)] at h1 h2
              exact (HU.out.1 j v' L' h1 h2).keep q5
          have hFA : ∀ L ∈ LS, FineW (6001 + i) L := fun L hL => by
            subst hLS
            rcases List.mem_or_eq_of_mem_set hL with hL | rfl
            · exact (HK.out.2.2.2.2.1 L hL).mono (by omega)
            · exact HU.out.2.2.1
          have hLSl : LS.length = nl := by rw [← hLS, List.length_set]; exact HK.out.2.2.2.2.2.1
          have cA2 := alike12e_any _ LS _ hIs (by omega) (fun ws hws => by have := (hFA ws hws).1; omega) (fun ws hws x hx => by have := (hFA ws hws).2 x hx; omega)
          have HX := Lib.hid (And.intro hIs (And.intro hFA (And.intro hLSl (((HK.out.2.2.2.2.2.2.1.trans HU.out.2.2.2.1)).trans q5))))
          clear hIs hFA hLSl r2 q5 hLS hq4 hownW hus2 hus3 hu2
          go_wp2_with fail)
        refine cA2.mono ?_
        rintro _ w9 ⟨rfl, q9⟩
        clear cA2
        have HY := Lib.hid q9
        clear q9
        go_wp2
        exact ⟨⟨i + 1, LS, some ⟨gW, 0, none⟩, cW, by omega, by go_num, rfl, HX.out.1.keep HY.out, HX.out.2.2.1, fun L hL => (HX.out.2.1 L hL).mono (by omega), HX.out.2.2.2.trans HY.out⟩, by simp [intOf]; omega⟩
    · have hlB : decide ((i : Int) < (nt : Int)) = false := decide_eq_false (by omega)
      have hlN : decide (i < nt) = false := decide_eq_false hl
      have HZ := Lib.hid (HQ.out.trans hB)
      clear hB hL hLl hLf hl hi
      go_wp2
      go_ret
      exact ⟨rfl, HZ.out⟩
end Go.Proofs.YthlileddhgglnaaDoor

namespace Go.Proofs.YthlileddhgglnaaDoor
open Go.RowKit Go.ChangeShapes Go.WideShapes Go.ChangeAt Go.Deep
instance : Inhabited Pz := ⟨⟨0, 0, 0, 0, 0⟩⟩
def Pz.cells (z : Pz) : List Value := [.int .u8 (z.k : Int), .int .u8 (z.a : Int), .int .u8 (z.b : Int), .int .u8 (z.c : Int), .int .u32 (z.v : Int)]
def Pz.ok (z : Pz) : Prop := z.k < 256 ∧ z.a < 256 ∧ z.b < 256 ∧ z.c < 256 ∧ z.v < 4294967296
theorem u8_n {a : Int} (w : (Lit.int .u8 a).wf = true) : 0 ≤ a ∧ a < 256 := by
  simp [Lit.wf, IntKind.min, IntKind.max, IntKind.signed, IntKind.bits] at w
  omega
theorem u32_n {a : Int} (w : (Lit.int .u32 a).wf = true) : 0 ≤ a ∧ a < 4294967296 := by
  simp [Lit.wf, IntKind.min, IntKind.max, IntKind.signed, IntKind.bits] at w
  omega
set_option maxRecDepth 100000 in
theorem pz_open {H : Type} {enc : TypeId × Value → H} {W : World} {base : Nat} {sp : Nat → Bool} {held : Bool} {fuel : Nat} {cs : List Value} {x : DataW H × List MemPlace}
    (h : DataW.trod enc Tryd.prog W base sp held fuel 73 cs = some x) : ∃ s : Pz, s.ok ∧ cs = s.cells := by
  obtain ⟨xs, n, _, _, hl, hlen, hf⟩ := DataW.trod_struct Tryd.underlying73 h
  rw [show Tryd.prog.cellsOf 73 = 5 by kernel_rfl] at hl
  have c1 : Tryd.prog.cellsOf 5 = 1 := by kernel_rfl
  have c0 : Tryd.prog.cellsOf 71 = 1 := by kernel_rfl
  match xs, hlen, cs, hl with
  | [x0, x1, x2, x3, x4], _, [v0, v1, v2, v3, v4], _ =>
    have f0 : DataW.trod enc Tryd.prog W base sp held n 5 (([v0, v1, v2, v3, v4].drop 0).take (Tryd.prog.cellsOf 5)) = some x0 := hf 0 _ rfl
    have f1 : DataW.trod enc Tryd.prog W base sp held n 5 (([v0, v1, v2, v3, v4].drop 1).take (Tryd.prog.cellsOf 5)) = some x1 := hf 1 _ rfl
    have f2 : DataW.trod enc Tryd.prog W base sp held n 5 (([v0, v1, v2, v3, v4].drop 2).take (Tryd.prog.cellsOf 5)) = some x2 := hf 2 _ rfl
    have f3 : DataW.trod enc Tryd.prog W base sp held n 5 (([v0, v1, v2, v3, v4].drop 3).take (Tryd.prog.cellsOf 5)) = some x3 := hf 3 _ rfl
    have f4 : DataW.trod enc Tryd.prog W base sp held n 71 (([v0, v1, v2, v3, v4].drop 4).take (Tryd.prog.cellsOf 71)) = some x4 := hf 4 _ rfl
    rw [c1] at f0 f1 f2 f3
    rw [c0] at f4
    obtain ⟨a0, e0, _, w0⟩ := DataW.trod_int Tryd.underlying5 f0
    obtain ⟨a1, e1, _, w1⟩ := DataW.trod_int Tryd.underlying5 f1
    obtain ⟨a2, e2, _, w2⟩ := DataW.trod_int Tryd.underlying5 f2
    obtain ⟨a3, e3, _, w3⟩ := DataW.trod_int Tryd.underlying5 f3
    obtain ⟨a4, e4, _, w4⟩ := DataW.trod_int Tryd.underlying71 f4
    simp at e0 e1 e2 e3 e4
    subst e0 e1 e2 e3 e4
    obtain ⟨l0, m0⟩ := u8_n w0
    obtain ⟨l1, m1⟩ := u8_n w1
    obtain ⟨l2, m2⟩ := u8_n w2
    obtain ⟨l3, m3⟩ := u8_n w3
    obtain ⟨l4, m4⟩ := u32_n w4
    obtain ⟨n0, rfl⟩ := Int.eq_ofNat_of_zero_le l0
    obtain ⟨n1, rfl⟩ := Int.eq_ofNat_of_zero_le l1
    obtain ⟨n2, rfl⟩ := Int.eq_ofNat_of_zero_le l2
    obtain ⟨n3, rfl⟩ := Int.eq_ofNat_of_zero_le l3
    obtain ⟨n4, rfl⟩ := Int.eq_ofNat_of_zero_le l4
    exact ⟨⟨n0, n1, n2, n3, n4⟩, ⟨by show n0 < 256; omega, by show n1 < 256; omega, by show n2 < 256; omega, by show n3 < 256; omega, by show n4 < 4294967296; omega⟩, rfl⟩
set_option maxRecDepth 100000 in
theorem open_pzs {H : Type} {enc : TypeId × Value → H} {W : World} {base b0 : Nat} {sp : Nat → Bool} {held : Bool} {r : Reach} {v : Value} {d : DataW H} {p : List MemPlace}
    (hv : Value.okWide Tryd.prog W r b0 22 v) (h : DataW.Trod enc Tryd.prog W base sp held 22 v d p) : ∃ l, IsPzs W v l := by
  obtain ⟨o, len, cap, rfl⟩ := okWide_slice Tryd.underlying22 hv
  obtain ⟨fuel, hf⟩ := h
  rcases open_slice Tryd.underlying22 hf with ⟨hcs, _⟩ | ⟨a, ln, cp, m, n, D, Pl, hcs, _, hl, hm, hmm, _, hx⟩
  · simp [Value.cells] at hcs
    obtain ⟨rfl, rfl, rfl⟩ := hcs
    exact ⟨[], .inl ⟨rfl, rfl⟩⟩
  · simp [Value.cells] at hcs
    obtain ⟨rfl, rfl, rfl⟩ := hcs
    rw [show Tryd.prog.cellsOf 73 = 5 by kernel_rfl] at hx
    have hle : len ≤ m := by rw [hmm]; split <;> omega
    obtain ⟨S, hS⟩ := choose_lt (α := Pz) (n := len) (p := fun i s => s.ok ∧ ∀ j, j < 5 → W.cell? ((a.add (i * 5)).add j) = s.cells[j]?) (fun i hi => by
      obtain ⟨cs', h1, h2⟩ := hx i (by omega)
      obtain ⟨s, hI, rfl⟩ := pz_open h2
      obtain ⟨_, _, h3⟩ := World.cells?_some h1
      exact ⟨s, hI, h3⟩)
    refine ⟨(List.range len).map S, .inr ⟨a, cap, by simp, by simpa using hl, hm, fun i s hs => ?_⟩⟩
    have hi : i < len := by
      have := (List.getElem?_eq_some_iff.1 hs).1
      simpa using this
    have e : s = S i := by
      rw [List.getElem?_map, List.getElem?_range hi] at hs
      simpa using hs.symm
    subst e
    obtain ⟨hI, hc⟩ := hS i hi
    generalize a.add (i * 5) = q at *
    have g0 := hc 0 (by omega)
    have g1 := hc 1 (by omega)
    have g2 := hc 2 (by omega)
    have g3 := hc 3 (by omega)
    have g4 := hc 4 (by omega)
    simp [Addr.add, Pz.cells] at g0 g1 g2 g3 g4
    exact ⟨g0, g1, g2, g3, g4, hI⟩
end Go.Proofs.YthlileddhgglnaaDoor

namespace Go.Proofs.YthlileddhgglnaaDoor
open Go.RowKit
set_option linter.unusedVariables false
theorem reads12_ok (a b c d : Int) (pv : Value) (ps : List Pz) (tv : Value) (nt : Nat) (tx : ByteArray) (wa : (Lit.int .u8 a).wf = true) (wb : (Lit.int .u8 b).wf = true) (wc : (Lit.int .u8 c).wf = true) (wd : (Lit.int .u8 d).wf = true) (w : World) (hP : IsPzs w pv ps) (hT : IsU16 w tv nt)
    (htab : Lib.TabIs Tryd.prog w "internal/strconv.uint64pow10" .u64 Lib.pow10Tab) :
    Calls Tryd.prog 3 #[.int .u8 a, .int .u8 b, .int .u8 c, .int .u8 d, pv, tv, .string tx] w fun e w' => e = .returned (.bool true) ∧ B w w' :=
  reads12_any a b c d pv tv tx nt ps (u8_wf wa) (u8_wf wb) (u8_wf wc) (u8_wf wd) w hP hT htab
end Go.Proofs.YthlileddhgglnaaDoor
