/-
  The code's text of protocols; The bytes of a constant, in a block of their own; The statements' known of layer 12: its constants; The statements' known of layer 12, walked; The statements' well of a number.
-/
import Derived.Lib.SlBytesConst
import Derived.Lib.Join
import Derived.Test.YthlileddhgglnaaDoorV1
import Derived.Test.YthlileddhgglnaaDoorV2
import Derived.Test.YthlileddhgglnaaDoorV3
import Derived.Test.YthlileddhgglnaaDoorV4
import Derived.Test.YthlileddhgglnaaDoorV5
import Derived.Test.YthlileddhgglnaaDoorV6
import Derived.Test.YthlileddhgglnaaDoorV7
import Derived.Test.YthlileddhgglnaaDoorV8
import Derived.Test.YthlileddhgglnaaDoorV9
import Derived.Test.YthlileddhgglnaaDoorV10
import Derived.Test.YthlileddhgglnaaDoorV11
import Derived.Test.YthlileddhgglnaaDoorV12
import Derived.Test.YthlileddhgglnaaDoorV13
import Derived.Test.YthlileddhgglnaaDoorV14
import Derived.Test.YthlileddhgglnaaDoorV15
import Derived.Test.YthlileddhgglnaaDoorV16
import Derived.Test.YthlileddhgglnaaDoorV17
import Derived.Test.YthlileddhgglnaaDoorV19
import Derived.Test.YthlileddhgglnaaDoorV20
import Derived.Test.YthlileddhgglnaaDoorV21
namespace Go.Proofs.YthlileddhgglnaaDoor
open Go.RowKit
set_option linter.unusedVariables false
theorem t10_at {w w' : World} (h : Lib.TabIs Tryd.prog w "internal/strconv.uint64pow10" .u64 Lib.pow10Tab) (q : B w w') {BB : Nat} (hb : w.heap.size ≤ BB) (hs : BB ≤ w'.heap.size) : T10 BB w' :=
  fun w2 k => Lib.tabBelow_of_tabIs h w2 (q.below.trans (k.mono hb))
theorem lineT_count : ∀ l : List (List UInt8), l.length ≤ (lineT l).length
  | [] => by simp
  | [w] => by simp [lineT]
  | w :: x :: ws => by
    have h := lineT_count (x :: ws)
    show (w :: x :: ws).length ≤ (w ++ 32 :: lineT (x :: ws)).length
    simp only [List.length_append, List.length_cons] at h ⊢
    omega
theorem line_len {s : Sp} (h : stepOk s = true) : (lineT (stepL s)).length ≤ 4975 := by
  obtain ⟨k, n, L, v, m⟩ := s
  have hok : (wellsOk L && stepK ⟨k, n, L, v, m⟩) = true := h
  rw [Bool.and_eq_true] at hok
  have hh := hok.2
  have dl : ∀ x : Int, 0 ≤ x → x ≤ 20000000 → (decI x).length ≤ 20 := fun x h0 h1 => by
    have := decS_size (n := x.toNat) (by omega)
    rw [decS_strB, strB_size] at this
    rwa [show ((x.toNat : Nat) : Int) = x by omega] at this
  unfold stepK inB at hh
  simp only at hh
  split at hh
  · rename_i hk
    subst hk
    simp only [Bool.and_eq_true, decide_eq_true_eq] at hh
    have := name_size hh.1.1.1
    rw [sl_0]
    simp [kindW, kUse]
    have e : n.size = n.data.size := rfl
    omega
  split at hh
  · rename_i _ hk
    subst hk
    simp only [Bool.and_eq_true, Bool.or_eq_true, decide_eq_true_eq] at hh
    rcases hh.2 with rfl | rfl
    · rw [sl_1a]; decide
    · rw [sl_1b]; decide
  split at hh
  · rename_i _ _ hk
    subst hk
    simp only [Bool.and_eq_true, decide_eq_true_eq] at hh
    have h1 := wellsT_len L
    have h2 := dl v (by omega) (by omega)
    have h3 := dl m (by omega) (by omega)
    rw [sl_5]
    simp only [List.length_append, List.length_cons, List.length_nil, show (kindW 5).length = 3 from rfl]
    omega
  split at hh
  · rename_i _ _ _ hk
    simp only [Bool.and_eq_true, Bool.or_eq_true, decide_eq_true_eq] at hh
    have h2 := dl v (by omega) (by omega)
    rcases hk with rfl | rfl | rfl | rfl
    · have h1 := wellsT_len L
      rw [sl_2]
      simp only [List.length_append, List.length_cons, List.length_nil, show (kindW 2).length = 8 from rfl]
      omega
    · have h1 := wellsT_len (L.take 1)
      have h4 := wellsT_len (L.drop 1)
      rw [List.length_take] at h1
      rw [List.length_drop] at h4
      rw [sl_34 (.inl rfl)]
      simp only [List.length_append, List.length_cons, List.length_nil, show (kindW 3).length = 6 from rfl]
      omega
    · have h1 := wellsT_len (L.take 1)
      have h4 := wellsT_len (L.drop 1)
      rw [List.length_take] at h1
      rw [List.length_drop] at h4
      rw [sl_34 (.inr rfl)]
      simp only [List.length_append, List.length_cons, List.length_nil, show (kindW 4).length = 6 from rfl]
      omega
    · have h1 := wellsT_len L
      rw [sl_6]
      simp only [List.length_append, List.length_cons, List.length_nil, show (kindW 6).length = 6 from rfl]
      omega
  · cases hh
theorem lines_len : ∀ {L : List Sp}, (∀ s ∈ L, stepOk s = true) → (L.flatMap fun s => lineT (stepL s)).length ≤ 4975 * L.length
  | [], _ => by simp
  | s :: L, h => by
    have h1 := line_len (h s (List.mem_cons_self ..))
    have h2 := lines_len (L := L) (fun x hx => h x (List.mem_cons_of_mem _ hx))
    rw [List.flatMap_cons, List.length_append, List.length_cons]
    omega
theorem joinTail_flat (ws : List (List UInt8)) : Lib.joinTail [32] ws = ws.flatMap fun x => 32 :: x := by
  unfold Lib.joinTail
  rw [List.flatMap_def]
  rfl
theorem line_join (s : Sp) : lineT (stepL s) = Lib.join (((stepL s).map strB).map (·.data.toList)) [32] ++ [10] := by
  have e : ((stepL s).map strB).map (·.data.toList) = stepL s := by
    rw [List.map_map]
    conv => rhs; rw [← List.map_id (stepL s)]
    apply List.map_congr_left
    intro x _
    rfl
  rw [e]
  show lineT (kindW s.k :: stepW s) = _
  rw [lineT_words, show stepL s = kindW s.k :: stepW s from rfl, Lib.join_cons, joinTail_flat]
set_option maxRecDepth 100000 in
set_option maxHeartbeats 4000000 in
theorem pprint_any (v : Value) (L : List Sp) (w : World) (h : IsSps w v L) (hSI : SpsI L) (htab : Lib.TabIs Tryd.prog w "internal/strconv.uint64pow10" .u64 Lib.pow10Tab) : Calls Tryd.prog 13 #[v] w fun e w' => e = .returned (.string (strB (stepsT L))) ∧ B w w' := by
  have cR := pright_any v L w h hSI
  obtain ⟨ao, ac, rfl⟩ := h.form
  obtain ⟨n, hn⟩ : ∃ n, L.length = n := ⟨_, rfl⟩
  rw [hn] at cR ⊢
  have HN := Lib.hid hn
  have HI := Lib.hid h
  have HT := Lib.hid htab
  clear h hn htab
  cases hRD : stepsOk L with
  | false =>
    rw [hRD] at cR
    have hE : Hid (strB (stepsT L) = ⟨#[]⟩) := Lib.hid (by unfold stepsT; rw [hRD]; rfl)
    clear hRD
    go_enter Tryd.func13, Tryd.ntmps13
    go_wp2_with fail
    refine cR.mono ?_
    rintro _ w2 ⟨rfl, q2⟩
    have HQ := Lib.hid q2
    clear cR q2
    go_wp2
    go_ret
    exact ⟨by rw [hE.out]; rfl, HQ.out⟩
  | true =>
  rw [hRD] at cR
  have hall : (∀ s ∈ L, stepOk s = true) ∧ L.length ≤ 200 := by
    have hR := hRD
    unfold stepsOk at hR
    rw [Bool.and_eq_true, decide_eq_true_eq, List.all_eq_true] at hR
    exact ⟨hR.2, hR.1⟩
  have hE := Lib.hid (show stepsT L = L.flatMap fun s => lineT (stepL s) by unfold stepsT; rw [hRD]; rfl)
  have HA := Lib.hid hall
  clear hRD hall
  go_enter Tryd.func13, Tryd.ntmps13
  go_wp2_with fail
  refine cR.mono ?_
  rintro _ w2 ⟨rfl, q2⟩
  clear cR
  have hB0 := bd_new w2
  have q23 := (B.refl w2).alloc #[.pointer none, .slice none 0 0] 91
  have hW3 := q2.trans q23
  have hBB : w.heap.size ≤ w2.heap.size := q2.below.size
  have hT3 : T10 w2.heap.size (w2.alloc (.cells #[.pointer none, .slice none 0 0] 91)) := t10_at HT.out hW3 hBB q23.below.size
  have hs3 := q23.below.size
  clear q2 q23
  go_wp2_with fail
  generalize w2.alloc (.cells #[.pointer none, .slice none 0 0] 91) = w3 at *
  obtain ⟨BB, hb⟩ : ∃ BB, w2.heap.size = BB := ⟨_, rfl⟩
  rw [hb] at hB0 hBB hT3 hs3 ⊢
  clear hb
  go_loopw [11] (fun iv wr => ∃ i : Nat, i ≤ n ∧ iv = .int .i64 i ∧ Bd BB BB ((L.take i).flatMap fun s => lineT (stepL s)) wr ∧ Tn kBd BB w3 wr) (fun iv _ => n + 1 - (intOf iv).toNat)
  case atStart => exact ⟨0, Nat.zero_le _, rfl, hB0, Tn.refl _ _ _⟩
  case round =>
    clear hB0
    obtain ⟨i, hi, rfl, hBd, hTn⟩ := hrel
    obtain ⟨wo, rfl⟩ : ∃ wo : World, wo = wr := ⟨_, rfl⟩
    have qW := hTn.toB hW3 hBB
    have hsz : ((L.take i).flatMap fun s => lineT (stepL s)).length ≤ 995000 := by
      have h1 := lines_len (L := L.take i) (fun s hs => HA.out.1 s (List.mem_of_mem_take hs))
      have := HA.out.2
      rw [List.length_take] at h1
      omega
    have hs4 : BB ≤ wo.heap.size := Nat.le_trans hs3 hTn.size
    have hn200 : n ≤ 200 := by have := HA.out.2; have := HN.out; omega
    by_cases hl : i < n
    · have hlB : decide ((i : Int) < (n : Int)) = true := decide_eq_true (by omega)
      have hlN : decide (i < n) = true := decide_eq_true hl
      have hlI : (i : Int) < (n : Int) := by omega
      have hi0 : (0 : Int) ≤ (i : Int) := by omega
      have wk1 : IntKind.i64.wrap ((i : Int) + 1) = (i : Int) + 1 := by rw [IntKind.wrap_i64]; omega
      obtain ⟨a, cap, e1, _, _, hr⟩ := (HI.out.keepB qW).at_ (i := i) (by rw [HN.out]; exact hl)
      obtain ⟨rfl, _⟩ : ao = some a ∧ True := by simp at e1; exact ⟨e1.1, trivial⟩
      obtain ⟨F, hF⟩ : ∃ F, L[i]? = some F := ⟨_, List.getElem?_eq_getElem (by rw [HN.out]; exact hl)⟩
      rw [show L[i]'(by rw [HN.out]; exact hl) = F by rw [List.getElem?_eq_getElem (by rw [HN.out]; exact hl)] at hF; simpa using hF] at hr
      have hFm := List.mem_of_getElem? hF
      have hok := HA.out.1 F hFm
      have hI := hSI F hFm
      have hup : (L.take (i + 1)).flatMap (fun s => lineT (stepL s)) = (L.take i).flatMap (fun s => lineT (stepL s)) ++ lineT (stepL F) := take_flat hF
      have hjn := line_join F
      have hll := line_len hok
      obtain ⟨x0, x1, ⟨sv, x2, x5⟩, x3, x4⟩ := hr
      obtain ⟨so, sc, rfl⟩ := x5.form
      have qb : B wo (wo.alloc (.cells #[.int .i64 F.k, .string F.n, .slice so F.w.length sc, .int .i64 F.v, .int .i64 F.m] 47)) := (B.refl _).alloc _ _
      have cL := pline_any F (.slice so F.w.length sc) _ (x5.keepB qb) hI hok BB ((hT3.tn hTn hs3).b qb hs4) (Nat.le_trans hs4 qb.below.size)
      generalize hTX : (L.take i).flatMap (fun s => lineT (stepL s)) = TX at *
      obtain ⟨J, hJ⟩ : ∃ J, Lib.join (((stepL F).map strB).map (·.data.toList)) [32] = J := ⟨_, rfl⟩
      rw [hJ] at hjn
      have hJl : J.length ≤ 4975 := by rw [hjn, List.length_append] at hll; omega
      obtain ⟨xs, hxs⟩ : ∃ xs, (stepL F).map strB = xs := ⟨_, rfl⟩
      rw [hxs] at cL hJ
      have hxl : xs.length ≤ 4975 := by
        rw [← hxs, List.length_map]
        exact Nat.le_trans (lineT_count _) hll
      have HU := Lib.hid (And.intro (hup.trans (by rw [hjn])) (And.intro hl (And.intro (hTn.trans (qb.tn _ _)) (And.intro (hBd.b qb) hsz))))
      have hs5 := Nat.le_trans hs4 qb.below.size
      generalize F.w.length = fl at *
      generalize F.k = fk at *
      generalize F.n = fn at *
      generalize F.v = fv at *
      generalize F.m = fm at *
      clear hup hjn hll hF hFm hok hI e1 hl hi hBd hTn hTX x5 qb qW hs4 hsz hxs
      go_wp2_with fail
      refine (Calls.mono cL ?_)
      rintro _ w5 ⟨u, rfl, ⟨bk, c, rfl, hxc, hbk, hcl⟩, q5⟩
      clear cL
      have cJ := Tryd.strings_Join bk 0 c xs ({ data := #[32] } : ByteArray) w5 (fun j x hx => by rw [Nat.zero_add]; exact hcl j x hx) hbk (Nat.le_trans hxl (by decide)) hxc (by rw [show (({ data := #[32] } : ByteArray)).data.toList = [32] from rfl, hJ]; exact Nat.le_trans hJl (by decide))
      rw [show (({ data := #[32] } : ByteArray)).data.toList = [32] from rfl, hJ] at cJ
      go_wp2_with fail
      refine (Calls.mono cJ ?_)
      rintro _ w6 ⟨rfl, b6⟩
      have q6 : B w5 w6 := ⟨b6⟩
      have hs6 := Nat.le_trans hs5 (Nat.le_trans q5.below.size q6.below.size)
      have cS := wstr_any BB BB TX J w6 ((HU.out.2.2.2.1.b q5).b q6) (by have := HU.out.2.2.2.2; omega) (by omega) hs6
      have t6 := (HU.out.2.2.1.trans (q5.tn _ _)).trans (q6.tn _ _)
      rw [show strB J = (⟨J.toArray⟩ : ByteArray) from rfl] at cS
      clear cJ hcl hxc hbk b6 q5 q6
      go_wp2_with fail
      refine (Calls.mono cS ?_)
      rintro _ w7 ⟨⟨n9, rfl⟩, hBd7, t7⟩
      have cW := wbyte_any BB BB (TX ++ J) 10 w7 hBd7 (by have := HU.out.2.2.2.2; rw [List.length_append]; omega) (Nat.le_trans hs6 t7.size)
      rw [show (((10 : UInt8).toNat : Nat) : Int) = 10 from rfl] at cW
      clear cS
      go_wp2_with fail
      refine (Calls.mono cW ?_)
      rintro _ w8 ⟨rfl, hBd8, t8⟩
      have HZ := Lib.hid (And.intro hBd8 ((t6.trans t7).trans t8))
      clear cW hBd7 hBd8 t6 t7 t8
      go_wp2
      go_roundw
      case rel => exact ⟨i + 1, by have := HU.out.2.1; omega, by go_num, by rw [HU.out.1, ← List.append_assoc]; exact HZ.out.1, HZ.out.2⟩
      case measure => have := HU.out.2.1; simp [intOf]; omega
    · have hlB : decide ((i : Int) < (n : Int)) = false := decide_eq_false (by omega)
      have hlN : decide (i < n) = false := decide_eq_false hl
      rw [List.take_of_length_le (by have := HN.out; omega), ← hE.out] at hBd
      have cG := str_of_any BB BB (stepsT L) wo hBd hs4
      have HQ := Lib.hid (And.intro qW hBB)
      clear hBd hl hi qW hTn hsz
      go_wp2_with fail
      refine (Calls.mono cG ?_)
      rintro _ w9 ⟨rfl, b9⟩
      have HZ := Lib.hid (show B w w9 from ⟨HQ.out.1.below.trans (b9.mono HQ.out.2)⟩)
      clear cG b9
      go_wp2
      go_ret
      exact ⟨rfl, HZ.out⟩
end Go.Proofs.YthlileddhgglnaaDoor

namespace Go.Proofs.YthlileddhgglnaaDoor
open Go.RowKit
theorem B.allocM {a w : World} (h : B a w) (o : Obj) : B a (w.alloc o) := ⟨h.below.alloc h.below.size _⟩
/-- The cells of bytes. -/
def cellsB (bs : List UInt8) : Array Value := (bs.map fun c => Value.int .u8 ((c.toNat : Nat) : Int)).toArray
theorem isB_const (w : World) (bs : List UInt8) (t : TypeId) (fr : Nat × Nat) (h : bs.length ≤ maxLen) : IsB (w.alloc (.cells (cellsB bs) t fr)) (some ⟨w.heap.size, 0, none⟩) bs.length w.heap.size 0 bs := by
  refine ⟨fun i c hc => ?_, fun _ => rfl, Nat.le_refl _, h⟩
  rw [Nat.zero_add, World.cell?_alloc_mark]
  simp [cellsB, hc]
end Go.Proofs.YthlileddhgglnaaDoor

namespace Go.Proofs.YthlileddhgglnaaDoor
open Go.RowKit
set_option linter.unusedVariables false
def k12T : List UInt8 := [117, 115, 101, 32, 116, 10, 109, 105, 120, 32, 112, 46, 65, 49, 32, 49, 48, 48, 32, 51]
def k12S : List Sp := [⟨0, strB [116], [], 0, 0⟩, ⟨5, ⟨#[]⟩, [⟨strB [112], 0, 0⟩], 100, 3⟩]
def k12L : List (List Wd) := (linesB k12T).1
theorem k12_lines : linesB k12T = (k12L, 0, 0) := by kernel_rfl
theorem k12_parse : parseP k12L [] = .ok k12S := by kernel_rfl
theorem k12_places : (placesP k12L).length = 2 := by kernel_rfl
theorem k12_all : (k12L.all fun ws => decide (0 < ws.length) && decide (ws.length ≤ 65536) && ws.all (fun x => decide (x.2.length ≤ 65536))) = true := by kernel_rfl
theorem k12_len : decide (k12L.length ≤ 65536) = true := by kernel_rfl
def k12B : List (List Wd) := [[(4, [109, 105, 120]), (8, [112]), (10, [49]), (12, [49])]]
theorem k12_parseB : parseP k12B [] = .error (8, 26) := by kernel_rfl
theorem k12_right : stepsOk k12S = true := by kernel_rfl
theorem k12_I : SpsI k12S := by
  intro s hs p hp
  rcases List.mem_cons.1 hs with rfl | hs
  · cases hp
  · rw [List.mem_singleton.1 hs] at hp
    rw [List.mem_singleton.1 hp]
    exact ⟨by decide, by decide⟩
def k12P : List UInt8 := [117, 115, 101, 32, 116, 10, 109, 105, 120, 32, 112, 46, 65, 49, 32, 49, 48, 48, 32, 51, 10]
theorem dec1_one {n : Nat} (h : n < 10) : Lib.decDigits n = [UInt8.ofNat (48 + n)] := by rw [Lib.decDigits, dif_pos h]
theorem k12_text : stepsT k12S = k12P := by
  unfold stepsT
  rw [k12_right, if_pos rfl]
  have d1 : decI 1 = [49] := dec1_one (by decide)
  have d3 : decI 3 = [51] := dec1_one (by decide)
  have d100 : decI 100 = [49, 48, 48] := by
    show Lib.decDigits 100 = _
    rw [Lib.decDigits, dif_neg (by decide), show 100 / 10 = 10 from rfl, Lib.decDigits, dif_neg (by decide), show 10 / 10 = 1 from rfl, dec1_one (by decide)]
    rfl
  have hw : wellT ({ data := #[112] } : ByteArray) 0 0 = [112, 46, 65, 49] := by
    unfold wellT
    rw [if_pos ⟨by kernel_rfl, by decide, by decide, by decide, by decide⟩, show (0 : Int) + 1 = 1 from rfl, d1]
    rfl
  show lineT (stepL ⟨0, strB [116], [], 0, 0⟩) ++ (lineT (stepL ⟨5, ⟨#[]⟩, [⟨strB [112], 0, 0⟩], 100, 3⟩) ++ []) = _
  rw [sl_0, sl_5, List.append_nil, d100, d3]
  show kindW 0 ++ [32] ++ [116] ++ [10] ++ (kindW 5 ++ (32 :: wellT ({ data := #[112] } : ByteArray) 0 0 ++ []) ++ [32] ++ [49, 48, 48] ++ [32] ++ [51] ++ [10]) = _
  rw [hw]
  rfl
end Go.Proofs.YthlileddhgglnaaDoor

namespace Go.Proofs.YthlileddhgglnaaDoor
open Go.RowKit
set_option linter.unusedVariables false
def ck12 : Array Value := #[.int .u8 117, .int .u8 115, .int .u8 101, .int .u8 32, .int .u8 116, .int .u8 10, .int .u8 109, .int .u8 105, .int .u8 120, .int .u8 32, .int .u8 112, .int .u8 46, .int .u8 65, .int .u8 49, .int .u8 32, .int .u8 49, .int .u8 48, .int .u8 48, .int .u8 32, .int .u8 51]
theorem ck12_eq : cellsB k12T = ck12 := rfl
theorem isLn_lit12 (w : World) (N M : Nat) (hN : w.heap.size = N) (hM : N + 1 = M) : IsLnO ((w.alloc (.cells #[.int .i64 4, .string ⟨#[109, 105, 120]⟩, .int .i64 8, .string ⟨#[112]⟩, .int .i64 10, .string ⟨#[49]⟩, .int .i64 12, .string ⟨#[49]⟩] 43)).alloc (.cells #[.slice (some ⟨N, 0, none⟩) 4 4] 41)) (.slice (some ⟨M, 0, none⟩) 1 1) k12B := by
  subst hN hM
  have o1 := obj_past (obj_new w (.cells #[.int .i64 4, .string ⟨#[109, 105, 120]⟩, .int .i64 8, .string ⟨#[112]⟩, .int .i64 10, .string ⟨#[49]⟩, .int .i64 12, .string ⟨#[49]⟩] 43)) (.cells #[.slice (some ⟨w.heap.size, 0, none⟩) 4 4] 41)
  have o2 := obj_new (w.alloc (.cells #[.int .i64 4, .string ⟨#[109, 105, 120]⟩, .int .i64 8, .string ⟨#[112]⟩, .int .i64 10, .string ⟨#[49]⟩, .int .i64 12, .string ⟨#[49]⟩] 43)) (.cells #[.slice (some ⟨w.heap.size, 0, none⟩) 4 4] 41)
  rw [show (w.alloc (.cells #[.int .i64 4, .string ⟨#[109, 105, 120]⟩, .int .i64 8, .string ⟨#[112]⟩, .int .i64 10, .string ⟨#[49]⟩, .int .i64 12, .string ⟨#[49]⟩] 43)).heap.size = w.heap.size + 1 by simp] at o2
  refine .inr ⟨_, 0, 1, rfl, by decide, by decide, fun i L hL => ?_⟩
  match i, hL with
  | 0, hL =>
    obtain rfl := Option.some.inj hL
    refine ⟨.slice (some ⟨w.heap.size, 0, none⟩) 4 4, obj_cell o2 0, .inr ⟨w.heap.size, 4, rfl, by decide, by decide, fun k x hx => ?_⟩⟩
    match k, hx with
    | 0, hx =>
      obtain rfl := Option.some.inj hx
      exact ⟨obj_cell o1 0, obj_cell o1 1⟩
    | 1, hx =>
      obtain rfl := Option.some.inj hx
      exact ⟨obj_cell o1 2, obj_cell o1 3⟩
    | 2, hx =>
      obtain rfl := Option.some.inj hx
      exact ⟨obj_cell o1 4, obj_cell o1 5⟩
    | 3, hx =>
      obtain rfl := Option.some.inj hx
      exact ⟨obj_cell o1 6, obj_cell o1 7⟩
    | n + 4, hx => simp at hx
  | n + 1, hL => simp [k12B] at hL
set_option maxRecDepth 100000 in
set_option maxHeartbeats 4000000 in
theorem known12_any (w : World) (htab : Lib.TabIs Tryd.prog w "internal/strconv.uint64pow10" .u64 Lib.pow10Tab) : Calls Tryd.prog 7 #[] w fun e w' => e = .returned (.bool true) ∧ B w w' := by
  have hk1 := Lib.run_convert_bytes_const (P := Tryd.prog) w 28 5 (cellsB k12T) 20 20 Tryd.underlying28 Tryd.underlying5
  have hB1 := (B.refl w).allocM (.cells (cellsB k12T) 5 (20, 21))
  have c1 : Calls Tryd.prog 20 #[.slice (some ⟨w.heap.size, 0, none⟩) 20 20] (w.alloc (.cells (cellsB k12T) 5 (20, 21))) (LinesRes k12T (w.alloc (.cells (cellsB k12T) 5 (20, 21)))) :=
    lines_any (some ⟨w.heap.size, 0, none⟩) w.heap.size 0 20 k12T _ (isB_const w k12T _ _ (by decide))
  rw [ck12_eq] at hk1 hB1 c1
  unfold ck12 at hk1 hB1 c1
  go_enter Tryd.func7, Tryd.ntmps7
  go_wp2_with fail
  refine c1.mono ?_
  unfold LinesRes
  rw [k12_lines]
  rintro e w1 ⟨v, rfl, hv, q1⟩
  clear hk1 c1
  have B1 := hB1.trans q1
  clear hB1 q1
  have hall := k12_all
  rw [List.all_eq_true] at hall
  simp only [Bool.and_eq_true, decide_eq_true_eq, List.all_eq_true] at hall
  have c2 := pparse_any v k12L w1 hv.lnO (of_decide_eq_true k12_len) (fun ws h => (hall ws h).1.2) (fun ws h x hx => (hall ws h).2 x hx)
  clear hall
  go_wp2_with fail
  refine c2.mono ?_
  rintro e w2 (⟨S, sv, ov, hp, rfl, hS, hP, q2⟩ | ⟨p, n, hp, rfl, q2⟩)
  case inr => rw [k12_parse] at hp; cases hp
  rw [k12_parse] at hp
  obtain rfl : k12S = S := by injection hp
  clear c2 hp hv
  have B2 := B1.trans q2
  obtain ⟨so, sc, rfl⟩ := hS.form
  obtain ⟨po, pc, e1⟩ := hP.form
  rw [k12_places] at e1
  obtain rfl : ov = .slice po 2 pc := e1
  clear B1 q2 hP
  have c3 := words12_any _ k12B _ (isLn_lit12 w2 _ _ rfl rfl) (by intro L hL; rw [List.mem_singleton.1 hL]; decide) (by decide) (by intro L hL; rw [List.mem_singleton.1 hL]; decide)
  have B3 := ((B.refl w2).alloc #[.int .i64 4, .string ⟨#[109, 105, 120]⟩, .int .i64 8, .string ⟨#[112]⟩, .int .i64 10, .string ⟨#[49]⟩, .int .i64 12, .string ⟨#[49]⟩] 43).alloc #[.slice (some ⟨w2.heap.size, 0, none⟩) 4 4] 41
  rw [show k12S.length = 2 from rfl]
  go_wp2_with fail
  refine c3.mono ?_
  rintro e w6 ⟨u, vs, rfl, hO, q6⟩
  clear c3
  have c4 := pparse_any u k12B w6 hO.is.lnO (by decide) (by intro L hL; rw [List.mem_singleton.1 hL]; decide) (by intro L hL; rw [List.mem_singleton.1 hL]; decide)
  go_wp2_with fail
  refine c4.mono ?_
  rintro e w7 (⟨S, sv, ov, hp, rfl, _, _, q7⟩ | ⟨p, n, hp, rfl, q7⟩)
  case inl => rw [k12_parseB] at hp; cases hp
  rw [k12_parseB] at hp
  obtain ⟨rfl, rfl⟩ : p = 8 ∧ n = 26 := by injection hp with hp; injection hp with h1 h2; exact ⟨h1.symm, h2.symm⟩
  clear c4 hO hp
  have B27 := (B3.trans q6).trans q7
  have B7 := B2.trans B27
  have hS7 := hS.keepB B27
  obtain ⟨a, cp, e5, _, _, f0, f1, _, f3, f4⟩ := hS7.at_ (i := 1) (by decide)
  obtain rfl : so = some a := by
    simp only [Value.slice.injEq] at e5
    exact e5.1
  have g0 : w7.cell? ⟨a.block, a.off + 5, none⟩ = some (.int .i64 5) := by
    have e := f0
    rw [show a.add (1 * 5) = ⟨a.block, a.off + 5, none⟩ from by unfold Addr.add; rw [if_neg (by decide)], show (k12S[1]).k = 5 from rfl] at e
    exact e
  have g0' : w7.cell? (a.add 5) = some (.int .i64 5) := f0
  have g4 : w7.cell? ⟨a.block, a.off + 5 + 4, none⟩ = some (.int .i64 3) := by
    have e := f4
    rw [show a.add (1 * 5) = ⟨a.block, a.off + 5, none⟩ from by unfold Addr.add; rw [if_neg (by decide)], show (k12S[1]).m = 3 from rfl] at e
    exact e
  have g4' : w7.cell? ⟨(a.add 5).block, (a.add 5).off + 4, none⟩ = some (.int .i64 3) := f4
  have cR := pright_any _ k12S w7 hS7 k12_I
  rw [k12_right, show k12S.length = 2 from rfl] at cR
  have HT := Lib.hid htab
  clear f0 f1 f3 f4 e5 q6 q7 B3 B2 hS B27 htab
  go_wp2_with fail
  refine cR.mono ?_
  rintro _ w9 ⟨rfl, q9⟩
  have B9 := B7.trans q9
  have cP := pprint_any _ k12S w9 (hS7.keepB q9) k12_I (Lib.TabBelow.here ((Lib.tabBelow_of_tabIs HT.out).on B9.below))
  rw [k12_text, show k12S.length = 2 from rfl] at cP
  clear cR hS7 q9 g0 g0' g4 g4'
  go_wp2_with fail
  refine cP.mono ?_
  rintro _ w10 ⟨rfl, q10⟩
  clear cP
  have HB := Lib.hid (B9.trans q10)
  have hstr : ((strB k12P).toList == [117, 115, 101, 32, 116, 10, 109, 105, 120, 32, 112, 46, 65, 49, 32, 49, 48, 48, 32, 51, 10]) = true := by
    rw [strB_lst]
    rfl
  clear B9 B7 q10
  go_wp2
  go_ret
  exact ⟨rfl, HB.out⟩
end Go.Proofs.YthlileddhgglnaaDoor
