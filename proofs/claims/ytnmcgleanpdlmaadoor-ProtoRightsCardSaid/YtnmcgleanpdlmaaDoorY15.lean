/-
  The builder: copyCheck, WriteByte, WriteString, walked at this program; Numbers as text: strconv's FormatInt, over a table that nothing below has turned; The code's words of a step; The code's text of protocols.
-/
import Derived.Lib.AppendIntMem
import Derived.Lib.Builder
import Derived.Lib.AppendStr
import Derived.Lib.UnsafeStr
import Derived.Laws.Externs
import Derived.Lib.Join
import Derived.Test.YtnmcgleanpdlmaaDoorY1
import Derived.Test.YtnmcgleanpdlmaaDoorY2
import Derived.Test.YtnmcgleanpdlmaaDoorY3
import Derived.Test.YtnmcgleanpdlmaaDoorY4
import Derived.Test.YtnmcgleanpdlmaaDoorY5
import Derived.Test.YtnmcgleanpdlmaaDoorY6
import Derived.Test.YtnmcgleanpdlmaaDoorY7
import Derived.Test.YtnmcgleanpdlmaaDoorY9
import Derived.Test.YtnmcgleanpdlmaaDoorY10
import Derived.Test.YtnmcgleanpdlmaaDoorY11
import Derived.Test.YtnmcgleanpdlmaaDoorY12
import Derived.Test.YtnmcgleanpdlmaaDoorY13
import Derived.Test.YtnmcgleanpdlmaaDoorY14
namespace Go.Proofs.YtnmcgleanpdlmaaDoor
open Go.RowKit
set_option linter.unusedVariables false
/-- The kinds of blocks that a builder's writes turn. -/
def kBd : List (Option TypeId) := [some 77, some 5]
/-- A builder of this call's own that holds the bytes l. -/
def Bd (BB b : Nat) (l : List UInt8) (w : World) : Prop := Lib.IsBuilder 77 5 BB b (Lib.byteCells l) w
theorem pb_und : Tryd.prog.underlying 75 = some (.pointer 77) := by kernel_rfl
theorem pu_und : Tryd.prog.underlying 120 = some .unsafePointer := by kernel_rfl
theorem sb_size : (Tryd.prog.info? 77).map (·.size) = some 2 := by kernel_rfl
theorem sb_lies : liesAt Tryd.prog Tryd.prog.depth 77 (2 / Tryd.prog.cellsOf 77) 0 77 1 = true := by kernel_rfl
theorem u8_info3 : (Tryd.prog.info? 5).map (fun i => (i.zero, i.size, i.bytes)) = some (some (.int .u8 0), 1, 1) := by kernel_rfl
theorem u8s_und : Tryd.prog.underlying 43 = some (.slice 5) := by kernel_rfl
theorem str_und : Tryd.prog.underlying 9 = some .string := by kernel_rfl
set_option maxHeartbeats 1000000 in
set_option maxRecDepth 100000 in
theorem check_used (b : Nat) (w : World) (h0 : w.cell? ⟨b, 0, none⟩ = some (.pointer (some ⟨b, 0, none⟩))) :
    Calls Tryd.prog 36 #[.pointer (some ⟨b, 0, none⟩)] w fun e w' => e = .returned (.tuple #[]) ∧ w' = w := by
  obtain ⟨j, hj, _⟩ := Option.map_eq_some_iff.1 sb_size
  go_enter Tryd.func36, Tryd.ntmps36
  go_wp2
  rw [Lib.run_neq_ptr_same w _ pb_und hj]
  go_wp2
  go_end0
  exact ⟨rfl, rfl⟩
set_option maxHeartbeats 1000000 in
set_option maxRecDepth 100000 in
theorem check_fresh (b : Nat) (w : World) (h0 : w.cell? ⟨b, 0, none⟩ = some (.pointer none)) (hsh : w.shape? b = some (77, 2)) (hfz : w.frozen? ⟨b, 0, none⟩ = false) :
    Calls Tryd.prog 36 #[.pointer (some ⟨b, 0, none⟩)] w fun e w' => e = .returned (.tuple #[]) ∧ w' = w.setCell ⟨b, 0, none⟩ (.pointer (some ⟨b, 0, none⟩)) := by
  obtain ⟨j, hj, hjs⟩ := Option.map_eq_some_iff.1 sb_size
  go_enter Tryd.func36, Tryd.ntmps36
  go_wp2
  rw [Lib.run_to_unsafe w ⟨b, 0, none⟩ pb_und pu_und hj (by rw [hjs]; decide) hsh (Nat.zero_lt_succ 1)]
  simp only [Result.andThen]
  rw [Oper.upon_value]
  go_wp2
  rw [run_callFunc_extern Tryd.func55 (by kernel_rfl) (by kernel_rfl) (by kernel_rfl) (e := Extern.AbiNoEscape.same) (by kernel_rfl)]
  rw [Lib.run_noEscape]
  simp only [Result.andThen]
  rw [Oper.upon_value]
  go_wp2
  rw [Lib.run_from_unsafe w ⟨b, 0, none⟩ pu_und pb_und hj hsh sb_lies]
  simp only [Result.andThen]
  rw [Oper.upon_value]
  go_wp2
  go_end0
  exact ⟨rfl, rfl⟩
theorem check_any (BB b : Nat) (bs : List Value) (w : World) (h : Lib.IsBuilder 77 5 BB b bs w) :
    Calls Tryd.prog 36 #[.pointer (some ⟨b, 0, none⟩)] w fun e w' => e = .returned (.tuple #[]) ∧ (Lib.BuilderAt 77 5 BB b (.pointer (some ⟨b, 0, none⟩)) bs w' ∧ Tn kBd BB w w') := by
  rcases h with h | h
  · refine (check_fresh b w h.cell0 h.shape h.frozen0).mono ?_
    rintro e w' ⟨rfl, rfl⟩
    obtain ⟨v, hv, _⟩ := h.2
    exact ⟨rfl, h.used _, (Tn.refl kBd BB w).set (p := ⟨b, 0, none⟩) hv (by decide) h.1 _⟩
  · refine (check_used b w h.cell0).mono ?_
    rintro e w' ⟨rfl, rfl⟩
    exact ⟨rfl, h, Tn.refl kBd BB _⟩
set_option maxHeartbeats 2000000 in
set_option maxRecDepth 100000 in
theorem wbyte_any (BB b : Nat) (l : List UInt8) (c : UInt8) (w : World) (h : Bd BB b l w) (hlen : l.length ≤ 1000000) (hBw : BB ≤ w.heap.size) :
    Calls Tryd.prog 24 #[.pointer (some ⟨b, 0, none⟩), .int .u8 c.toNat] w fun e w' => e = .returned .nilIface ∧ (Bd BB b (l ++ [c]) w' ∧ Tn kBd BB w w') := by
  obtain ⟨bs, hbs⟩ : ∃ bs, Lib.byteCells l = bs := ⟨_, rfl⟩
  have hbl : bs.length ≤ 1000000 := by rw [← hbs, Lib.byteCells_length]; exact hlen
  have hgoal : Lib.byteCells (l ++ [c]) = bs ++ [.int .u8 c.toNat] := by rw [Lib.byteCells_append, hbs]; rfl
  unfold Bd at h ⊢
  rw [hgoal]
  rw [hbs] at h
  obtain ⟨cv, hcv⟩ : ∃ cv : Int, (c.toNat : Int) = cv := ⟨_, rfl⟩
  rw [hcv]
  clear hcv hgoal hbs hlen
  obtain ⟨i0, hi, hz0, hz1, hz2⟩ := info_parts u8_info3
  go_enter Tryd.func24, Tryd.ntmps24
  go_wp2_with fail
  refine (check_any BB b bs _ h).mono ?_
  rintro e w1 ⟨rfl, h1, hb1⟩
  obtain ⟨hB, v, hbk, hown, hne⟩ := h1
  have c0 : w1.cell? ⟨b, 0, none⟩ = some (.pointer (some ⟨b, 0, none⟩)) := by rw [Lib.cell_of_heap hbk]; rfl
  have c1 : w1.cell? ⟨b, 1, none⟩ = some v := by rw [Lib.cell_of_heap hbk]; rfl
  go_wp2_with (at_builtin; refine wpList_append_own _ rfl _ _ 43 rfl BB 5 i0 (.int .u8 0) 1 1 u8s_und hi hz0 hz1 hz2 rfl (by decide) _ _ _ rfl (hown.alloc _) ⟨w1.heap.size, 0, none⟩ 1 1 [.int .u8 cv] rfl rfl ?c1 ?c2 ?c3 ?c4 ?c5 ?_)
  case c1 =>
    intro j u hj
    match j, hj with
    | 0, hj => simp at hj; subst hj; simp [Addr.add]
  case c2 => intro u hu; simp at hu; subst hu; rfl
  case c3 => unfold maxLen; omega
  case c4 => omega
  case c5 => have := hb1.size; simp; omega
  intro v' w2 hown' hgrow _
  have hlt : b < w1.heap.size := by
    rcases Nat.lt_or_ge b w1.heap.size with h' | h'
    · exact h'
    · simp [Array.getElem?_eq_none h'] at hbk
  have hb2 : w2.heap[b]? = some (.cells #[.pointer (some ⟨b, 0, none⟩), v] 77 (0, 0)) := by
    rw [hgrow.block b (by simp; omega) (fun e => hne e.symm), Lib.alloc_old w1 _ b hlt]
    exact hbk
  have d0 : w2.cell? ⟨b, 0, none⟩ = some (.pointer (some ⟨b, 0, none⟩)) := by rw [Lib.cell_of_heap hb2]; rfl
  have d1 : w2.cell? ⟨b, 1, none⟩ = some v := by rw [Lib.cell_of_heap hb2]; rfl
  have f1 : w2.frozen? ⟨b, 1, none⟩ = false := Lib.frozen_of_heap hb2 1
  obtain ⟨g, cap, rfl⟩ : ∃ g cap, v' = .slice (some ⟨g, 0, none⟩) (bs.length + 1) cap := by
    rcases hown'.2 with ⟨_, h0⟩ | ⟨g, cap, cur, hv, _⟩
    · omega
    · exact ⟨g, cap, hv⟩
  go_wp2
  go_ret
  refine ⟨rfl, .inr ?_, ?_⟩
  · exact Lib.BuilderAt.put (T := 77) (e := 5) hB hb2 (bs' := bs ++ [.int .u8 cv]) (by simpa using hown') (by decide)
  · exact ((hb1.alloc _ _).appended (hown.alloc _) hgrow (Nat.le_refl _) (by decide)).set (p := ⟨b, 1, none⟩) hb2 (by decide) hB _
set_option maxHeartbeats 2000000 in
set_option maxRecDepth 100000 in
theorem wstr_any (BB b : Nat) (l l2 : List UInt8) (w : World) (h : Bd BB b l w) (hlen : l.length ≤ 1000000) (hl2 : l2.length ≤ 1000000) (hBw : BB ≤ w.heap.size) :
    Calls Tryd.prog 21 #[.pointer (some ⟨b, 0, none⟩), .string (strB l2)] w fun e w' => (∃ n, e = .returned (.tuple #[.int .i64 n, .nilIface])) ∧ (Bd BB b (l ++ l2) w' ∧ Tn kBd BB w w') := by
  obtain ⟨bs, hbs⟩ : ∃ bs, Lib.byteCells l = bs := ⟨_, rfl⟩
  have hbl : bs.length ≤ 1000000 := by rw [← hbs, Lib.byteCells_length]; exact hlen
  have hs2 : (strB l2).size ≤ 1000000 := by rw [strB_size]; exact hl2
  have hgoal : Lib.byteCells (l ++ l2) = bs ++ Lib.strCells (strB l2) := by rw [Lib.byteCells_append, hbs, Lib.strCells_eq]; rfl
  unfold Bd at h ⊢
  rw [hgoal]
  rw [hbs] at h
  clear hgoal hbs hlen hl2
  generalize strB l2 = s at *
  obtain ⟨i0, hi, hz0, hz1, hz2⟩ := info_parts u8_info3
  go_enter Tryd.func21, Tryd.ntmps21
  go_wp2_with fail
  refine (check_any BB b bs _ h).mono ?_
  rintro e w1 ⟨rfl, h1, hb1⟩
  obtain ⟨hB, v, hbk, hown, hne⟩ := h1
  have c0 : w1.cell? ⟨b, 0, none⟩ = some (.pointer (some ⟨b, 0, none⟩)) := by rw [Lib.cell_of_heap hbk]; rfl
  have c1 : w1.cell? ⟨b, 1, none⟩ = some v := by rw [Lib.cell_of_heap hbk]; rfl
  go_wp2_with (at_builtin; refine Lib.wpList_append_own_string _ rfl _ _ 43 9 rfl BB 5 i0 u8s_und str_und hi hz0 hz1 hz2 _ _ _ rfl hown s rfl ?c3 ?c4 ?c5 ?_)
  case c3 => unfold maxLen; omega
  case c4 => omega
  case c5 => have := hb1.size; omega
  intro v' w2 hown' hgrow _
  have hlt : b < w1.heap.size := by
    rcases Nat.lt_or_ge b w1.heap.size with h' | h'
    · exact h'
    · simp [Array.getElem?_eq_none h'] at hbk
  have hb2 : w2.heap[b]? = some (.cells #[.pointer (some ⟨b, 0, none⟩), v] 77 (0, 0)) := by
    rw [hgrow.block b hlt (fun e => hne e.symm)]
    exact hbk
  have d0 : w2.cell? ⟨b, 0, none⟩ = some (.pointer (some ⟨b, 0, none⟩)) := by rw [Lib.cell_of_heap hb2]; rfl
  have d1 : w2.cell? ⟨b, 1, none⟩ = some v := by rw [Lib.cell_of_heap hb2]; rfl
  have f1 : w2.frozen? ⟨b, 1, none⟩ = false := Lib.frozen_of_heap hb2 1
  obtain ⟨ao, n', cap, rfl⟩ : ∃ ao n' cap, v' = .slice ao n' cap := by
    rcases hown'.2 with ⟨hv, _⟩ | ⟨g, cap, cur, hv, _⟩
    · exact ⟨_, _, _, hv⟩
    · exact ⟨_, _, _, hv⟩
  go_wp2
  go_ret2
  refine ⟨⟨_, rfl⟩, .inr ?_, ?_⟩
  · exact Lib.BuilderAt.put (T := 77) (e := 5) hB hb2 (bs' := bs ++ Lib.strCells s) (by simpa [Lib.strCells_length] using hown') (by decide)
  · exact (hb1.appended hown hgrow (Nat.le_refl _) (by decide)).set (p := ⟨b, 1, none⟩) hb2 (by decide) hB _
theorem bd_new (w : World) : Bd w.heap.size w.heap.size [] (w.alloc (.cells #[.pointer none, .slice none 0 0] 77)) := Lib.fresh_isBuilder _ _ w
theorem str_of_any (BB b : Nat) (l : List UInt8) (w : World) (h : Bd BB b l w) (hBw : BB ≤ w.heap.size) :
    Calls Tryd.prog 25 #[.pointer (some ⟨b, 0, none⟩)] w fun e w' => e = .returned (.string (strB l)) ∧ Below BB w w' := Tryd.Builder_String_any BB b l w h hBw
end Go.Proofs.YtnmcgleanpdlmaaDoor

namespace Go.Proofs.YtnmcgleanpdlmaaDoor
open Go.RowKit
set_option linter.unusedVariables false
/-- A row of numbers in a block of its own. -/
def NumRow (w : World) (v : Value) (ns : List Nat) : Prop := ∃ g, v = .slice (some ⟨g, 0, none⟩) ns.length ns.length ∧ w.heap[g]? = some (.cells (ns.map fun (x : Nat) => Value.int .i64 (x : Int)).toArray 2 (0, 0))
theorem NumRow.tn {BB : Nat} {w w' : World} {v : Value} {ns : List Nat} (h : NumRow w v ns) (q : Tn kBd BB w w') : NumRow w' v ns := by
  obtain ⟨g, rfl, h2⟩ := h
  exact ⟨g, rfl, q.objc h2 (by decide)⟩
/-- The table of powers of ten, where nothing below BB has turned. -/
def T10 (BB : Nat) (w : World) : Prop := Lib.TabBelow Tryd.prog BB w "internal/strconv.uint64pow10" .u64 Lib.pow10Tab
theorem T10.tn {BB : Nat} {w w' : World} (h : T10 BB w) (q : Tn kBd BB w w') (hs : BB ≤ w.heap.size) : T10 BB w' := Lib.TabBelow.on h (q.below (Nat.le_refl _) hs)
theorem T10.b {BB : Nat} {w w' : World} (h : T10 BB w) (q : B w w') (hs : BB ≤ w.heap.size) : T10 BB w' := h.tn (q.tn kBd BB) hs
theorem Bd.b {BB b : Nat} {l : List UInt8} {w w' : World} (h : Bd BB b l w) (q : B w w') : Bd BB b l w' := by
  have key : ∀ p, Lib.BuilderAt 77 5 BB b p (Lib.byteCells l) w → Lib.BuilderAt 77 5 BB b p (Lib.byteCells l) w' := by
    rintro p ⟨hB, v, hv, ho, hn⟩
    exact ⟨hB, v, q.obj hv, row_keep ho q, hn⟩
  exact Or.imp (key _) (key _) h
theorem fmt_any (BB x : Nat) (hx : x ≤ 10000000000000) (w : World) (ht : T10 BB w) : Calls Tryd.prog 38 #[.int .i64 (x : Int), .int .i64 10] w fun e w' => e = .returned (.string (strB (decI (x : Int)))) ∧ B w w' := by
  refine (Tryd.strconv_FormatInt_10 (x : Int) (by omega) (by omega) w (Lib.TabBelow.here ht)).mono ?_
  rintro e w' ⟨rfl, k, os, rfl⟩
  refine ⟨?_, ?_⟩
  · unfold Lib.itoa decI strB
    rw [if_neg (by omega)]
  · exact ⟨⟨rfl, rfl, rfl, by simp [Sort.grow, World.drewN], fun j hj => by rw [Sort.heap_grow_old _ _ (by simpa [World.drewN] using hj)]; rfl⟩⟩
end Go.Proofs.YtnmcgleanpdlmaaDoor

namespace Go.Proofs.YtnmcgleanpdlmaaDoor
open Go.RowKit
set_option linter.unusedVariables false
/-- Strings in a row. -/
def RowT (w : World) (v : Value) (xs : List ByteArray) : Prop := ∃ bk c, v = .slice (some ⟨bk, 0, none⟩) xs.length c ∧ xs.length ≤ c ∧ bk < w.heap.size ∧ ∀ (j : Nat) x, xs[j]? = some x → w.cell? ⟨bk, j, none⟩ = some (.string x)
theorem rowT_obj {w : World} {b : Nat} {cs : Array Value} {t : TypeId} {fz : Nat × Nat} {xs : List ByteArray} (h : w.heap[b]? = some (.cells cs t fz)) (hc : cs = (xs.map Value.string).toArray) : RowT w (.slice (some ⟨b, 0, none⟩) xs.length xs.length) xs := by
  refine ⟨b, xs.length, rfl, Nat.le_refl _, obj_lt h, fun j x hx => ?_⟩
  rw [obj_cell h j, hc]
  simp [hx]
theorem rowT_own {w : World} {base : Nat} {e : TypeId} {v : Value} {n : Nat} {xs : List ByteArray} (h : w.ownsRow base e 1 v n (xs.map Value.string)) (hn : n = xs.length) (h0 : 0 < n) : RowT w v xs := by
  subst hn
  rcases h.2 with ⟨_, h1⟩ | ⟨g, cap, cur, rfl, hb, ho, h1, h2, h3⟩
  · omega
  · refine ⟨g, cap, rfl, h1, obj_lt ho, fun j x hx => ?_⟩
    have hj : j < xs.length := (List.getElem?_eq_some_iff.1 hx).1
    rw [h.cellAt j (by omega)]
    simp [hx]
theorem itoa_any (BB x : Nat) (hx : x ≤ 10000000000000) (w : World) (ht : T10 BB w) : Calls Tryd.prog 40 #[.int .i64 (x : Int)] w fun e w' => e = .returned (.string (strB (decI (x : Int)))) ∧ B w w' := by
  refine (Tryd.strconv_Itoa (x : Int) (by omega) (by omega) w (Lib.TabBelow.here ht)).mono ?_
  rintro e w' ⟨rfl, k, os, rfl⟩
  refine ⟨?_, ?_⟩
  · unfold Lib.itoa decI strB
    rw [if_neg (by omega)]
  · exact ⟨⟨rfl, rfl, rfl, by simp [Sort.grow, World.drewN], fun j hj => by rw [Sort.heap_grow_old _ _ (by simpa [World.drewN] using hj)]; rfl⟩⟩
theorem strB_data (n : ByteArray) : strB n.data.toList = n := by unfold strB; simp
theorem flatT_strings (L : List Wp) : flatT L = (L.map fun p => strB p.t).map Value.string := by simp [flatT]
set_option maxRecDepth 100000 in
set_option maxHeartbeats 4000000 in
theorem pline_any (s : Sp) (wsv : Value) (w : World) (h : IsWps w wsv s.w) (hI : WpsI s.w) (hOK : stepOk s = true) (BB : Nat) (hT : T10 BB w) (hBB : BB ≤ w.heap.size) : Calls Tryd.prog 23 #[.agg #[.int .i64 s.k, .string s.n, wsv, .int .i64 s.v, .int .i64 s.m]] w fun e w' => ∃ u, e = .returned u ∧ RowT w' u ((stepL s).map strB) ∧ B w w' := by
  obtain ⟨i0, hi0, hz0, hz1, hz2⟩ := info_of strInfoP
  obtain ⟨k, n, L, v, m⟩ := s
  simp only at h hI ⊢
  obtain ⟨so, sc, rfl⟩ := h.form
  have hok : (wellsOk L && stepK ⟨k, n, L, v, m⟩) = true := hOK
  rw [Bool.and_eq_true] at hok
  have hsk := hok.2
  have hkv : (k = 0 ∨ k = 1 ∨ k = 2 ∨ k = 3 ∨ k = 4 ∨ k = 5 ∨ k = 6) ∧ 0 ≤ v ∧ v ≤ 20000000 ∧ 0 ≤ m ∧ m ≤ 20 ∧ L.length ≤ 96 ∧ (k = 1 → m = 0 ∨ m = 1) ∧ (k = 2 → L.length = 2) ∧ (k = 5 → L.length = 1) ∧ (k = 3 ∨ k = 4 ∨ k = 6 → 2 ≤ L.length) := by
    have hh := hsk
    unfold stepK inB at hh
    simp only at hh
    split at hh
    · simp only [Bool.and_eq_true, decide_eq_true_eq] at hh; omega
    split at hh
    · simp only [Bool.and_eq_true, Bool.or_eq_true, decide_eq_true_eq] at hh; omega
    split at hh
    · simp only [Bool.and_eq_true, decide_eq_true_eq] at hh; omega
    split at hh
    · simp only [Bool.and_eq_true, Bool.or_eq_true, decide_eq_true_eq] at hh; omega
    · cases hh
  obtain ⟨hk7, hv0, hv1, hm0, hm1, hl96, hk1, hk2, hk5, hk3⟩ := hkv
  obtain ⟨vn, rfl⟩ : ∃ vn : Nat, v = (vn : Int) := ⟨v.toNat, by omega⟩
  obtain ⟨mn, rfl⟩ : ∃ mn : Nat, m = (mn : Int) := ⟨m.toNat, by omega⟩
  clear hok hsk hOK
  have q0 : B w (w.alloc (.cells #[.int .i64 k, .string n, .slice so L.length sc, .int .i64 (vn : Int), .int .i64 (mn : Int)] 27)) := (B.refl _).alloc _ _
  have oS := obj_new w (.cells #[.int .i64 k, .string n, .slice so L.length sc, .int .i64 (vn : Int), .int .i64 (mn : Int)] 27)
  have cF := fun w' (q : B w w') => fmt_any BB vn (by omega) w' (hT.b q hBB)
  have cI := fun w' (q : B w w') => itoa_any BB mn (by omega) w' (hT.b q hBB)
  have cX := fun w' (q : B w w') => texts_any (.slice so L.length sc) L w' (h.keepB q) hI (by omega)
  obtain ⟨wl, hwl⟩ : ∃ wl, L.length = wl := ⟨_, rfl⟩
  have hWL := Lib.hid hwl
  rw [hwl] at q0 oS cX hl96 hk2 hk5 hk3 ⊢
  obtain ⟨VS, hVS⟩ : ∃ VS, strB (decI (vn : Int)) = VS := ⟨_, rfl⟩
  rw [hVS] at cF
  have HVS := Lib.hid hVS
  obtain ⟨MS, hMS⟩ : ∃ MS, strB (decI (mn : Int)) = MS := ⟨_, rfl⟩
  rw [hMS] at cI
  have HMS := Lib.hid hMS
  clear hT h hI hwl hVS hMS
  go_enter Tryd.func23, Tryd.ntmps23
  go_wp2_with fail
  generalize w.alloc (.cells #[.int .i64 k, .string n, .slice so wl sc, .int .i64 (vn : Int), .int .i64 (mn : Int)] 27) = W0 at *
  obtain ⟨S, hSb⟩ : ∃ S, w.heap.size = S := ⟨_, rfl⟩
  rw [hSb] at oS ⊢
  replace hSb := Lib.hid hSb
  have y2 := obj_cell oS 2
  have y3 := obj_cell oS 3
  simp only [List.getElem?_toArray, List.getElem?_cons_zero, List.getElem?_cons_succ] at y2 y3
  replace cF := fun w' (q : B W0 w') => cF w' (q0.trans q)
  replace cX := fun w' (q : B W0 w') => cX w' (q0.trans q)
  have qd : B W0 W0.drew := (B.refl _).drew
  refine wp_region_noPanic ?_
  refine wp_region_seq (S := fun w' => w'.cell? ⟨S, 2, none⟩ = some (.slice so wl sc) ∧ w'.cell? ⟨S, 3, none⟩ = some (.int .i64 (vn : Int)) ∧ B W0 w') [(0, 0), (1, 0), (3, 0), (4, 0), (2, 2), (5, 2), (6, 0), (7, 0)] [0, 1, 2, 0, 8, 20, 39, 127] [0, 1, 2, 0, 8, 16, 4, 32] (by kernel_rfl) (by kernel_rfl) (fun _ _ _ _ _ h => h) ?_ (fun hH => ?_)
  · exact ⟨qd.keep y2, qd.keep y3, qd⟩
  refine wpSeq_take (d := 5) (v := ?_) rfl rfl (by kernel_rfl) (fun w hS => ?_) ?_
  rotate_left
  · go_simp <;> with_reducible rfl
  dsimp only [List.set_cons_zero, List.set_cons_succ]
  refine wpSeq_take (d := 6) (v := ?_) rfl rfl (by kernel_rfl) (fun w hS => ?_) ?_
  rotate_left
  · go_simp <;> with_reducible rfl
  dsimp only [List.set_cons_zero, List.set_cons_succ]
  refine wpSeq_take (d := 8) (v := ?_) rfl rfl (by kernel_rfl) (fun w hS => ?_) ?_
  rotate_left
  · go_simp <;> with_reducible rfl
  dsimp only [List.set_cons_zero, List.set_cons_succ]
  refine wpSeq_take (d := 9) (v := ?_) rfl rfl (by kernel_rfl) (fun w hS => ?_) ?_
  rotate_left
  · go_simp <;> with_reducible rfl
  dsimp only [List.set_cons_zero, List.set_cons_succ]
  refine wpSeq_call rfl (by kernel_rfl) (fun K hK => ?_)
  go_simp
  (with_reducible refine (cF _ hH.2.2).mono ?_)
  rintro e w' ⟨rfl, hq⟩
  refine hK.out _ _ ?_ (fun hH => ?_)
  · exact ⟨hq.keep (hH.1), hq.keep (hH.2.1), (hH.2.2).trans hq⟩
  clear hK
  refine wpSeq_call rfl (by kernel_rfl) (fun K hK => ?_)
  go_simp
  (with_reducible refine (cX _ hH.2.2).mono ?_)
  rintro e wt ⟨u, rfl, hown, hq⟩
  obtain ⟨uo, uc, rfl⟩ := own_slice hown
  refine hK.out _ _ ?_ (fun hH => ?_)
  · exact ⟨hq.keep (hH.1), hq.keep (hH.2.1), (hH.2.2).trans hq⟩
  clear hK
  refine wpSeq_take (d := 3) (v := ?_) rfl rfl (by kernel_rfl) (fun w hS => ?_) ?_
  rotate_left
  · go_simp <;> with_reducible rfl
  dsimp only [List.set_cons_zero, List.set_cons_succ]
  refine wpSeq_take (d := 4) (v := ?_) rfl rfl (by kernel_rfl) (fun w hS => ?_) ?_
  rotate_left
  · go_simp <;> with_reducible rfl
  dsimp only [List.set_cons_zero, List.set_cons_succ]
  refine wpSeq_done ?_
  refine NoPanic.normal ?_
  obtain ⟨q1a, q1b, q1⟩ := hH
  have oS1 := q1.obj oS
  clear q1a q1b y2 y3 cF cX qd oS
  have z0 := obj_cell oS1 0
  have z1 := obj_cell oS1 1
  have z4 := obj_cell oS1 4
  simp only [List.getElem?_toArray, List.getElem?_cons_zero, List.getElem?_cons_succ] at z0 z1 z4
  replace hown := hown
  have q9 := q0.trans q1
  have hu := fun (h0 : 0 < wl) => rowT_own (xs := L.map fun p => strB p.t) (by rw [← flatT_strings]; exact hown) (by rw [List.length_map, hWL.out]) h0
  rcases hk7 with rfl | rfl | rfl | rfl | rfl | rfl | rfl
  · clear cI
    have oL := obj_new wt (.cells #[.string { data := #[117, 115, 101] }, .string n] 9)
    have HZ := Lib.hid (And.intro (rowT_obj (xs := [{ data := #[117, 115, 101] }, n]) oL rfl) (q9.alloc #[.string { data := #[117, 115, 101] }, .string n] 9))
    have HM : Hid ((stepL ⟨0, n, L, (vn : Int), (mn : Int)⟩).map strB = [{ data := #[117, 115, 101] }, n]) := Lib.hid (by show [strB kUse, strB n.data.toList] = _; rw [strB_data]; rfl)
    clear oL hu hown q9 q0 q1
    go_wp2
    go_ret
    exact ⟨_, rfl, (show RowT _ _ ((stepL ⟨0, n, L, (vn : Int), (mn : Int)⟩).map strB) from by rw [HM.out]; exact HZ.out.1), HZ.out.2⟩
  · clear cI
    rcases hk1 rfl with hm9 | hm9
    · obtain rfl : mn = 0 := by omega
      have oL := obj_new wt (.cells #[.string { data := #[102, 114, 101, 115, 104] }, .string { data := #[111, 110, 99, 101] }] 9)
      have HZ := Lib.hid (And.intro (rowT_obj (xs := [{ data := #[102, 114, 101, 115, 104] }, { data := #[111, 110, 99, 101] }]) oL rfl) (q9.alloc #[.string { data := #[102, 114, 101, 115, 104] }, .string { data := #[111, 110, 99, 101] }] 9))
      have HM : Hid ((stepL ⟨1, n, L, (vn : Int), (((0 : Nat)) : Int)⟩).map strB = [{ data := #[102, 114, 101, 115, 104] }, { data := #[111, 110, 99, 101] }]) := Lib.hid (by rfl)
      clear oL hu hown q9 q0 q1
      go_wp2
      go_ret
      exact ⟨_, rfl, (show RowT _ _ ((stepL ⟨1, n, L, (vn : Int), (((0 : Nat)) : Int)⟩).map strB) from by rw [HM.out]; exact HZ.out.1), HZ.out.2⟩
    · obtain rfl : mn = 1 := by omega
      have oL := obj_new wt (.cells #[.string { data := #[102, 114, 101, 115, 104] }, .string { data := #[101, 97, 99, 104] }] 9)
      have HZ := Lib.hid (And.intro (rowT_obj (xs := [{ data := #[102, 114, 101, 115, 104] }, { data := #[101, 97, 99, 104] }]) oL rfl) (q9.alloc #[.string { data := #[102, 114, 101, 115, 104] }, .string { data := #[101, 97, 99, 104] }] 9))
      have HM : Hid ((stepL ⟨1, n, L, (vn : Int), (((1 : Nat)) : Int)⟩).map strB = [{ data := #[102, 114, 101, 115, 104] }, { data := #[101, 97, 99, 104] }]) := Lib.hid (by rfl)
      clear oL hu hown q9 q0 q1
      go_wp2
      go_ret
      exact ⟨_, rfl, (show RowT _ _ ((stepL ⟨1, n, L, (vn : Int), (((1 : Nat)) : Int)⟩).map strB) from by rw [HM.out]; exact HZ.out.1), HZ.out.2⟩
  · obtain rfl := hk2 rfl
    obtain ⟨p, q, rfl⟩ : ∃ p q, L = [p, q] := by
      match L, hWL.out with
      | [p, q], _ => exact ⟨p, q, rfl⟩
      | [], h => exact absurd h (by simp)
      | [_], h => exact absurd h (by simp)
      | _ :: _ :: _ :: _, h => exact absurd h (by simp)
    obtain ⟨gu, gc, e1, hgc, hgl, hcl⟩ := hu (by omega)
    obtain ⟨rfl, _⟩ : uo = some ⟨gu, 0, none⟩ ∧ True := by simp at e1; exact ⟨e1.1, trivial⟩
    obtain ⟨PS, hPS⟩ : ∃ PS, strB p.t = PS := ⟨_, rfl⟩
    obtain ⟨QS, hQS⟩ : ∃ QS, strB q.t = QS := ⟨_, rfl⟩
    have u0 := hcl 0 PS (by rw [← hPS]; rfl)
    have u1 := hcl 1 QS (by rw [← hQS]; rfl)
    have HM : Hid ((stepL ⟨2, n, [p, q], (vn : Int), (mn : Int)⟩).map strB = [{ data := #[116, 114, 97, 110, 115, 102, 101, 114] }, PS, QS, VS]) := Lib.hid (by show [strB kTransfer, strB p.t, strB q.t, strB (decI (vn : Int))] = _; rw [hPS, hQS, HVS.out]; rfl)
    have qe : B wt wt.drew := (B.refl _).drew
    clear hu hown e1 hgc hgl hcl cI hPS hQS
    go_wp2_with fail
    refine wp_region_noPanic ?_
    refine wp_region_seq (S := fun w' => w'.cell? ⟨gu, 0, none⟩ = some (.string PS) ∧ w'.cell? ⟨gu, 1, none⟩ = some (.string QS) ∧ B wt w') [(0, 0), (1, 0), (2, 0), (3, 0), (4, 0), (5, 0), (6, 0), (7, 2), (8, 0)] [0, 1, 2, 0, 8, 16, 0, 100, 255] [0, 1, 2, 0, 8, 16, 0, 100, 128] (by kernel_rfl) (by kernel_rfl) (fun _ _ _ _ _ h => h) ?_ (fun hH => ?_)
    · exact ⟨qe.keep u0, qe.keep u1, qe⟩
    refine wpSeq_take (d := 27) (v := ?_) rfl rfl (by kernel_rfl) (fun w hS => ?_) ?_
    rotate_left
    · go_simp <;> with_reducible rfl
    dsimp only [List.set_cons_zero, List.set_cons_succ]
    refine wpSeq_take (d := 28) (v := ?_) rfl rfl (by kernel_rfl) (fun w hS => ?_) ?_
    rotate_left
    · go_simp <;> with_reducible rfl
    dsimp only [List.set_cons_zero, List.set_cons_succ]
    refine wpSeq_take (d := 29) (v := ?_) rfl rfl (by kernel_rfl) (fun w hS => ?_) ?_
    rotate_left
    · go_simp <;> with_reducible rfl
    dsimp only [List.set_cons_zero, List.set_cons_succ]
    refine wpSeq_take (d := 30) (v := ?_) rfl rfl (by kernel_rfl) (fun w hS => ?_) ?_
    rotate_left
    · go_simp <;> with_reducible rfl
    dsimp only [List.set_cons_zero, List.set_cons_succ]
    refine wpSeq_take (d := 31) (v := ?_) rfl rfl (by kernel_rfl) (fun w hS => ?_) ?_
    rotate_left
    · go_simp <;> with_reducible rfl
    dsimp only [List.set_cons_zero, List.set_cons_succ]
    refine wpSeq_take (d := 32) (v := ?_) rfl rfl (by kernel_rfl) (fun w hS => ?_) ?_
    rotate_left
    · go_simp <;> with_reducible rfl
    dsimp only [List.set_cons_zero, List.set_cons_succ]
    refine wpSeq_take (d := 33) (v := ?_) rfl rfl (by kernel_rfl) (fun w hS => ?_) ?_
    rotate_left
    · go_simp <;> with_reducible rfl
    dsimp only [List.set_cons_zero, List.set_cons_succ]
    refine wpSeq_call rfl (by kernel_rfl) (fun K hK => ?_)
    go_simp
    refine hK.out _ _ ?_ (fun hH => ?_)
    · exact ⟨((B.refl _).alloc _ _).keep (hH.1), ((B.refl _).alloc _ _).keep (hH.2.1), (hH.2.2).alloc _ _⟩
    clear hK
    refine wpSeq_take (d := 2) (v := ?_) rfl rfl (by kernel_rfl) (fun w hS => ?_) ?_
    rotate_left
    · go_simp <;> with_reducible rfl
    dsimp only [List.set_cons_zero, List.set_cons_succ]
    refine wpSeq_done ?_
    refine NoPanic.normal ?_
    have HX := Lib.hid (q9.drew.alloc #[.string { data := #[116, 114, 97, 110, 115, 102, 101, 114] }, .string PS, .string QS, .string VS] 9)
    have oL := obj_new wt.drew (.cells #[.string { data := #[116, 114, 97, 110, 115, 102, 101, 114] }, .string PS, .string QS, .string VS] 9)
    have HZ := Lib.hid (rowT_obj (xs := [{ data := #[116, 114, 97, 110, 115, 102, 101, 114] }, PS, QS, VS]) oL rfl)
    clear oL hH qe
    go_wp2
    go_ret
    exact ⟨_, rfl, (show RowT _ _ ((stepL ⟨2, n, [p, q], (vn : Int), (mn : Int)⟩).map strB) from by rw [HM.out]; exact HZ.out), HX.out⟩
  · have hl2 := hk3 (by simp)
    obtain ⟨p, rest, rfl⟩ : ∃ p rest, L = p :: rest := by
      have hh := hWL.out
      match L, hh with
      | p :: rest, _ => exact ⟨p, rest, rfl⟩
      | [], h => simp at h; omega
    obtain ⟨gu, gc, e1, hgc, hgl, hcl⟩ := hu (by omega)
    obtain ⟨rfl, rfl⟩ : uo = some ⟨gu, 0, none⟩ ∧ uc = gc := by
      rw [List.length_map, hWL.out] at e1
      simpa using e1
    rw [List.length_map, hWL.out] at hgc
    obtain ⟨PS, hPS⟩ : ∃ PS, strB p.t = PS := ⟨_, rfl⟩
    have u0 : wt.cell? ⟨gu, 0, none⟩ = some (.string PS) := hcl 0 PS (by rw [← hPS]; rfl)
    obtain ⟨ln, hln⟩ : ∃ ln, rest.length = ln := ⟨_, rfl⟩
    have hwl9 : wl = ln + 1 := by rw [← hWL.out, ← hln]; simp
    obtain ⟨gc1, hgc1⟩ : ∃ gc1, uc = gc1 + 1 := ⟨uc - 1, by omega⟩
    have hc1 : ¬ uc = 1 := by omega
    have hs1 : wl - 1 = ln := by omega
    have hs2 : uc - 1 = gc1 := by omega
    have hw1 : (1 : Int) ≤ (wl : Int) := by omega
    have hnl : (flatT rest).length = ln * 1 := by rw [← hln]; simp [flatT]
    have own3 := World.ownsRow_lit (base := wt.heap.size) (e := 9) (size := 1) wt #[.string { data := #[115, 112, 114, 101, 97, 100] }, .string PS, .string VS] 3 (Nat.le_refl _) (by decide) rfl
    have qA : B wt (wt.alloc (.cells #[.string { data := #[115, 112, 114, 101, 97, 100] }, .string PS, .string VS] 9)) := (B.refl _).alloc _ _
    have hnews : ∀ (j : Nat) u, (flatT rest)[j]? = some u → (wt.alloc (.cells #[.string { data := #[115, 112, 114, 101, 97, 100] }, .string PS, .string VS] 9)).cell? ((⟨gu, 1, none⟩ : Addr).add j) = some u := by
      intro j u hj
      obtain ⟨x, hx, rfl⟩ : ∃ x, rest[j]? = some x ∧ u = .string (strB x.t) := by
        unfold flatT at hj
        rw [List.getElem?_map] at hj
        cases hr : rest[j]? with
        | none => rw [hr] at hj; cases hj
        | some x => rw [hr] at hj; exact ⟨x, rfl, by simpa using hj.symm⟩
      have h9 := hcl (j + 1) (strB x.t) (by simp [hx])
      rw [show (⟨gu, 1, none⟩ : Addr).add j = ⟨gu, j + 1, none⟩ by unfold Addr.add; split <;> simp <;> omega]
      exact qA.keep h9
    have hone : ∀ u ∈ flatT rest, u.oneCell' = true := by
      intro u hu
      obtain ⟨x, _, rfl⟩ := List.mem_map.1 hu
      rfl
    have hb3 : wt.heap.size ≤ (wt.alloc (.cells #[.string { data := #[115, 112, 114, 101, 97, 100] }, .string PS, .string VS] 9)).heap.size := qA.below.size
    replace hwl9 := Lib.hid hwl9
    replace hgc1 := Lib.hid hgc1
    have hwp : 0 < wl := by omega
    have hwpI : (0 : Int) < (wl : Int) := by omega
    have hlp : 0 < ln := by have := hwl9.out; omega
    have hlm : ln ≤ 96 := by have := hwl9.out; omega
    have HM : Hid ((stepL ⟨3, n, p :: rest, (vn : Int), (mn : Int)⟩).map strB = [{ data := #[115, 112, 114, 101, 97, 100] }, PS, VS] ++ rest.map (fun q => strB q.t)) := Lib.hid (by
      show strB kSpread :: strB p.t :: strB (decI (vn : Int)) :: (rest.map Wp.t).map strB = _
      rw [hPS, HVS.out, List.map_map]
      rfl)
    have hgq := q9
    have HLN := Lib.hid hln
    clear hu hown e1 hgl hcl cI hPS hgc hln
    try simp only [hs1, hs2]
    go_wp2_with fail
    refine wp_region_noPanic ?_
    refine wp_region_gate (S := fun w' => w'.cell? ⟨gu, 0, none⟩ = some (.string PS)) 7 [(0, 3), (1, 3), (2, 0), (3, 3), (5, 3), (6, 3), (4, 2), (7, 4), (8, 3)] [0, 1, 2, 0, 12, 0, 32, 80, 255] [0, 1, 2, 0, 12, 0, 32, 80, 128] [0, 0, 404, 0, 0, 0, 0, 0, 0] (by kernel_rfl) (by kernel_rfl) (fun _ _ _ _ _ h => h) ?_ (fun hH => ?_)
    · exact u0
    refine wpSeqG_free (d := 37) (v := ?_) rfl rfl (by kernel_rfl) (fun w => ?_) ?_
    rotate_left
    · go_simp <;> with_reducible rfl
    dsimp only [List.set_cons_zero, List.set_cons_succ]
    refine wpSeqG_free (d := 38) (v := ?_) rfl rfl (by kernel_rfl) (fun w => ?_) ?_
    rotate_left
    · go_simp <;> with_reducible rfl
    dsimp only [List.set_cons_zero, List.set_cons_succ]
    refine wpSeqG_take (d := 39) (v := ?_) rfl rfl (by kernel_rfl) (fun w hS => ?_) ?_
    rotate_left
    · go_simp <;> with_reducible rfl
    dsimp only [List.set_cons_zero, List.set_cons_succ]
    refine wpSeqG_free (d := 40) (v := ?_) rfl rfl (by kernel_rfl) (fun w => ?_) ?_
    rotate_left
    · go_simp <;> with_reducible rfl
    dsimp only [List.set_cons_zero, List.set_cons_succ]
    refine wpSeqG_free (d := 42) (v := ?_) rfl rfl (by kernel_rfl) (fun w => ?_) ?_
    rotate_left
    · go_simp <;> with_reducible rfl
    dsimp only [List.set_cons_zero, List.set_cons_succ]
    refine wpSeqG_free (d := 43) (v := ?_) rfl rfl (by kernel_rfl) (fun w => ?_) ?_
    rotate_left
    · go_simp <;> with_reducible rfl
    dsimp only [List.set_cons_zero, List.set_cons_succ]
    refine wpSeqG_call rfl (by kernel_rfl) (fun K hK => ?_)
    go_simp
    refine hK.out _ _ ?_ (fun hH => ?_)
    · first | exact u0 | exact ((B.refl _).alloc _ _).keep hH
    clear hK
    refine wpSeqG_gate rfl (by kernel_rfl) (fun K hK => ?_)
    refine wp_append_lies _ _ _ 62 rfl wt.heap.size 9 i0 (.string ⟨#[]⟩) 1 16 Tryd.underlying62 hi0 hz0 hz1 hz2 rfl (by omega) _ _ _ rfl own3 ⟨gu, 1, none⟩ ln gc1 (flatT rest) rfl hnl hnews hone (by omega) (by unfold maxLen; omega) (by omega) hb3 _ rfl ?_
    intro gN cN w9 hownN hgrowN hatN hltN
    try simp only [Act.put, List.setIfInBounds_toArray, List.set_cons_zero, List.set_cons_succ]
    refine hK.out _ _ ?_
    clear hK
    refine wpSeqG_free (d := 2) (v := ?_) rfl rfl (by kernel_rfl) (fun w => ?_) ?_
    rotate_left
    · go_simp <;> with_reducible rfl
    dsimp only [List.set_cons_zero, List.set_cons_succ]
    refine wpSeqG_done ?_
    refine NoPanic.normal ?_
    have HN := Lib.hid (And.intro hownN (And.intro hgrowN own3))
    clear hownN hgrowN hatN hltN hnews hone hnl own3 u0
    go_wp2
    go_ret
    refine ⟨_, rfl, ?_, ((hgq.trans qA).drew).grownBy HN.out.2.1 (fun x hx => Nat.le_trans hgq.below.size (HN.out.2.2.lt x hx).1)⟩
    rw [HM.out]
    exact rowT_own (n := 3 + ln) (by rw [List.map_append, ← flatT_strings]; exact HN.out.1) (by rw [List.length_append, List.length_map, HLN.out]; rfl) (by omega)
  · have hl2 := hk3 (by simp)
    obtain ⟨p, rest, rfl⟩ : ∃ p rest, L = p :: rest := by
      have hh := hWL.out
      match L, hh with
      | p :: rest, _ => exact ⟨p, rest, rfl⟩
      | [], h => simp at h; omega
    obtain ⟨gu, gc, e1, hgc, hgl, hcl⟩ := hu (by omega)
    obtain ⟨rfl, rfl⟩ : uo = some ⟨gu, 0, none⟩ ∧ uc = gc := by
      rw [List.length_map, hWL.out] at e1
      simpa using e1
    rw [List.length_map, hWL.out] at hgc
    obtain ⟨PS, hPS⟩ : ∃ PS, strB p.t = PS := ⟨_, rfl⟩
    have u0 : wt.cell? ⟨gu, 0, none⟩ = some (.string PS) := hcl 0 PS (by rw [← hPS]; rfl)
    obtain ⟨ln, hln⟩ : ∃ ln, rest.length = ln := ⟨_, rfl⟩
    have hwl9 : wl = ln + 1 := by rw [← hWL.out, ← hln]; simp
    obtain ⟨gc1, hgc1⟩ : ∃ gc1, uc = gc1 + 1 := ⟨uc - 1, by omega⟩
    have hc1 : ¬ uc = 1 := by omega
    have hs1 : wl - 1 = ln := by omega
    have hs2 : uc - 1 = gc1 := by omega
    have hw1 : (1 : Int) ≤ (wl : Int) := by omega
    have hnl : (flatT rest).length = ln * 1 := by rw [← hln]; simp [flatT]
    have own3 := World.ownsRow_lit (base := wt.heap.size) (e := 9) (size := 1) wt #[.string { data := #[103, 97, 116, 104, 101, 114] }, .string PS, .string VS] 3 (Nat.le_refl _) (by decide) rfl
    have qA : B wt (wt.alloc (.cells #[.string { data := #[103, 97, 116, 104, 101, 114] }, .string PS, .string VS] 9)) := (B.refl _).alloc _ _
    have hnews : ∀ (j : Nat) u, (flatT rest)[j]? = some u → (wt.alloc (.cells #[.string { data := #[103, 97, 116, 104, 101, 114] }, .string PS, .string VS] 9)).cell? ((⟨gu, 1, none⟩ : Addr).add j) = some u := by
      intro j u hj
      obtain ⟨x, hx, rfl⟩ : ∃ x, rest[j]? = some x ∧ u = .string (strB x.t) := by
        unfold flatT at hj
        rw [List.getElem?_map] at hj
        cases hr : rest[j]? with
        | none => rw [hr] at hj; cases hj
        | some x => rw [hr] at hj; exact ⟨x, rfl, by simpa using hj.symm⟩
      have h9 := hcl (j + 1) (strB x.t) (by simp [hx])
      rw [show (⟨gu, 1, none⟩ : Addr).add j = ⟨gu, j + 1, none⟩ by unfold Addr.add; split <;> simp <;> omega]
      exact qA.keep h9
    have hone : ∀ u ∈ flatT rest, u.oneCell' = true := by
      intro u hu
      obtain ⟨x, _, rfl⟩ := List.mem_map.1 hu
      rfl
    have hb3 : wt.heap.size ≤ (wt.alloc (.cells #[.string { data := #[103, 97, 116, 104, 101, 114] }, .string PS, .string VS] 9)).heap.size := qA.below.size
    replace hwl9 := Lib.hid hwl9
    replace hgc1 := Lib.hid hgc1
    have hwp : 0 < wl := by omega
    have hwpI : (0 : Int) < (wl : Int) := by omega
    have hlp : 0 < ln := by have := hwl9.out; omega
    have hlm : ln ≤ 96 := by have := hwl9.out; omega
    have HM : Hid ((stepL ⟨4, n, p :: rest, (vn : Int), (mn : Int)⟩).map strB = [{ data := #[103, 97, 116, 104, 101, 114] }, PS, VS] ++ rest.map (fun q => strB q.t)) := Lib.hid (by
      show strB kGather :: strB p.t :: strB (decI (vn : Int)) :: (rest.map Wp.t).map strB = _
      rw [hPS, HVS.out, List.map_map]
      rfl)
    have hgq := q9
    have HLN := Lib.hid hln
    clear hu hown e1 hgl hcl cI hPS hgc hln
    try simp only [hs1, hs2]
    go_wp2_with fail
    refine wp_region_noPanic ?_
    refine wp_region_gate (S := fun w' => w'.cell? ⟨gu, 0, none⟩ = some (.string PS)) 7 [(0, 3), (1, 3), (2, 0), (3, 3), (5, 3), (6, 3), (4, 2), (7, 4), (8, 3)] [0, 1, 2, 0, 12, 0, 32, 80, 255] [0, 1, 2, 0, 12, 0, 32, 80, 128] [0, 0, 404, 0, 0, 0, 0, 0, 0] (by kernel_rfl) (by kernel_rfl) (fun _ _ _ _ _ h => h) ?_ (fun hH => ?_)
    · exact u0
    refine wpSeqG_free (d := 47) (v := ?_) rfl rfl (by kernel_rfl) (fun w => ?_) ?_
    rotate_left
    · go_simp <;> with_reducible rfl
    dsimp only [List.set_cons_zero, List.set_cons_succ]
    refine wpSeqG_free (d := 48) (v := ?_) rfl rfl (by kernel_rfl) (fun w => ?_) ?_
    rotate_left
    · go_simp <;> with_reducible rfl
    dsimp only [List.set_cons_zero, List.set_cons_succ]
    refine wpSeqG_take (d := 49) (v := ?_) rfl rfl (by kernel_rfl) (fun w hS => ?_) ?_
    rotate_left
    · go_simp <;> with_reducible rfl
    dsimp only [List.set_cons_zero, List.set_cons_succ]
    refine wpSeqG_free (d := 50) (v := ?_) rfl rfl (by kernel_rfl) (fun w => ?_) ?_
    rotate_left
    · go_simp <;> with_reducible rfl
    dsimp only [List.set_cons_zero, List.set_cons_succ]
    refine wpSeqG_free (d := 52) (v := ?_) rfl rfl (by kernel_rfl) (fun w => ?_) ?_
    rotate_left
    · go_simp <;> with_reducible rfl
    dsimp only [List.set_cons_zero, List.set_cons_succ]
    refine wpSeqG_free (d := 53) (v := ?_) rfl rfl (by kernel_rfl) (fun w => ?_) ?_
    rotate_left
    · go_simp <;> with_reducible rfl
    dsimp only [List.set_cons_zero, List.set_cons_succ]
    refine wpSeqG_call rfl (by kernel_rfl) (fun K hK => ?_)
    go_simp
    refine hK.out _ _ ?_ (fun hH => ?_)
    · first | exact u0 | exact ((B.refl _).alloc _ _).keep hH
    clear hK
    refine wpSeqG_gate rfl (by kernel_rfl) (fun K hK => ?_)
    refine wp_append_lies _ _ _ 62 rfl wt.heap.size 9 i0 (.string ⟨#[]⟩) 1 16 Tryd.underlying62 hi0 hz0 hz1 hz2 rfl (by omega) _ _ _ rfl own3 ⟨gu, 1, none⟩ ln gc1 (flatT rest) rfl hnl hnews hone (by omega) (by unfold maxLen; omega) (by omega) hb3 _ rfl ?_
    intro gN cN w9 hownN hgrowN hatN hltN
    try simp only [Act.put, List.setIfInBounds_toArray, List.set_cons_zero, List.set_cons_succ]
    refine hK.out _ _ ?_
    clear hK
    refine wpSeqG_free (d := 2) (v := ?_) rfl rfl (by kernel_rfl) (fun w => ?_) ?_
    rotate_left
    · go_simp <;> with_reducible rfl
    dsimp only [List.set_cons_zero, List.set_cons_succ]
    refine wpSeqG_done ?_
    refine NoPanic.normal ?_
    have HN := Lib.hid (And.intro hownN (And.intro hgrowN own3))
    clear hownN hgrowN hatN hltN hnews hone hnl own3 u0
    go_wp2
    go_ret
    refine ⟨_, rfl, ?_, ((hgq.trans qA).drew).grownBy HN.out.2.1 (fun x hx => Nat.le_trans hgq.below.size (HN.out.2.2.lt x hx).1)⟩
    rw [HM.out]
    exact rowT_own (n := 3 + ln) (by rw [List.map_append, ← flatT_strings]; exact HN.out.1) (by rw [List.length_append, List.length_map, HLN.out]; rfl) (by omega)
  · have hw1 := hk5 rfl
    obtain ⟨p, rfl⟩ : ∃ p, L = [p] := by
      have hh := hWL.out
      match L, hh with
      | [p], _ => exact ⟨p, rfl⟩
      | [], h => simp at h; omega
      | _ :: _ :: _, h => simp at h; omega
    obtain ⟨gu, gc, e1, hgc, hgl, hcl⟩ := hu (by omega)
    obtain ⟨rfl, _⟩ : uo = some ⟨gu, 0, none⟩ ∧ True := by simp at e1; exact ⟨e1.1, trivial⟩
    obtain ⟨PS, hPS⟩ : ∃ PS, strB p.t = PS := ⟨_, rfl⟩
    have u0 := hcl 0 PS (by rw [← hPS]; rfl)
    have HM : Hid ((stepL ⟨5, n, [p], (vn : Int), (mn : Int)⟩).map strB = [{ data := #[109, 105, 120] }, PS, VS, MS]) := Lib.hid (by show [strB kMix, strB p.t, strB (decI (vn : Int)), strB (decI (mn : Int))] = _; rw [hPS, HVS.out, HMS.out]; rfl)
    have qe : B wt wt.drew := (B.refl _).drew
    have hwp : 0 < wl := by omega
    have hwpI : (0 : Int) < (wl : Int) := by omega
    replace cI := fun w' (q : B wt w') => cI w' (q9.trans q)
    replace hw1 := Lib.hid hw1
    clear hu hown e1 hgc hgl hcl hPS hk5
    go_wp2_with fail
    refine wp_region_noPanic ?_
    refine wp_region_seq (S := fun w' => w'.cell? ⟨gu, 0, none⟩ = some (.string PS) ∧ w'.cell? ⟨S, 4, none⟩ = some (.int .i64 (mn : Int)) ∧ B wt w') [(0, 0), (1, 0), (2, 0), (3, 0), (4, 0), (5, 0), (6, 2), (7, 2), (8, 0)] [0, 1, 2, 0, 0, 16, 32, 76, 255] [0, 1, 2, 0, 0, 16, 32, 76, 128] (by kernel_rfl) (by kernel_rfl) (fun _ _ _ _ _ h => h) ?_ (fun hH => ?_)
    · exact ⟨qe.keep u0, qe.keep z4, qe⟩
    refine wpSeq_take (d := 57) (v := ?_) rfl rfl (by kernel_rfl) (fun w hS => ?_) ?_
    rotate_left
    · go_simp <;> with_reducible rfl
    dsimp only [List.set_cons_zero, List.set_cons_succ]
    refine wpSeq_take (d := 58) (v := ?_) rfl rfl (by kernel_rfl) (fun w hS => ?_) ?_
    rotate_left
    · go_simp <;> with_reducible rfl
    dsimp only [List.set_cons_zero, List.set_cons_succ]
    refine wpSeq_take (d := 59) (v := ?_) rfl rfl (by kernel_rfl) (fun w hS => ?_) ?_
    rotate_left
    · go_simp <;> with_reducible rfl
    dsimp only [List.set_cons_zero, List.set_cons_succ]
    refine wpSeq_take (d := 60) (v := ?_) rfl rfl (by kernel_rfl) (fun w hS => ?_) ?_
    rotate_left
    · go_simp <;> with_reducible rfl
    dsimp only [List.set_cons_zero, List.set_cons_succ]
    refine wpSeq_take (d := 61) (v := ?_) rfl rfl (by kernel_rfl) (fun w hS => ?_) ?_
    rotate_left
    · go_simp <;> with_reducible rfl
    dsimp only [List.set_cons_zero, List.set_cons_succ]
    refine wpSeq_take (d := 62) (v := ?_) rfl rfl (by kernel_rfl) (fun w hS => ?_) ?_
    rotate_left
    · go_simp <;> with_reducible rfl
    dsimp only [List.set_cons_zero, List.set_cons_succ]
    refine wpSeq_call rfl (by kernel_rfl) (fun K hK => ?_)
    go_simp
    (with_reducible refine (cI _ hH.2.2).mono ?_)
    rintro e w' ⟨rfl, hq⟩
    refine hK.out _ _ ?_ (fun hH => ?_)
    · exact ⟨hq.keep (hH.1), hq.keep (hH.2.1), (hH.2.2).trans hq⟩
    clear hK
    refine wpSeq_call rfl (by kernel_rfl) (fun K hK => ?_)
    go_simp
    refine hK.out _ _ ?_ (fun hH => ?_)
    · exact ⟨((B.refl _).alloc _ _).keep (hH.1), ((B.refl _).alloc _ _).keep (hH.2.1), (hH.2.2).alloc _ _⟩
    clear hK
    refine wpSeq_take (d := 2) (v := ?_) rfl rfl (by kernel_rfl) (fun w hS => ?_) ?_
    rotate_left
    · go_simp <;> with_reducible rfl
    dsimp only [List.set_cons_zero, List.set_cons_succ]
    refine wpSeq_done ?_
    refine NoPanic.normal ?_
    have HX := Lib.hid (q9.trans hH.2.2)
    have oL := obj_new w' (.cells #[.string { data := #[109, 105, 120] }, .string PS, .string VS, .string MS] 9)
    have HZ := Lib.hid (rowT_obj (xs := [{ data := #[109, 105, 120] }, PS, VS, MS]) oL rfl)
    clear oL hH qe u0 z0 z1 z4
    go_wp2
    go_ret
    exact ⟨_, rfl, (show RowT _ _ ((stepL ⟨5, n, [p], (vn : Int), (mn : Int)⟩).map strB) from by rw [HM.out]; exact HZ.out), HX.out⟩
  · have hl2 := hk3 (by simp)
    obtain ⟨gu, gc, e1, hgc, hgl, hcl⟩ := hu (by omega)
    obtain ⟨rfl, rfl⟩ : uo = some ⟨gu, 0, none⟩ ∧ uc = gc := by
      rw [List.length_map, hWL.out] at e1
      simpa using e1
    have qA : B wt (wt.alloc (.cells #[.string { data := #[100, 105, 108, 117, 116, 101] }, .string VS] 9)) := (B.refl _).alloc _ _
    have own3 := World.ownsRow_lit (base := wt.heap.size) (e := 9) (size := 1) wt #[.string { data := #[100, 105, 108, 117, 116, 101] }, .string VS] 2 (Nat.le_refl _) (by decide) rfl
    have hnl : (flatT L).length = wl * 1 := by rw [← hWL.out]; simp [flatT]
    have hnews : ∀ (j : Nat) u, (flatT L)[j]? = some u → (wt.alloc (.cells #[.string { data := #[100, 105, 108, 117, 116, 101] }, .string VS] 9)).cell? ((⟨gu, 0, none⟩ : Addr).add j) = some u := by
      intro j u hj
      obtain ⟨x, hx, rfl⟩ : ∃ x, L[j]? = some x ∧ u = .string (strB x.t) := by
        unfold flatT at hj
        rw [List.getElem?_map] at hj
        cases hr : L[j]? with
        | none => rw [hr] at hj; cases hj
        | some x => rw [hr] at hj; exact ⟨x, rfl, by simpa using hj.symm⟩
      have h9 := hcl j (strB x.t) (by simp [hx])
      rw [addz gu j]
      exact qA.keep h9
    have hone : ∀ u ∈ flatT L, u.oneCell' = true := by
      intro u hu
      obtain ⟨x, _, rfl⟩ := List.mem_map.1 hu
      rfl
    have hb3 : wt.heap.size ≤ (wt.alloc (.cells #[.string { data := #[100, 105, 108, 117, 116, 101] }, .string VS] 9)).heap.size := qA.below.size
    have HM : Hid ((stepL ⟨6, n, L, (vn : Int), (mn : Int)⟩).map strB = [{ data := #[100, 105, 108, 117, 116, 101] }, VS] ++ L.map (fun q => strB q.t)) := Lib.hid (by
      show strB kDilute :: strB (decI (vn : Int)) :: (L.map Wp.t).map strB = _
      rw [HVS.out, List.map_map]
      rfl)
    have hgq := q9
    clear hu hown e1 hgl hcl cI hgc
    go_wp2_with (at_builtin; refine wpList_append_lies _ rfl _ _ 62 rfl wt.heap.size 9 i0 (.string ⟨#[]⟩) 1 16 Tryd.underlying62 hi0 hz0 hz1 hz2 rfl (by omega) (.slice (some ⟨wt.heap.size, 0, none⟩) 2 2) 2 [.string { data := #[100, 105, 108, 117, 116, 101] }, .string VS] rfl own3 ⟨gu, 0, none⟩ wl uc (flatT L) rfl hnl hnews hone (by omega) (by unfold maxLen; omega) (by omega) hb3 _ rfl ?_; intro gN cN w9 hownN hgrowN hatN hltN; have HN := Lib.hid (And.intro hownN (And.intro hgrowN own3)); clear hownN hgrowN hatN hltN hnews hone hnl own3; go_wp2_with fail)
    go_ret
    refine ⟨_, rfl, ?_, (hgq.trans qA).grownBy HN.out.2.1 (fun x hx => Nat.le_trans hgq.below.size (HN.out.2.2.lt x hx).1)⟩
    rw [HM.out]
    exact rowT_own (n := 2 + wl) (by rw [List.map_append, ← flatT_strings]; exact HN.out.1) (by rw [List.length_append, List.length_map, hWL.out]; rfl) (by omega)
end Go.Proofs.YtnmcgleanpdlmaaDoor

namespace Go.Proofs.YtnmcgleanpdlmaaDoor
open Go.RowKit
set_option linter.unusedVariables false
theorem t10_at {w w' : World} (h : Lib.TabIs Tryd.prog w "internal/strconv.uint64pow10" .u64 Lib.pow10Tab) (q : B w w') {BB : Nat} (hb : w.heap.size ≤ BB) (hs : BB ≤ w'.heap.size) : T10 BB w' :=
  fun w2 k => Lib.tabBelow_of_tabIs h w2 (q.below.trans (k.mono hb))
theorem lineT_count : ∀ l : List (List UInt8), l.length ≤ (lineT l).length
  | [] => by simp
  | [w] => by simp [lineT]
  | w :: x :: ws => by
    have h := lineT_count (x :: ws)
    show (w :: x :: ws).length ≤ (w ++ 32 :: lineT (x :: ws)).length
    simp only [List.length_append, List.length_cons] at h ⊢
    omega
theorem line_len {s : Sp} (h : stepOk s = true) : (lineT (stepL s)).length ≤ 4975 := by
  obtain ⟨k, n, L, v, m⟩ := s
  have hok : (wellsOk L && stepK ⟨k, n, L, v, m⟩) = true := h
  rw [Bool.and_eq_true] at hok
  have hh := hok.2
  have dl : ∀ x : Int, 0 ≤ x → x ≤ 20000000 → (decI x).length ≤ 20 := fun x h0 h1 => by
    have := decS_size (n := x.toNat) (by omega)
    rw [decS_strB, strB_size] at this
    rwa [show ((x.toNat : Nat) : Int) = x by omega] at this
  unfold stepK inB at hh
  simp only at hh
  split at hh
  · rename_i hk
    subst hk
    simp only [Bool.and_eq_true, decide_eq_true_eq] at hh
    have := name_size hh.1.1.1
    rw [sl_0]
    simp [kindW, kUse]
    have e : n.size = n.data.size := rfl
    omega
  split at hh
  · rename_i _ hk
    subst hk
    simp only [Bool.and_eq_true, Bool.or_eq_true, decide_eq_true_eq] at hh
    rcases hh.2 with rfl | rfl
    · rw [sl_1a]; decide
    · rw [sl_1b]; decide
  split at hh
  · rename_i _ _ hk
    subst hk
    simp only [Bool.and_eq_true, decide_eq_true_eq] at hh
    have h1 := wellsT_len L
    have h2 := dl v (by omega) (by omega)
    have h3 := dl m (by omega) (by omega)
    rw [sl_5]
    simp only [List.length_append, List.length_cons, List.length_nil, show (kindW 5).length = 3 from rfl]
    omega
  split at hh
  · rename_i _ _ _ hk
    simp only [Bool.and_eq_true, Bool.or_eq_true, decide_eq_true_eq] at hh
    have h2 := dl v (by omega) (by omega)
    rcases hk with rfl | rfl | rfl | rfl
    · have h1 := wellsT_len L
      rw [sl_2]
      simp only [List.length_append, List.length_cons, List.length_nil, show (kindW 2).length = 8 from rfl]
      omega
    · have h1 := wellsT_len (L.take 1)
      have h4 := wellsT_len (L.drop 1)
      rw [List.length_take] at h1
      rw [List.length_drop] at h4
      rw [sl_34 (.inl rfl)]
      simp only [List.length_append, List.length_cons, List.length_nil, show (kindW 3).length = 6 from rfl]
      omega
    · have h1 := wellsT_len (L.take 1)
      have h4 := wellsT_len (L.drop 1)
      rw [List.length_take] at h1
      rw [List.length_drop] at h4
      rw [sl_34 (.inr rfl)]
      simp only [List.length_append, List.length_cons, List.length_nil, show (kindW 4).length = 6 from rfl]
      omega
    · have h1 := wellsT_len L
      rw [sl_6]
      simp only [List.length_append, List.length_cons, List.length_nil, show (kindW 6).length = 6 from rfl]
      omega
  · cases hh
theorem lines_len : ∀ {L : List Sp}, (∀ s ∈ L, stepOk s = true) → (L.flatMap fun s => lineT (stepL s)).length ≤ 4975 * L.length
  | [], _ => by simp
  | s :: L, h => by
    have h1 := line_len (h s (List.mem_cons_self ..))
    have h2 := lines_len (L := L) (fun x hx => h x (List.mem_cons_of_mem _ hx))
    rw [List.flatMap_cons, List.length_append, List.length_cons]
    omega
theorem joinTail_flat (ws : List (List UInt8)) : Lib.joinTail [32] ws = ws.flatMap fun x => 32 :: x := by
  unfold Lib.joinTail
  rw [List.flatMap_def]
  rfl
theorem line_join (s : Sp) : lineT (stepL s) = Lib.join (((stepL s).map strB).map (·.data.toList)) [32] ++ [10] := by
  have e : ((stepL s).map strB).map (·.data.toList) = stepL s := by
    rw [List.map_map]
    conv => rhs; rw [← List.map_id (stepL s)]
    apply List.map_congr_left
    intro x _
    rfl
  rw [e]
  show lineT (kindW s.k :: stepW s) = _
  rw [lineT_words, show stepL s = kindW s.k :: stepW s from rfl, Lib.join_cons, joinTail_flat]
set_option maxRecDepth 100000 in
set_option maxHeartbeats 4000000 in
theorem pprint_any (v : Value) (L : List Sp) (w : World) (h : IsSps w v L) (hSI : SpsI L) (htab : Lib.TabIs Tryd.prog w "internal/strconv.uint64pow10" .u64 Lib.pow10Tab) : Calls Tryd.prog 7 #[v] w fun e w' => e = .returned (.string (strB (stepsT L))) ∧ B w w' := by
  have cR := pright_any v L w h hSI
  obtain ⟨ao, ac, rfl⟩ := h.form
  obtain ⟨n, hn⟩ : ∃ n, L.length = n := ⟨_, rfl⟩
  rw [hn] at cR ⊢
  have HN := Lib.hid hn
  have HI := Lib.hid h
  have HT := Lib.hid htab
  clear h hn htab
  cases hRD : stepsOk L with
  | false =>
    rw [hRD] at cR
    have hE : Hid (strB (stepsT L) = ⟨#[]⟩) := Lib.hid (by unfold stepsT; rw [hRD]; rfl)
    clear hRD
    go_enter Tryd.func7, Tryd.ntmps7
    go_wp2_with fail
    refine cR.mono ?_
    rintro _ w2 ⟨rfl, q2⟩
    have HQ := Lib.hid q2
    clear cR q2
    go_wp2
    go_ret
    exact ⟨by rw [hE.out]; rfl, HQ.out⟩
  | true =>
  rw [hRD] at cR
  have hall : (∀ s ∈ L, stepOk s = true) ∧ L.length ≤ 200 := by
    have hR := hRD
    unfold stepsOk at hR
    rw [Bool.and_eq_true, decide_eq_true_eq, List.all_eq_true] at hR
    exact ⟨hR.2, hR.1⟩
  have hE := Lib.hid (show stepsT L = L.flatMap fun s => lineT (stepL s) by unfold stepsT; rw [hRD]; rfl)
  have HA := Lib.hid hall
  clear hRD hall
  go_enter Tryd.func7, Tryd.ntmps7
  go_wp2_with fail
  refine cR.mono ?_
  rintro _ w2 ⟨rfl, q2⟩
  clear cR
  have hB0 := bd_new w2
  have q23 := (B.refl w2).alloc #[.pointer none, .slice none 0 0] 77
  have hW3 := q2.trans q23
  have hBB : w.heap.size ≤ w2.heap.size := q2.below.size
  have hT3 : T10 w2.heap.size (w2.alloc (.cells #[.pointer none, .slice none 0 0] 77)) := t10_at HT.out hW3 hBB q23.below.size
  have hs3 := q23.below.size
  clear q2 q23
  go_wp2_with fail
  generalize w2.alloc (.cells #[.pointer none, .slice none 0 0] 77) = w3 at *
  obtain ⟨BB, hb⟩ : ∃ BB, w2.heap.size = BB := ⟨_, rfl⟩
  rw [hb] at hB0 hBB hT3 hs3 ⊢
  clear hb
  go_loopw [11] (fun iv wr => ∃ i : Nat, i ≤ n ∧ iv = .int .i64 i ∧ Bd BB BB ((L.take i).flatMap fun s => lineT (stepL s)) wr ∧ Tn kBd BB w3 wr) (fun iv _ => n + 1 - (intOf iv).toNat)
  case atStart => exact ⟨0, Nat.zero_le _, rfl, hB0, Tn.refl _ _ _⟩
  case round =>
    clear hB0
    obtain ⟨i, hi, rfl, hBd, hTn⟩ := hrel
    obtain ⟨wo, rfl⟩ : ∃ wo : World, wo = wr := ⟨_, rfl⟩
    have qW := hTn.toB hW3 hBB
    have hsz : ((L.take i).flatMap fun s => lineT (stepL s)).length ≤ 995000 := by
      have h1 := lines_len (L := L.take i) (fun s hs => HA.out.1 s (List.mem_of_mem_take hs))
      have := HA.out.2
      rw [List.length_take] at h1
      omega
    have hs4 : BB ≤ wo.heap.size := Nat.le_trans hs3 hTn.size
    have hn200 : n ≤ 200 := by have := HA.out.2; have := HN.out; omega
    by_cases hl : i < n
    · have hlB : decide ((i : Int) < (n : Int)) = true := decide_eq_true (by omega)
      have hlN : decide (i < n) = true := decide_eq_true hl
      have hlI : (i : Int) < (n : Int) := by omega
      have hi0 : (0 : Int) ≤ (i : Int) := by omega
      have wk1 : IntKind.i64.wrap ((i : Int) + 1) = (i : Int) + 1 := by rw [IntKind.wrap_i64]; omega
      obtain ⟨a, cap, e1, _, _, hr⟩ := (HI.out.keepB qW).at_ (i := i) (by rw [HN.out]; exact hl)
      obtain ⟨rfl, _⟩ : ao = some a ∧ True := by simp at e1; exact ⟨e1.1, trivial⟩
      obtain ⟨F, hF⟩ : ∃ F, L[i]? = some F := ⟨_, List.getElem?_eq_getElem (by rw [HN.out]; exact hl)⟩
      rw [show L[i]'(by rw [HN.out]; exact hl) = F by rw [List.getElem?_eq_getElem (by rw [HN.out]; exact hl)] at hF; simpa using hF] at hr
      have hFm := List.mem_of_getElem? hF
      have hok := HA.out.1 F hFm
      have hI := hSI F hFm
      have hup : (L.take (i + 1)).flatMap (fun s => lineT (stepL s)) = (L.take i).flatMap (fun s => lineT (stepL s)) ++ lineT (stepL F) := take_flat hF
      have hjn := line_join F
      have hll := line_len hok
      obtain ⟨x0, x1, ⟨sv, x2, x5⟩, x3, x4⟩ := hr
      obtain ⟨so, sc, rfl⟩ := x5.form
      have qb : B wo (wo.alloc (.cells #[.int .i64 F.k, .string F.n, .slice so F.w.length sc, .int .i64 F.v, .int .i64 F.m] 27)) := (B.refl _).alloc _ _
      have cL := pline_any F (.slice so F.w.length sc) _ (x5.keepB qb) hI hok BB ((hT3.tn hTn hs3).b qb hs4) (Nat.le_trans hs4 qb.below.size)
      generalize hTX : (L.take i).flatMap (fun s => lineT (stepL s)) = TX at *
      obtain ⟨J, hJ⟩ : ∃ J, Lib.join (((stepL F).map strB).map (·.data.toList)) [32] = J := ⟨_, rfl⟩
      rw [hJ] at hjn
      have hJl : J.length ≤ 4975 := by rw [hjn, List.length_append] at hll; omega
      obtain ⟨xs, hxs⟩ : ∃ xs, (stepL F).map strB = xs := ⟨_, rfl⟩
      rw [hxs] at cL hJ
      have hxl : xs.length ≤ 4975 := by
        rw [← hxs, List.length_map]
        exact Nat.le_trans (lineT_count _) hll
      have HU := Lib.hid (And.intro (hup.trans (by rw [hjn])) (And.intro hl (And.intro (hTn.trans (qb.tn _ _)) (And.intro (hBd.b qb) hsz))))
      have hs5 := Nat.le_trans hs4 qb.below.size
      generalize F.w.length = fl at *
      generalize F.k = fk at *
      generalize F.n = fn at *
      generalize F.v = fv at *
      generalize F.m = fm at *
      clear hup hjn hll hF hFm hok hI e1 hl hi hBd hTn hTX x5 qb qW hs4 hsz hxs
      go_wp2_with fail
      refine (Calls.mono cL ?_)
      rintro _ w5 ⟨u, rfl, ⟨bk, c, rfl, hxc, hbk, hcl⟩, q5⟩
      clear cL
      have cJ := Tryd.strings_Join bk 0 c xs ({ data := #[32] } : ByteArray) w5 (fun j x hx => by rw [Nat.zero_add]; exact hcl j x hx) hbk (Nat.le_trans hxl (by decide)) hxc (by rw [show (({ data := #[32] } : ByteArray)).data.toList = [32] from rfl, hJ]; exact Nat.le_trans hJl (by decide))
      rw [show (({ data := #[32] } : ByteArray)).data.toList = [32] from rfl, hJ] at cJ
      go_wp2_with fail
      refine (Calls.mono cJ ?_)
      rintro _ w6 ⟨rfl, b6⟩
      have q6 : B w5 w6 := ⟨b6⟩
      have hs6 := Nat.le_trans hs5 (Nat.le_trans q5.below.size q6.below.size)
      have cS := wstr_any BB BB TX J w6 ((HU.out.2.2.2.1.b q5).b q6) (by have := HU.out.2.2.2.2; omega) (by omega) hs6
      have t6 := (HU.out.2.2.1.trans (q5.tn _ _)).trans (q6.tn _ _)
      rw [show strB J = (⟨J.toArray⟩ : ByteArray) from rfl] at cS
      clear cJ hcl hxc hbk b6 q5 q6
      go_wp2_with fail
      refine (Calls.mono cS ?_)
      rintro _ w7 ⟨⟨n9, rfl⟩, hBd7, t7⟩
      have cW := wbyte_any BB BB (TX ++ J) 10 w7 hBd7 (by have := HU.out.2.2.2.2; rw [List.length_append]; omega) (Nat.le_trans hs6 t7.size)
      rw [show (((10 : UInt8).toNat : Nat) : Int) = 10 from rfl] at cW
      clear cS
      go_wp2_with fail
      refine (Calls.mono cW ?_)
      rintro _ w8 ⟨rfl, hBd8, t8⟩
      have HZ := Lib.hid (And.intro hBd8 ((t6.trans t7).trans t8))
      clear cW hBd7 hBd8 t6 t7 t8
      go_wp2
      go_roundw
      case rel => exact ⟨i + 1, by have := HU.out.2.1; omega, by go_num, by rw [HU.out.1, ← List.append_assoc]; exact HZ.out.1, HZ.out.2⟩
      case measure => have := HU.out.2.1; simp [intOf]; omega
    · have hlB : decide ((i : Int) < (n : Int)) = false := decide_eq_false (by omega)
      have hlN : decide (i < n) = false := decide_eq_false hl
      rw [List.take_of_length_le (by have := HN.out; omega), ← hE.out] at hBd
      have cG := str_of_any BB BB (stepsT L) wo hBd hs4
      have HQ := Lib.hid (And.intro qW hBB)
      clear hBd hl hi qW hTn hsz
      go_wp2_with fail
      refine (Calls.mono cG ?_)
      rintro _ w9 ⟨rfl, b9⟩
      have HZ := Lib.hid (show B w w9 from ⟨HQ.out.1.below.trans (b9.mono HQ.out.2)⟩)
      clear cG b9
      go_wp2
      go_ret
      exact ⟨rfl, HZ.out⟩
end Go.Proofs.YtnmcgleanpdlmaaDoor
