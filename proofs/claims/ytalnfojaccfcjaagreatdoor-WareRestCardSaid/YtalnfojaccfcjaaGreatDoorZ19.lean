/-
 Contracts and what they rest on.
-/
import Derived.Shelf.Strings.Builder1
import Derived.Shelf.Small.Bits
import Derived.Shelf.Strings.BuilderF
import Derived.Shelf.Strings.BuilderK
import Derived.Shelf.Strconv.Itoa0
import Derived.Shelf.Strconv.Itoa1
import Derived.Shelf.LaysM
import Derived.Shelf.Strconv.Itoa2
import Derived.Shelf.Strconv.Itoa3
import Derived.Shelf.Strconv.Itoa4
import Derived.Shelf.Strings.Search1
import Derived.Shelf.Strings.Search2
import Derived.Shelf.Strings.Cut
import Derived.Shelf.Strings.Shaped
import Derived.Shelf.Bits.Mul64
import Derived.Test.YtalnfojaccfcjaaGreatDoorProg
import Derived.BigRegion
import Derived.Deep.QuietTactic
import Derived.BigQuiet
import Derived.Test.YtalnfojaccfcjaaGreatDoorZ1
import Derived.Test.YtalnfojaccfcjaaGreatDoorZ2
import Derived.Test.YtalnfojaccfcjaaGreatDoorZ3
import Derived.Test.YtalnfojaccfcjaaGreatDoorZ4
import Derived.Test.YtalnfojaccfcjaaGreatDoorZ5
import Derived.Test.YtalnfojaccfcjaaGreatDoorZ7
import Derived.Test.YtalnfojaccfcjaaGreatDoorZ9
import Derived.Test.YtalnfojaccfcjaaGreatDoorZ16
import Derived.Test.YtalnfojaccfcjaaGreatDoorZ18
namespace Go.Proofs.YtalnfojaccfcjaaGreatDoor
open Go.RowKit Go.Maps Go.WideMaps
set_option linter.unusedVariables false
def FmAt (w : World) (b : Nat) (fs : List Fl) : Prop :=
 ∃ D : DataW Unit, w.ownsMap Tryz.prog 39 unitElem b fs.length D ∧ Maps.IsMap D ∧ ∀ n r c, n.size ≤ maxLen → I64 r → I64 c → Maps.has D (wkey n r c) = filledW fs n r c
theorem FmAt.new (w : World) : FmAt (w.alloc (.map #[] 0)) w.heap.size [] := ⟨_, World.ownsMap_made w _ _ _, Maps.isMap_empty, fun _ _ _ _ _ _ => rfl⟩
theorem FmAt.same {w w' : World} {b : Nat} {fs : List Fl} (h : FmAt w b fs) (hb : w'.heap[b]? = w.heap[b]?) : FmAt w' b fs :=
 let ⟨D, h1, h2⟩ := h
 ⟨D, ownsMap_same h1 hb, h2⟩
theorem FmAt.obj {w : World} {b : Nat} {fs : List Fl} (h : FmAt w b fs) : ∃ es c, w.heap[b]? = some (.map es c) := let ⟨_, h1, _⟩ := h; ownsMap_obj h1
theorem filled_put {D : DataW Unit} {fs : List Fl} {n : ByteArray} {r c v : Int} (hM : Maps.IsMap D) (hn : n.size ≤ maxLen) (hr : I64 r) (hc : I64 c)
  (hH : ∀ n r c, n.size ≤ maxLen → I64 r → I64 c → Maps.has D (wkey n r c) = filledW fs n r c) :
  ∀ n' r' c', n'.size ≤ maxLen → I64 r' → I64 c' → Maps.has (D.put (wkey n r c) (.agg [])) (wkey n' r' c') = filledW (fs ++ [⟨n, r, c, v⟩]) n' r' c' := fun n' r' c' hn' hr' hc' => by
 have e : filledW (fs ++ [⟨n, r, c, v⟩]) n' r' c' = (filledW fs n' r' c' || ((n.toList == n'.toList) && decide (r = r') && decide (c = c'))) := by simp [filledW]
 rw [e]
 by_cases h : wkey n' r' c' = wkey n r c
 ·obtain ⟨rfl, rfl, rfl⟩ := wkey_inj hn' hr' hc' hn hr hc h
  rw [has_put_same hM (show WideAt.IsKeyLit (wkey n' r' c') from trivial)]
  simp
 ·rw [has_put_other h, hH _ _ _ hn' hr' hc']
  have : ((n.toList == n'.toList) && decide (r = r') && decide (c = c')) = false := by
   cases hx : ((n.toList == n'.toList) && decide (r = r') && decide (c = c'))
   ·rfl
   ·exfalso
    simp only [Bool.and_eq_true, beq_iff_eq, decide_eq_true_eq] at hx
    obtain ⟨⟨h1, rfl⟩, rfl⟩ := hx
    have : n = n' := by
     rw [Go.Lib.toList_data, Go.Lib.toList_data] at h1
     exact ByteArray.ext (Array.toList_inj.1 h1)
    exact h (by rw [this])
  rw [this, Bool.or_false]
theorem look_nm {w : World} {b k : Nat} {D : DataW Unit} {s : ByteArray} {V : Int} {Bo : Bool} (hs : s.size ≤ maxLen) (hh : Maps.has D (.string s.data.toList) = Bo) (ha : D.atKey (.string s.data.toList) (.lit (.int .i64 0)) = .lit (.int .i64 V))
  (hD : w.ownsMap Tryz.prog 9 (plainElem Tryz.prog 3) b k D) : (Instr.lookup 116 (.map (some b)) (.string s) true).run Tryz.prog w = .ok (.tuple #[.int .i64 V, .bool Bo]) w := by
 obtain ⟨v, ps, h1, h2⟩ := hD.look_ok str9 Tryz.underlying116 (int_zero w) (plainElem_int Tryz.underlying3 (by decide)) (key9 s hs)
 obtain ⟨x, rfl, hx, _⟩ := plainElem_int_inv Tryz.underlying3 h2
 have : DataW.lit (.int .i64 x) = (.lit (.int .i64 V) : DataW Unit) := (congrArg Prod.fst hx).symm.trans ha
 obtain rfl : x = V := by simpa using this
 rw [h1, hh]
theorem unit_zero (w : World) : (zeroValue 157).run Tryz.prog w = .ok (.agg #[]) w := by kernel_rfl
theorem look_fl {w : World} {b k : Nat} {D : DataW Unit} {n : ByteArray} {r c : Int} {Bo : Bool} (hn : n.size ≤ maxLen) (hr : I64 r) (hc : I64 c) (hh : Maps.has D (wkey n r c) = Bo)
  (hD : w.ownsMap Tryz.prog 39 unitElem b k D) : (Instr.lookup 117 (.map (some b)) (.agg #[.string n, .int .i64 r, .int .i64 c]) true).run Tryz.prog w = .ok (.tuple #[.agg #[], .bool Bo]) w := by
 obtain ⟨v, ps, h1, h2⟩ := hD.look_ok wellKeyed Tryz.underlying117 (unit_zero w) unitElem_mk (key_well n r c hn hr hc)
 obtain ⟨rfl, _⟩ := unitElem_inv h2
 rw [h1, hh]
theorem index_no : ∀ (ws : List Wr) (K : Int) (n : ByteArray) (r c : Int), namedL (ws.map (·.n)) n = false → indexW ws K n r c = none
 | [], _, _, _, _, _ => rfl
 | w :: ws, K, n, r, c, h => by
  simp only [List.map_cons, namedL, List.any_cons, Bool.or_eq_false_iff] at h
  rw [indexW, h.1]
  simp only [Bool.false_eq_true, if_false]
  exact index_no ws _ n r c h.2
theorem index_yes : ∀ (ws : List Wr) (K : Int) (i : Nat) (x : Wr) (r c : Int), ws[i]? = some x → (∀ (j : Nat) y, ws[j]? = some y → j < i → (y.n.toList == x.n.toList) = false) →
  (indexW ws K x.n r c).isSome = decide (0 ≤ r ∧ r < x.x ∧ 0 ≤ c ∧ c < x.y)
 | [], _, _, _, _, _, h, _ => by simp at h
 | w :: ws, K, 0, x, r, c, h, _ => by
  obtain rfl : w = x := by simpa using h
  rw [indexW, beq_self_eq_true]
  simp only [if_true]
  split
  ·rename_i hh; simp [hh]
  ·rename_i hh; simp [hh]
 | w :: ws, K, i + 1, x, r, c, h, hne => by
  have h0 := hne 0 w rfl (by omega)
  rw [indexW, h0]
  simp only [Bool.false_eq_true, if_false]
  exact index_yes ws _ i x r c (by simpa using h) (fun j y hj hl => hne (j + 1) y (by simpa using hj) (by omega))
theorem has_yes {D : DataW Unit} {ws : List Wr} {i : Nat} {x : Wr} (r c : Int) (hx : ws[i]? = some x)
  (hA : ∀ (i : Nat) n, (ws.map (·.n))[i]? = some n → D.atKey (.string n.data.toList) (.lit (.int .i64 0)) = .lit (.int .i64 ((i : Nat) : Int))) : hasW ws x.n r c = decide (0 ≤ r ∧ r < x.x ∧ 0 ≤ c ∧ c < x.y) := by
 refine index_yes ws 0 i x r c hx (fun j y hj hl => ?_)
 cases hb : y.n.toList == x.n.toList
 ·rfl
 ·exfalso
  have h1 := hA j y.n (by rw [List.getElem?_map, hj]; rfl)
  have h2 := hA i x.n (by rw [List.getElem?_map, hx]; rfl)
  have e : y.n.data.toList = x.n.data.toList := by rw [← Go.Lib.toList_data, ← Go.Lib.toList_data]; simpa using hb
  rw [e, h2] at h1
  have : (i : Int) = (j : Int) := by simpa using h1
  omega
def fillN (ws : List Wr) (fs : List Fl) (n : ByteArray) (r c : Int) : List Fl := if (hasW ws n r c && !filledW fs n r c) = true then fs ++ [⟨n, r, c, 0⟩] else fs
set_option maxRecDepth 100000 in
set_option maxHeartbeats 1600000 in
theorem fill_any (w : World) (base S bw bf : Nat) (wv tv fv tm pv hv : Value) (ws : List Wr) (fs : List Fl) (n : ByteArray) (r c : Int) (hn : n.size ≤ maxLen) (hr : I64 r) (hc : I64 c)
  (oS : w.heap[S]? = some (.cells #[wv, tv, fv, .map (some bw), tm, .map (some bf), pv, hv] 120 (0, 0))) (hW : IsRecs w wv ws) (hw : NmAt w bw (ws.map (·.n))) (hf : FmAt w bf fs) (hbf : base ≤ bf) (hfs : fs.length < 100000) :
  Calls Tryz.prog 56 #[.pointer (some ⟨S, 0, none⟩), .agg #[.string n, .int .i64 r, .int .i64 c]] w fun e w' => e = .returned (.bool (hasW ws n r c && !filledW fs n r c)) ∧ FmAt w' bf (fillN ws fs n r c) ∧ Tn kM base w w' ∧ Tm bf w w' := by
 obtain ⟨D, hD0, hT, hS, hH, hA⟩ := hw
 have HF := Lib.hid hf
 obtain ⟨E, hE0, hM, hHE⟩ := hf
 have hWlen := hW.len
 -- the box
 have B1 : B w (w.alloc (.cells #[.string n, .int .i64 r, .int .i64 c] 39)) := (B.refl w).alloc _ _
 have oG := obj_new w (.cells #[.string n, .int .i64 r, .int .i64 c] 39)
 have oS1 := B1.obj oS
 have hD := ownsMap_same hD0 (B1.below.block _ hD0.lt)
 have hE := ownsMap_same hE0 (B1.below.block _ hE0.lt)
 have hW1 := hW.keepB B1
 have Bw := B1
 have hGlt := obj_lt oG
 go_enter Tryz.func56, Tryz.ntmps56
 go_wp2_with fail
 generalize w.alloc (.cells #[.string n, .int .i64 r, .int .i64 c] 39) = W1 at *
 generalize w.heap.size = G at *
 replace B1 := B.refl W1
 have s3 : W1.cell? ⟨S, 3, none⟩ = some (.map (some bw)) := obj_cell oS1 3
 have g0 : W1.cell? ⟨G, 0, none⟩ = some (.string n) := obj_cell oG 0
 clear hW
 cases hnm : namedL (ws.map (·.n)) n
 ·have hno : hasW ws n r c = false := by unfold hasW; rw [index_no ws 0 n r c hnm]; rfl
  have cL := fun w => look_nm (w := w) (b := bw) (k := (ws.map (·.n)).length) hn ((hH n).trans hnm) (atKey_of_not_has ((hH n).trans hnm) _)
  have HN := Lib.hid hno
  refine wp_region_noPanic ?_
  refine wp_region_seq (S := fun w' => B W1 w' ∧ w'.cell? ⟨S, 3, none⟩ = some (.map (some bw)) ∧ w'.cell? ⟨G, 0, none⟩ = some (.string n) ∧ w'.ownsMap Tryz.prog 9 (plainElem Tryz.prog 3) bw (ws.map (·.n)).length D) [(0, 0), (1, 0), (2, 0), (3, 0), (4, 0), (5, 0), (6, 0), (7, 0), (8, 0), (9, 0), (10, 0), (11, 0)] [0, 1, 2, 4, 0, 16, 40, 64, 128, 128, 511, 2047] [0, 1, 2, 4, 0, 16, 40, 64, 128, 128, 256, 512] (by kernel_rfl) (by kernel_rfl) (fun _ _ _ _ _ h => h) ?_ (fun hH => ?_)
  ·exact ⟨B1.drew, s3, g0, hD⟩
  refine wpSeq_take (d := 11) rfl rfl (by kernel_rfl) (fun w hS => by go_simp <;> with_reducible rfl) ?_
  dsimp only [sZ, sS]
  refine wpSeq_take (d := 12) rfl rfl (by kernel_rfl) (fun w hS => by go_simp <;> with_reducible rfl) ?_
  dsimp only [sZ, sS]
  refine wpSeq_take (d := 13) rfl rfl (by kernel_rfl) (fun w hS => by go_simp <;> with_reducible rfl) ?_
  dsimp only [sZ, sS]
  refine wpSeq_take (d := 14) rfl rfl (by kernel_rfl) (fun w hS => by go_simp <;> with_reducible rfl) ?_
  dsimp only [sZ, sS]
  refine wpSeq_take (d := 15) rfl rfl (by kernel_rfl) (fun w hS => by go_simp <;> with_reducible rfl) ?_
  dsimp only [sZ, sS]
  refine wpSeq_take (d := 16) rfl rfl (by kernel_rfl) (fun w hS => by go_simp <;> with_reducible rfl) ?_
  dsimp only [sZ, sS]
  refine wpSeq_take (d := 17) (v := .tuple #[.int .i64 0, .bool false]) rfl rfl (by kernel_rfl) (fun w hS => ?_) ?_
  ·have e := cL w hS.2.2.2; go_simp
  dsimp only [sZ, sS]
  refine wpSeq_take (d := 10) rfl rfl (by kernel_rfl) (fun w hS => by go_simp <;> with_reducible rfl) ?_
  dsimp only [sZ, sS]
  refine wpSeq_take (d := 18) rfl rfl (by kernel_rfl) (fun w hS => by go_simp <;> with_reducible rfl) ?_
  dsimp only [sZ, sS]
  refine wpSeq_take (d := 19) rfl rfl (by kernel_rfl) (fun w hS => by go_simp <;> with_reducible rfl) ?_
  dsimp only [sZ, sS]
  refine wpSeq_take (d := 5) rfl rfl (by kernel_rfl) (fun w hS => by go_simp <;> with_reducible rfl) ?_
  dsimp only [sZ, sS]
  refine wpSeq_take (d := 6) rfl rfl (by kernel_rfl) (fun w hS => by go_simp <;> with_reducible rfl) ?_
  dsimp only [sZ, sS]
  refine wpSeq_done ?_
  refine NoPanic.normal ?_
  go_wp2
  go_ret
  refine ⟨by rw [HN.out]; rfl, ?_, (Bw.tn _ _).drew, Bw.drew.tm bf⟩
  have : fillN ws fs n r c = fs := by unfold fillN; rw [HN.out]; simp
  rw [this]
  exact HF.out.same (Bw.below.block _ (by obtain ⟨es, c, ho⟩ := HF.out.obj; exact obj_lt ho))
 ·obtain ⟨i, x, hi, hxn⟩ : ∃ (i : Nat) (x : Wr), ws[i]? = some x ∧ x.n = n := by
   obtain ⟨m, hm, he⟩ := List.any_eq_true.1 hnm
   obtain ⟨x, hx, hxm⟩ := List.mem_map.1 hm
   subst hxm
   obtain ⟨i, hi⟩ := List.getElem?_of_mem hx
   refine ⟨i, x, hi, ?_⟩
   rw [Go.Lib.toList_data, Go.Lib.toList_data] at he
   exact ByteArray.ext (Array.toList_inj.1 (by simpa using he))
  have hhas := has_yes r c hi hA
  have hAi := hA i x.n (by rw [List.getElem?_map, hi]; rfl)
  rw [hxn] at hhas hAi
  have cL := fun w => look_nm (w := w) (b := bw) (k := (ws.map (·.n)).length) hn ((hH n).trans hnm) hAi
  have hil : i < ws.length := (List.getElem?_eq_some_iff.1 hi).1
  obtain ⟨a, cap, rfl, _, _, hr5⟩ := hW1.at_ hil
  have hix : ws[i] = x := by
   rw [List.getElem?_eq_getElem hil] at hi
   exact Option.some.inj hi
  rw [hix] at hr5
  clear hix
  have hlI : (i : Int) < (ws.length : Int) := by omega
  have hi0 : (0 : Int) ≤ (i : Int) := by omega
  refine wp_region_noPanic ?_
  refine wp_region_seq (S := fun w' => B W1 w' ∧ w'.cell? ⟨S, 3, none⟩ = some (.map (some bw)) ∧ w'.cell? ⟨G, 0, none⟩ = some (.string n) ∧ w'.ownsMap Tryz.prog 9 (plainElem Tryz.prog 3) bw (ws.map (·.n)).length D) [(0, 0), (1, 0), (2, 0), (3, 0), (4, 0), (5, 0), (6, 0), (7, 0), (8, 0), (9, 0), (10, 0), (11, 0)] [0, 1, 2, 4, 0, 16, 40, 64, 128, 128, 511, 2047] [0, 1, 2, 4, 0, 16, 40, 64, 128, 128, 256, 512] (by kernel_rfl) (by kernel_rfl) (fun _ _ _ _ _ h => h) ?_ (fun hH => ?_)
  ·exact ⟨B1.drew, s3, g0, hD⟩
  refine wpSeq_take (d := 11) rfl rfl (by kernel_rfl) (fun w hS => by go_simp <;> with_reducible rfl) ?_
  dsimp only [sZ, sS]
  refine wpSeq_take (d := 12) rfl rfl (by kernel_rfl) (fun w hS => by go_simp <;> with_reducible rfl) ?_
  dsimp only [sZ, sS]
  refine wpSeq_take (d := 13) rfl rfl (by kernel_rfl) (fun w hS => by go_simp <;> with_reducible rfl) ?_
  dsimp only [sZ, sS]
  refine wpSeq_take (d := 14) rfl rfl (by kernel_rfl) (fun w hS => by go_simp <;> with_reducible rfl) ?_
  dsimp only [sZ, sS]
  refine wpSeq_take (d := 15) rfl rfl (by kernel_rfl) (fun w hS => by go_simp <;> with_reducible rfl) ?_
  dsimp only [sZ, sS]
  refine wpSeq_take (d := 16) rfl rfl (by kernel_rfl) (fun w hS => by go_simp <;> with_reducible rfl) ?_
  dsimp only [sZ, sS]
  refine wpSeq_take (d := 17) (v := .tuple #[.int .i64 (i : Int), .bool true]) rfl rfl (by kernel_rfl) (fun w hS => ?_) ?_
  ·have e := cL w hS.2.2.2; go_simp
  dsimp only [sZ, sS]
  refine wpSeq_take (d := 10) rfl rfl (by kernel_rfl) (fun w hS => by go_simp <;> with_reducible rfl) ?_
  dsimp only [sZ, sS]
  refine wpSeq_take (d := 18) rfl rfl (by kernel_rfl) (fun w hS => by go_simp <;> with_reducible rfl) ?_
  dsimp only [sZ, sS]
  refine wpSeq_take (d := 19) rfl rfl (by kernel_rfl) (fun w hS => by go_simp <;> with_reducible rfl) ?_
  dsimp only [sZ, sS]
  refine wpSeq_take (d := 5) rfl rfl (by kernel_rfl) (fun w hS => by go_simp <;> with_reducible rfl) ?_
  dsimp only [sZ, sS]
  refine wpSeq_take (d := 6) rfl rfl (by kernel_rfl) (fun w hS => by go_simp <;> with_reducible rfl) ?_
  dsimp only [sZ, sS]
  refine wpSeq_done ?_
  refine NoPanic.normal ?_
  have s0 : W1.drew.cell? ⟨S, 0, none⟩ = some (.slice (some a) ws.length cap) := obj_cell (w := W1.drew) oS1 0
  obtain ⟨xv, l4, l4s⟩ := hr5.l
  obtain ⟨xo, xc, rfl⟩ := secs_form l4s
  clear l4s
  have l0 := hr5.n
  rw [hxn] at l0
  have l1 := hr5.x
  have l2 := hr5.y
  have l3 := hr5.z
  have g1 : W1.cell? ⟨G, 1, none⟩ = some (.int .i64 r) := obj_cell oG 1
  have g2 : W1.cell? ⟨G, 2, none⟩ = some (.int .i64 c) := obj_cell oG 2
  have s5 : W1.cell? ⟨S, 5, none⟩ = some (.map (some bf)) := obj_cell oS1 5
  have hSl := obj_lt oS1
  clear hH hA hAi hr5 hD0 hE0 hT hS oS hW1 hi cL
  obtain ⟨X, hX⟩ : ∃ X, x.x = X := ⟨_, rfl⟩
  obtain ⟨Y, hY⟩ : ∃ Y, x.y = Y := ⟨_, rfl⟩
  rw [hX] at l1 hhas
  rw [hY] at l2 hhas
  obtain ⟨Z, hZ⟩ : ∃ Z, x.z = Z := ⟨_, rfl⟩
  rw [hZ] at l3
  clear hX hY hZ hxn
  by_cases b1 : r < 0
  ·have k1 : decide (r < 0) = true := decide_eq_true b1
   by_cases z : True
   ·have hno : hasW ws n r c = false := by rw [hhas]; exact decide_eq_false (by omega)
    have HN := Lib.hid hno
    clear hhas hno b1
    go_wp2
    go_ret
    refine ⟨by rw [HN.out]; rfl, ?_, ((Bw.tn _ _).drew).alloc _ _, (Bw.drew.alloc _ _).tm bf⟩
    have : fillN ws fs n r c = fs := by unfold fillN; rw [HN.out]; simp
    rw [this]
    exact HF.out.same (((Bw.drew.alloc _ _)).below.block _ (by obtain ⟨es, c, ho⟩ := HF.out.obj; exact obj_lt ho))
   ·exact absurd trivial z
  have k1 : decide (r < 0) = false := decide_eq_false b1
  by_cases b2 : X ≤ r
  ·have k2 : decide (X ≤ r) = true := decide_eq_true b2
   by_cases z : True
   ·have hno : hasW ws n r c = false := by rw [hhas]; exact decide_eq_false (by omega)
    have HN := Lib.hid hno
    clear hhas hno b1 b2
    go_wp2
    go_ret
    refine ⟨by rw [HN.out]; rfl, ?_, ((Bw.tn _ _).drew).alloc _ _, (Bw.drew.alloc _ _).tm bf⟩
    have : fillN ws fs n r c = fs := by unfold fillN; rw [HN.out]; simp
    rw [this]
    exact HF.out.same (((Bw.drew.alloc _ _)).below.block _ (by obtain ⟨es, c, ho⟩ := HF.out.obj; exact obj_lt ho))
   ·exact absurd trivial z
  have k2 : decide (X ≤ r) = false := decide_eq_false b2
  by_cases b3 : c < 0
  ·have k3 : decide (c < 0) = true := decide_eq_true b3
   by_cases z : True
   ·have hno : hasW ws n r c = false := by rw [hhas]; exact decide_eq_false (by omega)
    have HN := Lib.hid hno
    clear hhas hno b1 b2 b3
    go_wp2
    go_ret
    refine ⟨by rw [HN.out]; rfl, ?_, ((Bw.tn _ _).drew).alloc _ _, (Bw.drew.alloc _ _).tm bf⟩
    have : fillN ws fs n r c = fs := by unfold fillN; rw [HN.out]; simp
    rw [this]
    exact HF.out.same (((Bw.drew.alloc _ _)).below.block _ (by obtain ⟨es, c, ho⟩ := HF.out.obj; exact obj_lt ho))
   ·exact absurd trivial z
  have k3 : decide (c < 0) = false := decide_eq_false b3
  by_cases b4 : Y ≤ c
  ·have k4 : decide (Y ≤ c) = true := decide_eq_true b4
   by_cases z : True
   ·have hno : hasW ws n r c = false := by rw [hhas]; exact decide_eq_false (by omega)
    have HN := Lib.hid hno
    clear hhas hno b1 b2 b3 b4
    go_wp2
    go_ret
    refine ⟨by rw [HN.out]; rfl, ?_, ((Bw.tn _ _).drew).alloc _ _, (Bw.drew.alloc _ _).tm bf⟩
    have : fillN ws fs n r c = fs := by unfold fillN; rw [HN.out]; simp
    rw [this]
    exact HF.out.same (((Bw.drew.alloc _ _)).below.block _ (by obtain ⟨es, c, ho⟩ := HF.out.obj; exact obj_lt ho))
   ·exact absurd trivial z
  have k4 : decide (Y ≤ c) = false := decide_eq_false b4
  have hyes : hasW ws n r c = true := by rw [hhas]; exact decide_eq_true (by omega)
  have HY := Lib.hid hyes
  clear hhas hyes b1 b2 b3 b4
  generalize x.l.length = xl at *
  go_wp2
  have B3 : B W1 (W1.alloc (.cells #[.string n, .int .i64 X, .int .i64 Y, .int .i64 Z, .slice xo xl xc] 33)).drew := ((B.refl W1).alloc _ _).drew
  replace s5 := B3.keep s5
  replace g0 := B3.keep g0
  replace g1 := B3.keep g1
  replace g2 := B3.keep g2
  replace hE := ownsMap_same hE (B3.below.block _ hE.lt)
  clear l0 l1 l2 l3 l4 s0 s3 hD oS1 oG
  generalize (W1.alloc (.cells #[.string n, .int .i64 X, .int .i64 Y, .int .i64 Z, .slice xo xl xc] 33)).drew = W3 at *
  have hfl := hHE n r c hn hr hc
  cases hfill : filledW fs n r c
  ·have cE := fun w => look_fl (w := w) (b := bf) (k := fs.length) hn hr hc (hfl.trans hfill)
   have cU := fun (w : World) (hE : w.ownsMap Tryz.prog 39 unitElem bf fs.length E) => hE.store wellKeyed Tryz.underlying117 (by unfold maxLen; omega) (key_well n r c hn hr hc) (unitElem_mk (H := Unit))
   replace hfill := Lib.hid hfill
   refine wp_region_noPanic ?_
   refine wp_region_seq (S := fun w' => B W1 w' ∧ w'.cell? ⟨S, 5, none⟩ = some (.map (some bf)) ∧ w'.cell? ⟨G, 0, none⟩ = some (.string n) ∧ w'.cell? ⟨G, 1, none⟩ = some (.int .i64 r) ∧ w'.cell? ⟨G, 2, none⟩ = some (.int .i64 c) ∧ w'.ownsMap Tryz.prog 39 unitElem bf fs.length E) [(0, 0), (1, 0), (2, 0), (3, 0), (4, 0), (5, 0), (6, 0), (7, 0), (8, 0), (9, 2), (10, 2), (11, 0)] [0, 1, 2, 4, 0, 24, 32, 64, 64, 0, 767, 2047] [0, 1, 2, 4, 0, 24, 32, 64, 64, 0, 640, 256] (by kernel_rfl) (by kernel_rfl) (fun _ _ _ _ _ h => h) ?_ (fun hH => ?_)
   ·exact ⟨B3.drew, s5, g0, g1, g2, hE⟩
   refine wpSeq_take (d := 53) rfl rfl (by kernel_rfl) (fun w hS => by go_simp <;> with_reducible rfl) ?_
   dsimp only [sZ, sS]
   refine wpSeq_take (d := 54) rfl rfl (by kernel_rfl) (fun w hS => by go_simp <;> with_reducible rfl) ?_
   dsimp only [sZ, sS]
   refine wpSeq_take (d := 55) rfl rfl (by kernel_rfl) (fun w hS => by go_simp <;> with_reducible rfl) ?_
   dsimp only [sZ, sS]
   refine wpSeq_take (d := 56) rfl rfl (by kernel_rfl) (fun w hS => by go_simp <;> with_reducible rfl) ?_
   dsimp only [sZ, sS]
   refine wpSeq_take (d := 57) rfl rfl (by kernel_rfl) (fun w hS => by go_simp <;> with_reducible rfl) ?_
   dsimp only [sZ, sS]
   refine wpSeq_take (d := 58) (v := .tuple #[.agg #[], .bool false]) rfl rfl (by kernel_rfl) (fun w hS => ?_) ?_
   ·have e := cE w hS.2.2.2.2.2; go_simp
   dsimp only [sZ, sS]
   refine wpSeq_take (d := 52) rfl rfl (by kernel_rfl) (fun w hS => by go_simp <;> with_reducible rfl) ?_
   dsimp only [sZ, sS]
   refine wpSeq_take (d := 59) rfl rfl (by kernel_rfl) (fun w hS => by go_simp <;> with_reducible rfl) ?_
   dsimp only [sZ, sS]
   refine wpSeq_take (d := 60) rfl rfl (by kernel_rfl) (fun w hS => by go_simp <;> with_reducible rfl) ?_
   dsimp only [sZ, sS]
   refine wpSeq_call rfl (by kernel_rfl) (fun K hK => ?_)
   go_simp
   refine hK.out _ _ ?_ (fun hH => ?_)
   ·first | exact hH | exact ⟨hH.1.alloc _ _, ((B.refl _).alloc _ _).keep hH.2.1, ((B.refl _).alloc _ _).keep hH.2.2.1, ((B.refl _).alloc _ _).keep hH.2.2.2.1, ((B.refl _).alloc _ _).keep hH.2.2.2.2.1, hH.2.2.2.2.2.alloc _⟩
   clear hK
   refine wpSeq_call rfl (by kernel_rfl) (fun K hK => ?_)
   go_simp
   refine hK.out _ _ ?_ (fun hH => ?_)
   ·first | exact hH | exact ⟨hH.1.alloc _ _, ((B.refl _).alloc _ _).keep hH.2.1, ((B.refl _).alloc _ _).keep hH.2.2.1, ((B.refl _).alloc _ _).keep hH.2.2.2.1, ((B.refl _).alloc _ _).keep hH.2.2.2.2.1, hH.2.2.2.2.2.alloc _⟩
   clear hK
   refine wpSeq_take (d := 9) rfl rfl (by kernel_rfl) (fun w hS => by go_simp <;> with_reducible rfl) ?_
   dsimp only [sZ, sS]
   refine wpSeq_done ?_
   refine NoPanic.normal ?_
   clear s5 g0 g1 g2 hE cE
   obtain ⟨hB4, s5, g0, g1, g2, hE⟩ := hH
   go_wp2
   refine wp_region_noPanic ?_
   refine wp_region_gate (S := fun w' => B W1 w' ∧ w'.cell? ⟨S, 5, none⟩ = some (.map (some bf)) ∧ w'.cell? ⟨G, 0, none⟩ = some (.string n) ∧ w'.cell? ⟨G, 1, none⟩ = some (.int .i64 r) ∧ w'.cell? ⟨G, 2, none⟩ = some (.int .i64 c) ∧ w'.ownsMap Tryz.prog 39 unitElem bf fs.length E) 6 [(0, 3), (1, 3), (2, 3), (3, 0), (4, 0), (5, 3), (6, 4)] [0, 1, 2, 4, 0, 0, 63] [0, 1, 2, 4, 0, 0, 56] [0, 0, 0, 72, 80, 0, 0] (by kernel_rfl) (by kernel_rfl) (fun _ _ _ _ _ h => h) ?_ (fun hH => ?_)
   ·exact ⟨hB4.drew, s5, g0, g1, g2, hE⟩
   refine wpSeqG_free (d := 62) (v := ?_) rfl rfl (by kernel_rfl) (fun w => ?_) ?_
   rotate_left
   ·go_simp <;> with_reducible rfl
   dsimp only [sZ, sS]
   refine wpSeqG_free (d := 63) (v := ?_) rfl rfl (by kernel_rfl) (fun w => ?_) ?_
   rotate_left
   ·go_simp <;> with_reducible rfl
   dsimp only [sZ, sS]
   refine wpSeqG_free (d := 64) (v := ?_) rfl rfl (by kernel_rfl) (fun w => ?_) ?_
   rotate_left
   ·go_simp <;> with_reducible rfl
   dsimp only [sZ, sS]
   refine wpSeqG_take (d := 65) (v := ?_) rfl rfl (by kernel_rfl) (fun w hS => ?_) ?_
   rotate_left
   ·go_simp <;> with_reducible rfl
   dsimp only [sZ, sS]
   refine wpSeqG_take (d := 66) (v := ?_) rfl rfl (by kernel_rfl) (fun w hS => ?_) ?_
   rotate_left
   ·go_simp <;> with_reducible rfl
   dsimp only [sZ, sS]
   refine wpSeqG_free (d := 67) (v := ?_) rfl rfl (by kernel_rfl) (fun w => ?_) ?_
   rotate_left
   ·go_simp <;> with_reducible rfl
   dsimp only [sZ, sS]
   refine wpSeqG_gate rfl (by kernel_rfl) (fun K hK => ?_)
   go_simp
   obtain ⟨w4, e4, hE4, ht4⟩ := cU _ hH.2.2.2.2.2
   have t4 := (hH.1.tn kM base).trans (turned_tn ht4 hbf (by decide))
   have u4 := (hH.1.tm bf).trans (turned_tm ht4)
   rw [e4]
   go_simp
   clear hH
   refine hK.out _ _ ?_
   clear hK
   refine wpSeqG_done ?_
   refine NoPanic.normal ?_
   go_wp2
   go_ret
   refine ⟨by rw [HY.out, hfill.out]; rfl, ?_, (Bw.tn _ _).trans t4, (Bw.tm bf).trans u4⟩
   have : fillN ws fs n r c = fs ++ [⟨n, r, c, 0⟩] := by unfold fillN; rw [HY.out, hfill.out]; simp
   rw [this]
   exact ⟨_, by simpa using hE4, hM.put _ _, filled_put hM hn hr hc hHE⟩
  ·have cE := fun w => look_fl (w := w) (b := bf) (k := fs.length) hn hr hc (hfl.trans hfill)
   replace hfill := Lib.hid hfill
   refine wp_region_noPanic ?_
   refine wp_region_seq (S := fun w' => B W1 w' ∧ w'.cell? ⟨S, 5, none⟩ = some (.map (some bf)) ∧ w'.cell? ⟨G, 0, none⟩ = some (.string n) ∧ w'.cell? ⟨G, 1, none⟩ = some (.int .i64 r) ∧ w'.cell? ⟨G, 2, none⟩ = some (.int .i64 c) ∧ w'.ownsMap Tryz.prog 39 unitElem bf fs.length E) [(0, 0), (1, 0), (2, 0), (3, 0), (4, 0), (5, 0), (6, 0), (7, 0), (8, 0), (9, 2), (10, 2), (11, 0)] [0, 1, 2, 4, 0, 24, 32, 64, 64, 0, 767, 2047] [0, 1, 2, 4, 0, 24, 32, 64, 64, 0, 640, 256] (by kernel_rfl) (by kernel_rfl) (fun _ _ _ _ _ h => h) ?_ (fun hH => ?_)
   ·exact ⟨B3.drew, s5, g0, g1, g2, hE⟩
   refine wpSeq_take (d := 53) rfl rfl (by kernel_rfl) (fun w hS => by go_simp <;> with_reducible rfl) ?_
   dsimp only [sZ, sS]
   refine wpSeq_take (d := 54) rfl rfl (by kernel_rfl) (fun w hS => by go_simp <;> with_reducible rfl) ?_
   dsimp only [sZ, sS]
   refine wpSeq_take (d := 55) rfl rfl (by kernel_rfl) (fun w hS => by go_simp <;> with_reducible rfl) ?_
   dsimp only [sZ, sS]
   refine wpSeq_take (d := 56) rfl rfl (by kernel_rfl) (fun w hS => by go_simp <;> with_reducible rfl) ?_
   dsimp only [sZ, sS]
   refine wpSeq_take (d := 57) rfl rfl (by kernel_rfl) (fun w hS => by go_simp <;> with_reducible rfl) ?_
   dsimp only [sZ, sS]
   refine wpSeq_take (d := 58) (v := .tuple #[.agg #[], .bool true]) rfl rfl (by kernel_rfl) (fun w hS => ?_) ?_
   ·have e := cE w hS.2.2.2.2.2; go_simp
   dsimp only [sZ, sS]
   refine wpSeq_take (d := 52) rfl rfl (by kernel_rfl) (fun w hS => by go_simp <;> with_reducible rfl) ?_
   dsimp only [sZ, sS]
   refine wpSeq_take (d := 59) rfl rfl (by kernel_rfl) (fun w hS => by go_simp <;> with_reducible rfl) ?_
   dsimp only [sZ, sS]
   refine wpSeq_take (d := 60) rfl rfl (by kernel_rfl) (fun w hS => by go_simp <;> with_reducible rfl) ?_
   dsimp only [sZ, sS]
   refine wpSeq_call rfl (by kernel_rfl) (fun K hK => ?_)
   go_simp
   refine hK.out _ _ ?_ (fun hH => ?_)
   ·first | exact hH | exact ⟨hH.1.alloc _ _, ((B.refl _).alloc _ _).keep hH.2.1, ((B.refl _).alloc _ _).keep hH.2.2.1, ((B.refl _).alloc _ _).keep hH.2.2.2.1, ((B.refl _).alloc _ _).keep hH.2.2.2.2.1, hH.2.2.2.2.2.alloc _⟩
   clear hK
   refine wpSeq_call rfl (by kernel_rfl) (fun K hK => ?_)
   go_simp
   refine hK.out _ _ ?_ (fun hH => ?_)
   ·first | exact hH | exact ⟨hH.1.alloc _ _, ((B.refl _).alloc _ _).keep hH.2.1, ((B.refl _).alloc _ _).keep hH.2.2.1, ((B.refl _).alloc _ _).keep hH.2.2.2.1, ((B.refl _).alloc _ _).keep hH.2.2.2.2.1, hH.2.2.2.2.2.alloc _⟩
   clear hK
   refine wpSeq_take (d := 9) rfl rfl (by kernel_rfl) (fun w hS => by go_simp <;> with_reducible rfl) ?_
   dsimp only [sZ, sS]
   refine wpSeq_done ?_
   refine NoPanic.normal ?_
   obtain ⟨hB4, _⟩ := hH
   go_wp2
   go_ret
   refine ⟨by rw [HY.out, hfill.out]; rfl, ?_, (Bw.trans hB4).tn _ _, (Bw.trans hB4).tm bf⟩
   have : fillN ws fs n r c = fs := by unfold fillN; rw [HY.out, hfill.out]; simp
   rw [this]
   exact HF.out.same ((Bw.trans hB4).below.block _ (by obtain ⟨es, c, ho⟩ := HF.out.obj; exact obj_lt ho))
end Go.Proofs.YtalnfojaccfcjaaGreatDoor
namespace Go.Proofs
open Go.Shelf
def Tryz.lays169_ren : Go.Shelf.Ren := ⟨fun | 169 => 50 | n => n, fun | 70 => 106 | 9 => 9 | 0 => 0 | 72 => 108 | 37 => 47 | 127 => 190 | 3 => 3 | 5 => 5 | n => n, fun | n => n⟩
theorem Tryz.lays169 : Go.Proofs.Lays.n169 Tryz.prog Tryz.lays169_ren := {
 mixed := by kernel_rfl
 f169 := Tryz.func50.trans (congrArg some (by kernel_rfl))
 t0 := Tryz.underlying0
 a0 := Tryz.isAgg0
 z0 := Tryz.sizeOf0
 v0 := Tryz.zeroValue0
 t3 := Tryz.underlying3
 a3 := Tryz.isAgg3
 z3 := Tryz.sizeOf3
 v3 := Tryz.zeroValue3
 t9 := Tryz.underlying9
 a9 := Tryz.isAgg9
 z9 := Tryz.sizeOf9
 v9 := Tryz.zeroValue9
 t37 := Tryz.underlying47
 a37 := Tryz.isAgg47
 z37 := Tryz.sizeOf47
 v37 := Tryz.zeroValue47
 t70 := Tryz.underlying106
 a70 := Tryz.isAgg106
 z70 := Tryz.sizeOf106
 v70 := Tryz.zeroValue106
 t72 := Tryz.underlying108
 a72 := Tryz.isAgg108
 z72 := Tryz.sizeOf108
 v72 := Tryz.zeroValue108
 t127 := Tryz.underlying190
 a127 := Tryz.isAgg190
 z127 := Tryz.sizeOf190
 v127 := Tryz.zeroValue190 }
theorem Tryz.Builder_Extra_169 : Builder.Extra Tryz.prog Tryz.lays169_ren := {
 sizeBuilder := by kernel_rfl
 liesBuilder := by kernel_rfl
 t5 := Tryz.underlying5
 a5 := Tryz.isAgg5
 z5 := Tryz.sizeOf5
 v5 := Tryz.zeroValue5
 infoByte := by kernel_rfl
 cellsByte := by kernel_rfl
 sizeByte := by kernel_rfl
 neB5 := by decide }
open Go.RowKit in
theorem Tryz.Builder_String_any (B b : Nat) (l : List UInt8) (w : World) (h : Lib.IsBuilder 108 5 B b (Lib.byteCells l) w) (hBw : B ≤ w.heap.size) :
  Calls Tryz.prog 50 #[.pointer (some ⟨b, 0, none⟩)] w fun e w' => e = .returned (.string ⟨l.toArray⟩) ∧ Below B w w' := Any.Builder_String_any Tryz.lays169 Tryz.Builder_Extra_169 B b l w h hBw
def Tryz.laysM171_ren : Go.Shelf.Ren := ⟨fun | 171 => 94 | 243 => 126 | 246 => 125 | 283 => 146 | 284 => 147 | 285 => 148 | 286 => 149 | 129 => 166 | 317 => 165 | 318 => 167 | 319 => 168 | 320 => 169 | 337 => 183 | 338 => 184 | n => n, fun | 3 => 3 | 9 => 9 | 2 => 2 | 4 => 4 | 171 => 239 | 0 => 0 | 53 => 240 | 37 => 47 | 5 => 5 | 173 => 243 | 212 => 264 | 51 => 95 | 20 => 20 | 213 => 265 | 46 => 267 | 232 => 291 | 233 => 292 | n => n, fun | 17 => 0 | 18 => 2 | 19 => 3 | n => n⟩
theorem Tryz.laysM171 : Go.Proofs.LaysM.n171 Tryz.prog Tryz.laysM171_ren := {
 mixed := by kernel_rfl
 f129 := Tryz.func166.trans (congrArg some (by kernel_rfl))
 f171 := Tryz.func94.trans (congrArg some (by kernel_rfl))
 f243 := Tryz.func126.trans (congrArg some (by kernel_rfl))
 f246 := Tryz.func125.trans (congrArg some (by kernel_rfl))
 f283 := Tryz.func146.trans (congrArg some (by kernel_rfl))
 f284 := Tryz.func147.trans (congrArg some (by kernel_rfl))
 f285 := Tryz.func148.trans (congrArg some (by kernel_rfl))
 f286 := Tryz.func149.trans (congrArg some (by kernel_rfl))
 f317 := Tryz.func165.trans (congrArg some (by kernel_rfl))
 f318 := Tryz.func167.trans (congrArg some (by kernel_rfl))
 f319 := Tryz.func168.trans (congrArg some (by kernel_rfl))
 f320 := Tryz.func169.trans (congrArg some (by kernel_rfl))
 f337 := Tryz.func183.trans (congrArg some (by kernel_rfl))
 f338 := Tryz.func184.trans (congrArg some (by kernel_rfl))
 t0 := Tryz.underlying0
 a0 := Tryz.isAgg0
 z0 := Tryz.sizeOf0
 v0 := Tryz.zeroValue0
 t2 := Tryz.underlying2
 a2 := Tryz.isAgg2
 z2 := Tryz.sizeOf2
 v2 := Tryz.zeroValue2
 t3 := Tryz.underlying3
 a3 := Tryz.isAgg3
 z3 := Tryz.sizeOf3
 v3 := Tryz.zeroValue3
 t4 := Tryz.underlying4
 a4 := Tryz.isAgg4
 z4 := Tryz.sizeOf4
 v4 := Tryz.zeroValue4
 t5 := Tryz.underlying5
 a5 := Tryz.isAgg5
 z5 := Tryz.sizeOf5
 v5 := Tryz.zeroValue5
 t9 := Tryz.underlying9
 a9 := Tryz.isAgg9
 z9 := Tryz.sizeOf9
 v9 := Tryz.zeroValue9
 t20 := Tryz.underlying20
 a20 := Tryz.isAgg20
 z20 := Tryz.sizeOf20
 v20 := Tryz.zeroValue20
 t37 := Tryz.underlying47
 a37 := Tryz.isAgg47
 z37 := Tryz.sizeOf47
 v37 := Tryz.zeroValue47
 t46 := Tryz.underlying267
 a46 := Tryz.isAgg267
 z46 := Tryz.sizeOf267
 v46 := Tryz.zeroValue267
 t51 := Tryz.underlying95
 a51 := Tryz.isAgg95
 z51 := Tryz.sizeOf95
 v51 := Tryz.zeroValue95
 t53 := Tryz.underlying240
 a53 := Tryz.isAgg240
 z53 := Tryz.sizeOf240
 v53 := Tryz.zeroValue240
 t171 := Tryz.underlying239
 a171 := Tryz.isAgg239
 z171 := Tryz.sizeOf239
 v171 := Tryz.zeroValue239
 t173 := Tryz.underlying243
 a173 := Tryz.isAgg243
 z173 := Tryz.sizeOf243
 v173 := Tryz.zeroValue243
 t212 := Tryz.underlying264
 a212 := Tryz.isAgg264
 z212 := Tryz.sizeOf264
 v212 := Tryz.zeroValue264
 t213 := Tryz.underlying265
 a213 := Tryz.isAgg265
 z213 := Tryz.sizeOf265
 t232 := Tryz.underlying291
 a232 := Tryz.isAgg291
 z232 := Tryz.sizeOf291
 v232 := Tryz.zeroValue291
 t233 := Tryz.underlying292
 a233 := Tryz.isAgg292
 z233 := Tryz.sizeOf292
 v233 := Tryz.zeroValue292
 g17 := by kernel_rfl
 g18 := by kernel_rfl
 g19 := by kernel_rfl
 i0 := by kernel_rfl
 i2 := by kernel_rfl
 i3 := by kernel_rfl
 i4 := by kernel_rfl
 i5 := by kernel_rfl
 i9 := by kernel_rfl
 i20 := by kernel_rfl
 i37 := by kernel_rfl
 i46 := by kernel_rfl
 i51 := by kernel_rfl
 i53 := by kernel_rfl
 i171 := by kernel_rfl
 i173 := by kernel_rfl
 i212 := by kernel_rfl
 i232 := by kernel_rfl
 i233 := by kernel_rfl
 m17 := by kernel_rfl
 m18 := by kernel_rfl
 m19 := by kernel_rfl }
open Go.RowKit Go.Sort Go.Lib in
theorem Tryz.strconv_Itoa (n : Int) (h0 : -9223372036854775808 ≤ n) (h1 : n ≤ 9223372036854775807) (w : World) (htab : Lib.TabIs Tryz.prog w "internal/strconv.uint64pow10" .u64 Lib.pow10Tab) :
  Calls Tryz.prog 94 #[.int .i64 n] w fun e w' => e = .returned (.string ⟨(Lib.itoa n).toArray⟩) ∧ ∃ k os, w' = grow (w.drewN k) os := Any.strconv_Itoa Tryz.laysM171 n h0 h1 w htab
def Tryz.laysM173_ren : Go.Shelf.Ren := ⟨fun | 173 => 93 | 246 => 125 | 283 => 146 | 284 => 147 | 285 => 148 | 286 => 149 | 129 => 166 | 317 => 165 | 318 => 167 | 319 => 168 | 320 => 169 | 337 => 183 | 338 => 184 | n => n, fun | 2 => 2 | 3 => 3 | 9 => 9 | 4 => 4 | 171 => 239 | 0 => 0 | 53 => 240 | 37 => 47 | 5 => 5 | 173 => 243 | 212 => 264 | 51 => 95 | 20 => 20 | 213 => 265 | 46 => 267 | 232 => 291 | 233 => 292 | n => n, fun | 17 => 0 | 18 => 2 | 19 => 3 | n => n⟩
theorem Tryz.laysM173 : Go.Proofs.LaysM.n173 Tryz.prog Tryz.laysM173_ren := {
 mixed := by kernel_rfl
 f129 := Tryz.func166.trans (congrArg some (by kernel_rfl))
 f173 := Tryz.func93.trans (congrArg some (by kernel_rfl))
 f246 := Tryz.func125.trans (congrArg some (by kernel_rfl))
 f283 := Tryz.func146.trans (congrArg some (by kernel_rfl))
 f284 := Tryz.func147.trans (congrArg some (by kernel_rfl))
 f285 := Tryz.func148.trans (congrArg some (by kernel_rfl))
 f286 := Tryz.func149.trans (congrArg some (by kernel_rfl))
 f317 := Tryz.func165.trans (congrArg some (by kernel_rfl))
 f318 := Tryz.func167.trans (congrArg some (by kernel_rfl))
 f319 := Tryz.func168.trans (congrArg some (by kernel_rfl))
 f320 := Tryz.func169.trans (congrArg some (by kernel_rfl))
 f337 := Tryz.func183.trans (congrArg some (by kernel_rfl))
 f338 := Tryz.func184.trans (congrArg some (by kernel_rfl))
 t0 := Tryz.underlying0
 a0 := Tryz.isAgg0
 z0 := Tryz.sizeOf0
 v0 := Tryz.zeroValue0
 t2 := Tryz.underlying2
 a2 := Tryz.isAgg2
 z2 := Tryz.sizeOf2
 v2 := Tryz.zeroValue2
 t3 := Tryz.underlying3
 a3 := Tryz.isAgg3
 z3 := Tryz.sizeOf3
 v3 := Tryz.zeroValue3
 t4 := Tryz.underlying4
 a4 := Tryz.isAgg4
 z4 := Tryz.sizeOf4
 v4 := Tryz.zeroValue4
 t5 := Tryz.underlying5
 a5 := Tryz.isAgg5
 z5 := Tryz.sizeOf5
 v5 := Tryz.zeroValue5
 t9 := Tryz.underlying9
 a9 := Tryz.isAgg9
 z9 := Tryz.sizeOf9
 v9 := Tryz.zeroValue9
 t20 := Tryz.underlying20
 a20 := Tryz.isAgg20
 z20 := Tryz.sizeOf20
 v20 := Tryz.zeroValue20
 t37 := Tryz.underlying47
 a37 := Tryz.isAgg47
 z37 := Tryz.sizeOf47
 v37 := Tryz.zeroValue47
 t46 := Tryz.underlying267
 a46 := Tryz.isAgg267
 z46 := Tryz.sizeOf267
 v46 := Tryz.zeroValue267
 t51 := Tryz.underlying95
 a51 := Tryz.isAgg95
 z51 := Tryz.sizeOf95
 v51 := Tryz.zeroValue95
 t53 := Tryz.underlying240
 a53 := Tryz.isAgg240
 z53 := Tryz.sizeOf240
 v53 := Tryz.zeroValue240
 t171 := Tryz.underlying239
 a171 := Tryz.isAgg239
 z171 := Tryz.sizeOf239
 v171 := Tryz.zeroValue239
 t173 := Tryz.underlying243
 a173 := Tryz.isAgg243
 z173 := Tryz.sizeOf243
 v173 := Tryz.zeroValue243
 t212 := Tryz.underlying264
 a212 := Tryz.isAgg264
 z212 := Tryz.sizeOf264
 v212 := Tryz.zeroValue264
 t213 := Tryz.underlying265
 a213 := Tryz.isAgg265
 z213 := Tryz.sizeOf265
 t232 := Tryz.underlying291
 a232 := Tryz.isAgg291
 z232 := Tryz.sizeOf291
 v232 := Tryz.zeroValue291
 t233 := Tryz.underlying292
 a233 := Tryz.isAgg292
 z233 := Tryz.sizeOf292
 v233 := Tryz.zeroValue292
 g17 := by kernel_rfl
 g18 := by kernel_rfl
 g19 := by kernel_rfl
 i0 := by kernel_rfl
 i2 := by kernel_rfl
 i3 := by kernel_rfl
 i4 := by kernel_rfl
 i5 := by kernel_rfl
 i9 := by kernel_rfl
 i20 := by kernel_rfl
 i37 := by kernel_rfl
 i46 := by kernel_rfl
 i51 := by kernel_rfl
 i53 := by kernel_rfl
 i171 := by kernel_rfl
 i173 := by kernel_rfl
 i212 := by kernel_rfl
 i232 := by kernel_rfl
 i233 := by kernel_rfl
 m17 := by kernel_rfl
 m18 := by kernel_rfl
 m19 := by kernel_rfl }
open Go.RowKit Go.Sort Go.Lib in
theorem Tryz.strconv_FormatInt_10 (n : Int) (h0 : -9223372036854775808 ≤ n) (h1 : n ≤ 9223372036854775807) (w : World) (htab : Lib.TabIs Tryz.prog w "internal/strconv.uint64pow10" .u64 Lib.pow10Tab) :
  Calls Tryz.prog 93 #[.int .i64 n, .int .i64 10] w fun e w' => e = .returned (.string ⟨(Lib.itoa n).toArray⟩) ∧ ∃ k os, w' = grow (w.drewN k) os := Any.strconv_FormatInt_10 Tryz.laysM173 n h0 h1 w htab
def Tryz.lays219_ren : Go.Shelf.Ren := ⟨fun | 219 => 197 | 217 => 207 | 225 => 208 | 224 => 209 | 267 => 210 | 266 => 215 | 314 => 216 | n => n, fun | 9 => 9 | 3 => 3 | 4 => 4 | 5 => 5 | 46 => 267 | 146 => 303 | 51 => 95 | n => n, fun | 1 => 1 | n => n⟩
theorem Tryz.lays219 : Go.Proofs.Lays.n219 Tryz.prog Tryz.lays219_ren := {
 mixed := by kernel_rfl
 f217 := Tryz.func207.trans (congrArg some (by kernel_rfl))
 f219 := Tryz.func197.trans (congrArg some (by kernel_rfl))
 f224 := Tryz.func209.trans (congrArg some (by kernel_rfl))
 f225 := Tryz.func208.trans (congrArg some (by kernel_rfl))
 f266 := Tryz.func215.trans (congrArg some (by kernel_rfl))
 f267 := Tryz.func210.trans (congrArg some (by kernel_rfl))
 f314 := Tryz.func216.trans (congrArg some (by kernel_rfl))
 t3 := Tryz.underlying3
 a3 := Tryz.isAgg3
 z3 := Tryz.sizeOf3
 v3 := Tryz.zeroValue3
 t4 := Tryz.underlying4
 a4 := Tryz.isAgg4
 z4 := Tryz.sizeOf4
 v4 := Tryz.zeroValue4
 t5 := Tryz.underlying5
 a5 := Tryz.isAgg5
 z5 := Tryz.sizeOf5
 v5 := Tryz.zeroValue5
 t9 := Tryz.underlying9
 a9 := Tryz.isAgg9
 z9 := Tryz.sizeOf9
 v9 := Tryz.zeroValue9
 t46 := Tryz.underlying267
 a46 := Tryz.isAgg267
 z46 := Tryz.sizeOf267
 v46 := Tryz.zeroValue267
 t51 := Tryz.underlying95
 a51 := Tryz.isAgg95
 z51 := Tryz.sizeOf95
 v51 := Tryz.zeroValue95
 t146 := Tryz.underlying303
 a146 := Tryz.isAgg303
 z146 := Tryz.sizeOf303
 v146 := Tryz.zeroValue303
 g1 := by kernel_rfl }
open Go.RowKit Go.Lib in
theorem Tryz.stringslite_Index_one (s : ByteArray) (c : UInt8) (w : World) :
  Calls Tryz.prog 197 #[.string s, .string ⟨#[c]⟩] w fun e w' => e = .returned (.int .i64 (Lib.indexByte s.data.toList c)) ∧ w' = w := Any.stringslite_Index_one Tryz.lays219 s c w
end Go.Proofs
namespace Go.Proofs.YtalnfojaccfcjaaGreatDoor
open Go.RowKit
set_option linter.unusedVariables false
theorem index_dot (l : List UInt8) : Lib.indexByte l 46 = if dotAt l < l.length then (dotAt l : Int) else -1 := by
 induction l with
 | nil => rfl
 | cons b l ih =>
  by_cases hb : b.toNat = 46
  ·have e : b = 46 := by
    apply UInt8.toNat_inj.1
    simpa using hb
   subst e
   simp [Lib.indexByte, dotAt]
  ·have hne : (b == (46 : UInt8)) = false := by
    simp only [beq_eq_false_iff_ne, ne_eq]
    intro e
    subst e
    exact hb rfl
   have hd : dotAt (b :: l) = dotAt l + 1 := by
    unfold dotAt
    rw [List.takeWhile_cons, if_pos (by simpa using hb)]
    rfl
   rw [Lib.indexByte, hne, ih, hd]
   by_cases hl : dotAt l < l.length
   ·have h2 : ((dotAt l : Int) == -1) = false := by
     rw [beq_eq_false_iff_ne]
     omega
    simp only [hl, if_true, h2, Bool.false_eq_true, if_false]
    rw [if_pos (by simp; omega)]
    omega
   ·simp [hl]
theorem cut_any (l : List UInt8) (w : World) (hl : l.length ≤ 65536) : Calls Tryz.prog 170 #[.string (strB l), .string ⟨#[46]⟩] w fun e w' => e = .returned (.tuple #[.string (strB (l.take (dotAt l))), .string (strB (l.drop (dotAt l + 1))), .bool (decide (dotAt l < l.length))]) ∧ Dr w w' := by
 have hi := index_dot l
 have c1 := fun w => Tryz.stringslite_Index_one (strB l) 46 w
 have hd : (strB l).data.toList = l := rfl
 rw [hd, hi] at c1
 clear hi hd
 have hdl := dot_le l
 have hz : (strB l).size = l.length := strB_size l
 have inner : Calls Tryz.prog 185 #[.string (strB l), .string ⟨#[46]⟩] w fun e w' => e = .returned (.tuple #[.string (strB (l.take (dotAt l))), .string (strB (l.drop (dotAt l + 1))), .bool (decide (dotAt l < l.length))]) ∧ Dr w w' := by
  by_cases h : dotAt l < l.length
  ·rw [if_pos h] at c1
   generalize dotAt l = k at *
   go_enter Tryz.func185, Tryz.ntmps185
   go_wp2_with fail
   refine (c1 _).mono ?_
   rintro _ _ ⟨rfl, rfl⟩
   clear c1
   have k0 : (0 : Int) ≤ (k : Int) := by omega
   have k1 : (k : Int) ≤ ((strB l).size : Int) := by rw [hz]; omega
   have kI : (k : Int) < (l.length : Int) := by omega
   have wk : IntKind.i64.wrap ((k : Int) + 1) = (k : Int) + 1 := by rw [IntKind.wrap_i64]; omega
   go_wp2
   have e1 : (strB l).extract 0 k = strB (l.take k) := by rw [strB_sub]; simp
   have e2 : (strB l).extract (k + 1) l.length = strB (l.drop (k + 1)) := by
    rw [strB_sub, List.take_of_length_le (by simp)]
   have e3 : decide (k < l.length) = true := decide_eq_true h
   have HE := Lib.hid (And.intro e1 (And.intro e2 e3))
   clear e1 e2 e3 h
   go_region
   all_goals
    go_wp2
    obtain ⟨e1, e2, e3⟩ := HE.out
    refine bodyPost_ret (v := .tuple #[.string ((strB l).extract 0 k), .string ((strB l).extract (k + 1) l.length), .bool true]) (by simp [results, Tryz.results185, go_sem]) rfl ⟨by rw [e1, e2, e3], (Dr.refl _).trans ⟨1, rfl⟩⟩
  ·rw [if_neg h] at c1
   obtain ⟨k, hk⟩ : ∃ k, dotAt l = k := ⟨_, rfl⟩
   obtain rfl : k = l.length := by omega
   have HK := Lib.hid hk
   rw [hk]
   clear hk h hdl
   go_enter Tryz.func185, Tryz.ntmps185
   go_wp2_with fail
   refine (c1 _).mono ?_
   rintro _ _ ⟨rfl, rfl⟩
   clear c1
   go_wp2
   refine bodyPost_ret (v := .tuple #[.string (strB l), .string ⟨#[]⟩, .bool false]) (by simp [results, Tryz.results185, go_sem]) rfl ⟨?_, Dr.refl _⟩
   have e3 : decide (l.length < l.length) = false := by simp
   rw [List.take_length, List.drop_of_length_le (by omega), e3]
   rfl
 go_enter Tryz.func170, Tryz.ntmps170
 go_wp2_with fail
 refine (Calls.mono inner ?_)
 rintro _ w1 ⟨rfl, q1⟩
 go_wp2
 exact bodyPost_ret (v := .tuple #[.string (strB (l.take (dotAt l))), .string (strB (l.drop (dotAt l + 1))), .bool (decide (dotAt l < l.length))]) (by simp [results, Tryz.results170, go_sem]) rfl ⟨rfl, q1⟩
end Go.Proofs.YtalnfojaccfcjaaGreatDoor
namespace Go.Proofs.YtalnfojaccfcjaaGreatDoor
open Go.RowKit
set_option linter.unusedVariables false
def IsWd (w : World) (v : Value) (ws : List Wd) : Prop :=
 ∃ g o cap, v = .slice (some ⟨g, o, none⟩) ws.length cap ∧ ws.length ≤ cap ∧ cap ≤ maxLen ∧ ∀ i x, ws[i]? = some x → w.cell? ⟨g, o + i * 2, none⟩ = some (.int .i64 ((x.1 : Nat) : Int)) ∧ w.cell? ⟨g, o + i * 2 + 1, none⟩ = some (.string (strB x.2))
theorem IsWd.keep {w w' : World} {v : Value} {ws : List Wd} (h : IsWd w v ws) (q : B w w') : IsWd w' v ws :=
 let ⟨g, o, cap, h1, h2, h3, h4⟩ := h
 ⟨g, o, cap, h1, h2, h3, fun i x hx => ⟨q.keep (h4 i x hx).1, q.keep (h4 i x hx).2⟩⟩
theorem IsWords.wd {w : World} {v : Value} {ws : List Wd} (h : IsWords w v ws) (hn : 0 < ws.length) : IsWd w v ws := by
 obtain ⟨g, cap, h1, h2, h3, _, h5⟩ := h.full hn
 exact ⟨g, 0, cap, h1, h2, h3, fun i x hx => by simpa using h5 i x hx⟩
def RdAt (Wb w : World) (R : Nat) (l : List Wd) (p e : Int) : Prop :=
 ∃ v, w.heap[R]? = some (.cells #[v, .int .i64 p, .int .i64 e] 195 (0, 0)) ∧ IsWd Wb v l
theorem RdAt.same {Wb w w' : World} {R : Nat} {l : List Wd} {p e : Int} (h : RdAt Wb w R l p e) (hb : w'.heap[R]? = w.heap[R]?) : RdAt Wb w' R l p e :=
 let ⟨v, k1, k2⟩ := h
 ⟨v, hb.trans k1, k2⟩
def kR : List (Option TypeId) := [some 195]
set_option maxHeartbeats 1000000 in
theorem next_any (Wb w : World) (base R : Nat) (x : Wd) (l : List Wd) (p e : Int) (hb : Wb.heap.size ≤ base) (hB : B Wb w) (hR : base ≤ R) (h : RdAt Wb w R (x :: l) p e) :
  Calls Tryz.prog 150 #[.pointer (some ⟨R, 0, none⟩)] w fun r w' => r = .returned (.agg #[.int .i64 ((x.1 : Nat) : Int), .string (strB x.2)]) ∧ RdAt Wb w' R l p e ∧ Tn kR base w w' := by
 obtain ⟨v, ho, hv⟩ := h
 obtain ⟨g, o, cap, rfl, h2, h3, h4⟩ := hv
 obtain ⟨x0, x1⟩ : w.cell? ⟨g, o, none⟩ = some (.int .i64 ((x.1 : Nat) : Int)) ∧ w.cell? ⟨g, o + 1, none⟩ = some (.string (strB x.2)) := by
  have := h4 0 x rfl
  exact ⟨hB.keep (by simpa using this.1), hB.keep (by simpa using this.2)⟩
 have hgl := World.block_lt_of_cell? w _ x0
 have hRl := obj_lt ho
 have r0 : w.cell? ⟨R, 0, none⟩ = some (.slice (some ⟨g, o, none⟩) (l.length + 1) cap) := obj_cell ho 0
 have rf := obj_free ho 0
 have hl0 : (0 : Int) < ((l.length : Int) + 1) := by omega
 have hcap : (l.length : Int) + 1 ≤ (cap : Int) := by simp at h2; omega
 go_enter Tryz.func150, Tryz.ntmps150
 go_wp2
 ·refine bodyPost_ret (v := .agg #[.int .i64 ((x.1 : Nat) : Int), .string (strB x.2)]) (by simp [results, Tryz.results150, go_sem, *]) rfl ?_
  refine ⟨rfl, ⟨_, obj_past (obj_past (obj_set ho 0 _) _) _, ?_⟩, ?_⟩
  ·obtain rfl : l = [] := by
    subst h
    simp at h2
    exact h2
   refine ⟨g, o, 0, rfl, Nat.le_refl _, Nat.zero_le _, fun i y hy => by simp at hy⟩
  ·exact (((Tn.refl _ _ _).set ho (by decide) hR _).alloc _ _).alloc _ _
 ·refine bodyPost_ret (v := .agg #[.int .i64 ((x.1 : Nat) : Int), .string (strB x.2)]) (by simp [results, Tryz.results150, go_sem, *]) rfl ?_
  refine ⟨rfl, ⟨_, obj_past (obj_past (obj_set ho 0 _) _) _, ?_⟩, ?_⟩
  ·refine ⟨g, o + 2, cap - 1, rfl, by simp at h2; omega, by omega, fun i y hy => ?_⟩
   have := h4 (i + 1) y (by simpa using hy)
   rw [show o + 2 + i * 2 = o + (i + 1) * 2 by omega]
   exact this
  ·exact (((Tn.refl _ _ _).set ho (by decide) hR _).alloc _ _).alloc _ _
def askF (right : Bool) (p e a k : Int) : Int × Int := if right = false ∧ e = 0 then (a, k) else (p, e)
theorem ask_any (Wb w : World) (base R : Nat) (l : List Wd) (a : Int) (s : ByteArray) (right : Bool) (p e k : Int) (hb : Wb.heap.size ≤ base) (hB : B Wb w) (hR : base ≤ R) (h : RdAt Wb w R l p e) :
  Calls Tryz.prog 151 #[.pointer (some ⟨R, 0, none⟩), .agg #[.int .i64 a, .string s], .bool right, .int .i64 k] w fun r w' => r = .returned (.tuple #[]) ∧ RdAt Wb w' R l (askF right p e a k).1 (askF right p e a k).2 ∧ Tn kR base w w' := by
 obtain ⟨v, ho, hv⟩ := h
 have hRl := obj_lt ho
 have r1 : w.cell? ⟨R, 1, none⟩ = some (.int .i64 p) := obj_cell ho 1
 have r2 : w.cell? ⟨R, 2, none⟩ = some (.int .i64 e) := obj_cell ho 2
 have rf1 := obj_free ho 1
 have rf2 := obj_free ho 2
 cases right
 ·by_cases he : e = 0
  ·subst he
   go_enter Tryz.func151, Tryz.ntmps151
   go_wp2
   first | go_end0 | refine bodyPost_ret (results_none rfl _ _ _) rfl ?_
   refine ⟨rfl, ⟨v, obj_past (obj_set (obj_set ho 1 _) 2 _) _, hv⟩, ?_⟩
   exact (((Tn.refl _ _ _).set ho (by decide) hR _).set (obj_set ho 1 _) (by decide) hR _).alloc _ _
  ·have he' : ((e == 0) : Bool) = false := by simpa using he
   go_enter Tryz.func151, Tryz.ntmps151
   go_wp2
   first | go_end0 | refine bodyPost_ret (results_none rfl _ _ _) rfl ?_
   refine ⟨rfl, ⟨v, ?_, hv⟩, (Tn.refl _ _ _).alloc _ _⟩
   simp only [askF, he, and_false, if_false]
   exact obj_past ho _
 ·go_enter Tryz.func151, Tryz.ntmps151
  go_wp2
  first | go_end0 | refine bodyPost_ret (results_none rfl _ _ _) rfl ?_
  refine ⟨rfl, ⟨v, obj_past ho _, hv⟩, (Tn.refl _ _ _).alloc _ _⟩
def numIn (lo hi : Int) (s : ByteArray) : Bool := numOk s && decide (lo ≤ (numV s : Int)) && decide ((numV s : Int) ≤ hi)
theorem within_any (v a b : Int) (w : World) : Calls Tryz.prog 57 #[.int .i64 v, .int .i64 a, .int .i64 b] w fun e w' => e = .returned (.bool (decide (a ≤ v) && decide (v ≤ b))) ∧ w = w' := by
 by_cases h1 : a ≤ v
 ·have k1 : decide (a ≤ v) = true := decide_eq_true h1
  cases k2 : decide (v ≤ b)
  all_goals
   go_enter Tryz.func57, Tryz.ntmps57
   go_wp2
   go_ret
   exact ⟨by simp [*], rfl⟩
 ·have k1 : decide (a ≤ v) = false := decide_eq_false h1
  go_enter Tryz.func57, Tryz.ntmps57
  go_wp2
  go_ret
  exact ⟨by simp [*], rfl⟩
end Go.Proofs.YtalnfojaccfcjaaGreatDoor
namespace Go.Proofs.YtalnfojaccfcjaaGreatDoor
open Go.RowKit
set_option linter.unusedVariables false
def cwell (l : List UInt8) : Option (List UInt8 × Int × Int) :=
 match l.drop (dotAt l + 1) with
 | [] => none
 | r :: ds => if numIn 1 12 (strB ds) = true then some (l.take (dotAt l), (r.toNat : Int) - 65, (numV (strB ds) : Int) - 1) else none
def wellOV : Option (List UInt8 × Int × Int) → Value
 | some (n, r, c) => .agg #[.string (strB n), .int .i64 r, .int .i64 c]
 | none => .agg #[.string ⟨#[]⟩, .int .i64 0, .int .i64 0]
theorem wellof_any (l : List UInt8) (w : World) (hl : l.length ≤ 65536) : Calls Tryz.prog 153 #[.string (strB l)] w fun e w' => e = .returned (.tuple #[wellOV (cwell l), .bool (cwell l).isSome]) ∧ B w w' := by
 have c1 := fun w => cut_any l w hl
 have hc : cwell l = match l.drop (dotAt l + 1) with
  | [] => none
  | r :: ds => if numIn 1 12 (strB ds) = true then some (l.take (dotAt l), (r.toNat : Int) - 65, (numV (strB ds) : Int) - 1) else none := rfl
 have hdl : (l.drop (dotAt l + 1)).length ≤ 65536 := by rw [List.length_drop]; omega
 generalize cwell l = CW at *
 generalize l.take (dotAt l) = N at *
 generalize l.drop (dotAt l + 1) = PL at *
 generalize decide (dotAt l < l.length) = FB at *
 cases PL with
 | nil =>
  simp only at hc
  subst hc
  have he : (strB ([] : List UInt8)) = ⟨#[]⟩ := rfl
  rw [he] at c1
  go_enter Tryz.func153, Tryz.ntmps153
  go_wp2_with fail
  refine (c1 _).mono ?_
  rintro _ w1 ⟨rfl, ⟨m, rfl⟩⟩
  clear c1
  go_wp2
  have oR := obj_three (w := (w.alloc (.cells #[.string ⟨#[]⟩, .int .i64 0, .int .i64 0] 39)).drewN m) (obj_new w _) (.string ⟨#[]⟩) (.int .i64 0) (.int .i64 0)
  have hQ := b_three (((B.refl w).alloc #[.string ⟨#[]⟩, .int .i64 0, .int .i64 0] 39).drewN m) (Nat.le_refl _) (.string ⟨#[]⟩) (.int .i64 0) (.int .i64 0)
  have cR0 := obj_cell oR 0
  have cR1 := obj_cell oR 1
  have cR2 := obj_cell oR 2
  exact bodyPost_ret (v := .tuple #[.agg #[.string ⟨#[]⟩, .int .i64 0, .int .i64 0], .bool false]) (by simp [results, Tryz.results153, go_sem, cR0, cR1, cR2]) rfl ⟨rfl, hQ⟩
 | cons r ds =>
  simp only at hc
  have hx : (strB (r :: ds)).toList.isEmpty = false := by rw [toList_empty]; exact decide_eq_false (by rw [strB_size]; simp)
  have hz : (strB (r :: ds)).size = ds.length + 1 := by rw [strB_size]; rfl
  have hsl : (strB (r :: ds)).extract 1 (ds.length + 1) = strB ds := by
   rw [strB_sub, List.take_of_length_le (by simp)]
   rfl
  have hby : ∀ h : 0 < (strB (r :: ds)).size, (strB (r :: ds))[0] = r := fun _ => rfl
  obtain ⟨OK, hOK⟩ : ∃ b, numOk (strB ds) = b := ⟨_, rfl⟩
  obtain ⟨V, hV⟩ : ∃ n, numV (strB ds) = n := ⟨_, rfl⟩
  have hVm : V ≤ 1000000000000 := by
   rw [← hV]
   cases ho : numOk (strB ds)
   ·rw [(num_no (fun h => by have := numOk_iff.2 h; rw [ho] at this; cases this)).2]; omega
   ·rw [(num_yes (numOk_iff.1 ho)).2]; exact (numOk_iff.1 ho).2.2.2
  have hin : numIn 1 12 (strB ds) = (OK && decide ((1 : Int) ≤ (V : Int)) && decide ((V : Int) ≤ 12)) := by unfold numIn; rw [hOK, hV]
  have cn : ∀ w, Calls Tryz.prog 152 #[.string (strB ds)] w fun e w' => e = .returned (.tuple #[.int .i64 (V : Int), .bool OK]) ∧ B w w' := fun w => by rw [← hOK, ← hV]; exact number_any _ w
  rw [hin, hV] at hc
  clear hin hOK hV
  have hr256 : r.toNat < 256 := r.toNat_lt
  go_enter Tryz.func153, Tryz.ntmps153
  go_wp2_with fail
  refine (c1 _).mono ?_
  rintro _ w1 ⟨rfl, ⟨m, rfl⟩⟩
  clear c1
  go_wp2_with fail
  refine (cn _).mono ?_
  rintro _ w2 ⟨rfl, q2⟩
  clear cn
  have oR := q2.obj (show ((w.alloc (.cells #[.string ⟨#[]⟩, .int .i64 0, .int .i64 0] 39)).drewN m).heap[w.heap.size]? = _ from obj_new w _)
  have hB : B w w2 := (((B.refl w).alloc _ _).drewN m).trans q2
  have hQ3 := fun x y z => b_three hB (b := w.heap.size) (Nat.le_refl _) x y z
  have hb0 : w2.cell? ⟨w.heap.size, 0, none⟩ = some (.string ⟨#[]⟩) := obj_cell oR 0
  have hb1 : w2.cell? ⟨w.heap.size, 1, none⟩ = some (.int .i64 0) := obj_cell oR 1
  have hb2 : w2.cell? ⟨w.heap.size, 2, none⟩ = some (.int .i64 0) := obj_cell oR 2
  have hf0 := obj_free oR 0
  have hf1 := obj_free oR 1
  have hf2 := obj_free oR 2
  generalize w.heap.size = H at *
  cases OK
  ·obtain rfl : CW = none := by simpa using hc
   go_wp2
   have oR := obj_three oR (.string ⟨#[]⟩) (.int .i64 0) (.int .i64 0)
   have hQ := hQ3 (.string ⟨#[]⟩) (.int .i64 0) (.int .i64 0)
   have cR0 := obj_cell oR 0
   have cR1 := obj_cell oR 1
   have cR2 := obj_cell oR 2
   exact bodyPost_ret (v := .tuple #[.agg #[.string ⟨#[]⟩, .int .i64 0, .int .i64 0], .bool false]) (by simp [results, Tryz.results153, go_sem, cR0, cR1, cR2]) rfl ⟨rfl, hQ⟩
  ·have cw := fun w => within_any (V : Int) 1 12 w
   cases hw : (decide ((1 : Int) ≤ (V : Int)) && decide ((V : Int) ≤ 12))
   ·obtain rfl : CW = none := by
     rw [hc, if_neg]
     rw [Bool.true_and, hw]; simp
    rw [hw] at cw
    clear hw hc
    go_wp2_with (go_at_call 57; refine (cw _).mono ?_; rintro _ _ ⟨rfl, rfl⟩)
    have oR := obj_three oR (.string ⟨#[]⟩) (.int .i64 0) (.int .i64 0)
    have hQ := hQ3 (.string ⟨#[]⟩) (.int .i64 0) (.int .i64 0)
    have cR0 := obj_cell oR 0
    have cR1 := obj_cell oR 1
    have cR2 := obj_cell oR 2
    exact bodyPost_ret (v := .tuple #[.agg #[.string ⟨#[]⟩, .int .i64 0, .int .i64 0], .bool false]) (by simp [results, Tryz.results153, go_sem, cR0, cR1, cR2]) rfl ⟨rfl, hQ⟩
   ·have hV12 : 1 ≤ V ∧ V ≤ 12 := by
     simp only [Bool.and_eq_true, decide_eq_true_eq] at hw
     omega
    obtain rfl : CW = some (N, (r.toNat : Int) - 65, (V : Int) - 1) := by
     rw [hc, if_pos]
     rw [Bool.true_and, hw]
    rw [hw] at cw
    have u1 : IntKind.i64.wrap (r.toNat : Int) = (r.toNat : Int) := by rw [IntKind.wrap_i64]; omega
    have u2 : IntKind.i64.wrap ((r.toNat : Int) - 65) = (r.toNat : Int) - 65 := by rw [IntKind.wrap_i64]; omega
    have u3 : IntKind.i64.wrap ((V : Int) - 1) = (V : Int) - 1 := by rw [IntKind.wrap_i64]; omega
    have v1 : wrap64 (r.toNat : Int) = (r.toNat : Int) := by unfold wrap64; omega
    have v2 : wrap64 ((r.toNat : Int) - 65) = (r.toNat : Int) - 65 := by unfold wrap64; omega
    clear hw hc
    go_wp2_with (go_at_call 57; refine (cw _).mono ?_; rintro _ _ ⟨rfl, rfl⟩)
    have oR := obj_three oR (.string (strB N)) (.int .i64 ((r.toNat : Int) - 65)) (.int .i64 ((V : Int) - 1))
    have hQ := hQ3 (.string (strB N)) (.int .i64 ((r.toNat : Int) - 65)) (.int .i64 ((V : Int) - 1))
    have cR0 := obj_cell oR 0
    have cR1 := obj_cell oR 1
    have cR2 := obj_cell oR 2
    exact bodyPost_ret (v := .tuple #[.agg #[.string (strB N), .int .i64 ((r.toNat : Int) - 65), .int .i64 ((V : Int) - 1)], .bool true]) (by simp [results, Tryz.results153, go_sem, cR0, cR1, cR2]) rfl ⟨rfl, hQ⟩
end Go.Proofs.YtalnfojaccfcjaaGreatDoor
