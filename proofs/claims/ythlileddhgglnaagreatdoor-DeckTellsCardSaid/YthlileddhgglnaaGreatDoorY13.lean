/-
 Contracts and what they rest on.
-/
import Derived.Test.YthlileddhgglnaaGreatDoorChecked
import Derived.Lib.ConvBytes
import Derived.KernelRfl
import Derived.Lib.Hide
import Derived.BigRegion
import Derived.Deep.QuietTactic
import Derived.BigQuiet
import Derived.Laws.Strings2
import Derived.Laws.Slices
import Derived.Test.YthlileddhgglnaaGreatDoorY12
namespace Go.Proofs.YthlileddhgglnaaGreatDoor
open Go.RowKit Go.Maps Go.WideMaps
set_option linter.unusedVariables false
def FmAt (w : World) (b : Nat) (fs : List Fl) : Prop :=
 ∃ D : DataW Unit, w.ownsMap Tryz.prog 39 unitElem b fs.length D ∧ Maps.IsMap D ∧ ∀ n r c, n.size ≤ maxLen → I64 r → I64 c → Maps.has D (wkey n r c) = filledW fs n r c
theorem FmAt.new (w : World) : FmAt (w.alloc (.map #[] 0)) w.heap.size [] := ⟨_, World.ownsMap_made w _ _ _, Maps.isMap_empty, fun _ _ _ _ _ _ => rfl⟩
theorem FmAt.same {w w' : World} {b : Nat} {fs : List Fl} (h : FmAt w b fs) (hb : w'.heap[b]? = w.heap[b]?) : FmAt w' b fs :=
 let ⟨D, h1, h2⟩ := h
 ⟨D, ownsMap_same h1 hb, h2⟩
theorem FmAt.obj {w : World} {b : Nat} {fs : List Fl} (h : FmAt w b fs) : ∃ es c, w.heap[b]? = some (.map es c) := let ⟨_, h1, _⟩ := h; ownsMap_obj h1
theorem filled_put {D : DataW Unit} {fs : List Fl} {n : ByteArray} {r c v : Int} (hM : Maps.IsMap D) (hn : n.size ≤ maxLen) (hr : I64 r) (hc : I64 c)
  (hH : ∀ n r c, n.size ≤ maxLen → I64 r → I64 c → Maps.has D (wkey n r c) = filledW fs n r c) :
  ∀ n' r' c', n'.size ≤ maxLen → I64 r' → I64 c' → Maps.has (D.put (wkey n r c) (.agg [])) (wkey n' r' c') = filledW (fs ++ [⟨n, r, c, v⟩]) n' r' c' := fun n' r' c' hn' hr' hc' => by
 have e : filledW (fs ++ [⟨n, r, c, v⟩]) n' r' c' = (filledW fs n' r' c' || ((n.toList == n'.toList) && decide (r = r') && decide (c = c'))) := by simp [filledW]
 rw [e]
 by_cases h : wkey n' r' c' = wkey n r c
 ·obtain ⟨rfl, rfl, rfl⟩ := wkey_inj hn' hr' hc' hn hr hc h
  rw [has_put_same hM (show WideAt.IsKeyLit (wkey n' r' c') from trivial)]
  simp
 ·rw [has_put_other h, hH _ _ _ hn' hr' hc']
  have : ((n.toList == n'.toList) && decide (r = r') && decide (c = c')) = false := by
   cases hx : ((n.toList == n'.toList) && decide (r = r') && decide (c = c'))
   ·rfl
   ·exfalso
    simp only [Bool.and_eq_true, beq_iff_eq, decide_eq_true_eq] at hx
    obtain ⟨⟨h1, rfl⟩, rfl⟩ := hx
    have : n = n' := by
     rw [Go.Lib.toList_data, Go.Lib.toList_data] at h1
     exact ByteArray.ext (Array.toList_inj.1 h1)
    exact h (by rw [this])
  rw [this, Bool.or_false]
theorem look_nm {w : World} {b k : Nat} {D : DataW Unit} {s : ByteArray} {V : Int} {Bo : Bool} (hs : s.size ≤ maxLen) (hh : Maps.has D (.string s.data.toList) = Bo) (ha : D.atKey (.string s.data.toList) (.lit (.int .i64 0)) = .lit (.int .i64 V))
  (hD : w.ownsMap Tryz.prog 9 (plainElem Tryz.prog 3) b k D) : (Instr.lookup 105 (.map (some b)) (.string s) true).run Tryz.prog w = .ok (.tuple #[.int .i64 V, .bool Bo]) w := by
 obtain ⟨v, ps, h1, h2⟩ := hD.look_ok str9 Tryz.underlying105 (int_zero w) (plainElem_int Tryz.underlying3 (by decide)) (key9 s hs)
 obtain ⟨x, rfl, hx, _⟩ := plainElem_int_inv Tryz.underlying3 h2
 have : DataW.lit (.int .i64 x) = (.lit (.int .i64 V) : DataW Unit) := (congrArg Prod.fst hx).symm.trans ha
 obtain rfl : x = V := by simpa using this
 rw [h1, hh]
theorem unit_zero (w : World) : (zeroValue 139).run Tryz.prog w = .ok (.agg #[]) w := by kernel_rfl
theorem look_fl {w : World} {b k : Nat} {D : DataW Unit} {n : ByteArray} {r c : Int} {Bo : Bool} (hn : n.size ≤ maxLen) (hr : I64 r) (hc : I64 c) (hh : Maps.has D (wkey n r c) = Bo)
  (hD : w.ownsMap Tryz.prog 39 unitElem b k D) : (Instr.lookup 106 (.map (some b)) (.agg #[.string n, .int .i64 r, .int .i64 c]) true).run Tryz.prog w = .ok (.tuple #[.agg #[], .bool Bo]) w := by
 obtain ⟨v, ps, h1, h2⟩ := hD.look_ok wellKeyed Tryz.underlying106 (unit_zero w) unitElem_mk (key_well n r c hn hr hc)
 obtain ⟨rfl, _⟩ := unitElem_inv h2
 rw [h1, hh]
theorem index_no : ∀ (ws : List Wr) (K : Int) (n : ByteArray) (r c : Int), namedL (ws.map (·.n)) n = false → indexW ws K n r c = none
 | [], _, _, _, _, _ => rfl
 | w :: ws, K, n, r, c, h => by
  simp only [List.map_cons, namedL, List.any_cons, Bool.or_eq_false_iff] at h
  rw [indexW, h.1]
  simp only [Bool.false_eq_true, if_false]
  exact index_no ws _ n r c h.2
theorem index_yes : ∀ (ws : List Wr) (K : Int) (i : Nat) (x : Wr) (r c : Int), ws[i]? = some x → (∀ (j : Nat) y, ws[j]? = some y → j < i → (y.n.toList == x.n.toList) = false) →
  (indexW ws K x.n r c).isSome = decide (0 ≤ r ∧ r < x.x ∧ 0 ≤ c ∧ c < x.y)
 | [], _, _, _, _, _, h, _ => by simp at h
 | w :: ws, K, 0, x, r, c, h, _ => by
  obtain rfl : w = x := by simpa using h
  rw [indexW, beq_self_eq_true]
  simp only [if_true]
  split
  ·rename_i hh; simp [hh]
  ·rename_i hh; simp [hh]
 | w :: ws, K, i + 1, x, r, c, h, hne => by
  have h0 := hne 0 w rfl (by omega)
  rw [indexW, h0]
  simp only [Bool.false_eq_true, if_false]
  exact index_yes ws _ i x r c (by simpa using h) (fun j y hj hl => hne (j + 1) y (by simpa using hj) (by omega))
theorem has_yes {D : DataW Unit} {ws : List Wr} {i : Nat} {x : Wr} (r c : Int) (hx : ws[i]? = some x)
  (hA : ∀ (i : Nat) n, (ws.map (·.n))[i]? = some n → D.atKey (.string n.data.toList) (.lit (.int .i64 0)) = .lit (.int .i64 ((i : Nat) : Int))) : hasW ws x.n r c = decide (0 ≤ r ∧ r < x.x ∧ 0 ≤ c ∧ c < x.y) := by
 refine index_yes ws 0 i x r c hx (fun j y hj hl => ?_)
 cases hb : y.n.toList == x.n.toList
 ·rfl
 ·exfalso
  have h1 := hA j y.n (by rw [List.getElem?_map, hj]; rfl)
  have h2 := hA i x.n (by rw [List.getElem?_map, hx]; rfl)
  have e : y.n.data.toList = x.n.data.toList := by rw [← Go.Lib.toList_data, ← Go.Lib.toList_data]; simpa using hb
  rw [e, h2] at h1
  have : (i : Int) = (j : Int) := by simpa using h1
  omega
def fillN (ws : List Wr) (fs : List Fl) (n : ByteArray) (r c : Int) : List Fl := if (hasW ws n r c && !filledW fs n r c) = true then fs ++ [⟨n, r, c, 0⟩] else fs
set_option maxRecDepth 100000 in
set_option maxHeartbeats 1600000 in
theorem fill_any (w : World) (base S bw bf : Nat) (wv tv fv tm pv hv : Value) (ws : List Wr) (fs : List Fl) (n : ByteArray) (r c : Int) (hn : n.size ≤ maxLen) (hr : I64 r) (hc : I64 c)
  (oS : w.heap[S]? = some (.cells #[wv, tv, fv, .map (some bw), tm, .map (some bf), pv, hv] 109 (0, 0))) (hW : IsRecs w wv ws) (hw : NmAt w bw (ws.map (·.n))) (hf : FmAt w bf fs) (hbf : base ≤ bf) (hfs : fs.length < 100000) :
  Calls Tryz.prog 47 #[.pointer (some ⟨S, 0, none⟩), .agg #[.string n, .int .i64 r, .int .i64 c]] w fun e w' => e = .returned (.bool (hasW ws n r c && !filledW fs n r c)) ∧ FmAt w' bf (fillN ws fs n r c) ∧ Tn kM base w w' ∧ Tm bf w w' := by
 obtain ⟨D, hD0, hT, hS, hH, hA⟩ := hw
 have HF := Lib.hid hf
 obtain ⟨E, hE0, hM, hHE⟩ := hf
 have hWlen := hW.len
 -- the box
 have B1 : B w (w.alloc (.cells #[.string n, .int .i64 r, .int .i64 c] 39)) := (B.refl w).alloc _ _
 have oG := obj_new w (.cells #[.string n, .int .i64 r, .int .i64 c] 39)
 have oS1 := B1.obj oS
 have hD := ownsMap_same hD0 (B1.below.block _ hD0.lt)
 have hE := ownsMap_same hE0 (B1.below.block _ hE0.lt)
 have hW1 := hW.keepB B1
 have Bw := B1
 have hGlt := obj_lt oG
 go_enter Tryz.func47, Tryz.ntmps47
 go_wp2_with fail
 generalize w.alloc (.cells #[.string n, .int .i64 r, .int .i64 c] 39) = W1 at *
 generalize w.heap.size = G at *
 replace B1 := B.refl W1
 have s3 : W1.cell? ⟨S, 3, none⟩ = some (.map (some bw)) := obj_cell oS1 3
 have g0 : W1.cell? ⟨G, 0, none⟩ = some (.string n) := obj_cell oG 0
 clear hW
 cases hnm : namedL (ws.map (·.n)) n
 ·have hno : hasW ws n r c = false := by unfold hasW; rw [index_no ws 0 n r c hnm]; rfl
  have cL := fun w => look_nm (w := w) (b := bw) (k := (ws.map (·.n)).length) hn ((hH n).trans hnm) (atKey_of_not_has ((hH n).trans hnm) _)
  have HN := Lib.hid hno
  refine wp_region_noPanic ?_
  refine wp_region_seq (S := fun w' => B W1 w' ∧ w'.cell? ⟨S, 3, none⟩ = some (.map (some bw)) ∧ w'.cell? ⟨G, 0, none⟩ = some (.string n) ∧ w'.ownsMap Tryz.prog 9 (plainElem Tryz.prog 3) bw (ws.map (·.n)).length D) [(0, 0), (1, 0), (2, 0), (3, 0), (4, 0), (5, 0), (6, 0), (7, 0), (8, 0), (9, 0), (10, 0), (11, 0)] [0, 1, 2, 4, 0, 16, 40, 64, 128, 128, 511, 2047] [0, 1, 2, 4, 0, 16, 40, 64, 128, 128, 256, 512] (by kernel_rfl) (by kernel_rfl) (fun _ _ _ _ _ h => h) ?_ (fun hH => ?_)
  ·exact ⟨B1.drew, s3, g0, hD⟩
  refine wpSeq_take (d := 11) rfl rfl (by kernel_rfl) (fun w hS => by go_simp <;> with_reducible rfl) ?_
  dsimp only [sZ, sS]
  refine wpSeq_take (d := 12) rfl rfl (by kernel_rfl) (fun w hS => by go_simp <;> with_reducible rfl) ?_
  dsimp only [sZ, sS]
  refine wpSeq_take (d := 13) rfl rfl (by kernel_rfl) (fun w hS => by go_simp <;> with_reducible rfl) ?_
  dsimp only [sZ, sS]
  refine wpSeq_take (d := 14) rfl rfl (by kernel_rfl) (fun w hS => by go_simp <;> with_reducible rfl) ?_
  dsimp only [sZ, sS]
  refine wpSeq_take (d := 15) rfl rfl (by kernel_rfl) (fun w hS => by go_simp <;> with_reducible rfl) ?_
  dsimp only [sZ, sS]
  refine wpSeq_take (d := 16) rfl rfl (by kernel_rfl) (fun w hS => by go_simp <;> with_reducible rfl) ?_
  dsimp only [sZ, sS]
  refine wpSeq_take (d := 17) (v := .tuple #[.int .i64 0, .bool false]) rfl rfl (by kernel_rfl) (fun w hS => ?_) ?_
  ·have e := cL w hS.2.2.2; go_simp
  dsimp only [sZ, sS]
  refine wpSeq_take (d := 10) rfl rfl (by kernel_rfl) (fun w hS => by go_simp <;> with_reducible rfl) ?_
  dsimp only [sZ, sS]
  refine wpSeq_take (d := 18) rfl rfl (by kernel_rfl) (fun w hS => by go_simp <;> with_reducible rfl) ?_
  dsimp only [sZ, sS]
  refine wpSeq_take (d := 19) rfl rfl (by kernel_rfl) (fun w hS => by go_simp <;> with_reducible rfl) ?_
  dsimp only [sZ, sS]
  refine wpSeq_take (d := 5) rfl rfl (by kernel_rfl) (fun w hS => by go_simp <;> with_reducible rfl) ?_
  dsimp only [sZ, sS]
  refine wpSeq_take (d := 6) rfl rfl (by kernel_rfl) (fun w hS => by go_simp <;> with_reducible rfl) ?_
  dsimp only [sZ, sS]
  refine wpSeq_done ?_
  refine NoPanic.normal ?_
  go_wp2
  go_ret
  refine ⟨by rw [HN.out]; rfl, ?_, (Bw.tn _ _).drew, Bw.drew.tm bf⟩
  have : fillN ws fs n r c = fs := by unfold fillN; rw [HN.out]; simp
  rw [this]
  exact HF.out.same (Bw.below.block _ (by obtain ⟨es, c, ho⟩ := HF.out.obj; exact obj_lt ho))
 ·obtain ⟨i, x, hi, hxn⟩ : ∃ (i : Nat) (x : Wr), ws[i]? = some x ∧ x.n = n := by
   obtain ⟨m, hm, he⟩ := List.any_eq_true.1 hnm
   obtain ⟨x, hx, hxm⟩ := List.mem_map.1 hm
   subst hxm
   obtain ⟨i, hi⟩ := List.getElem?_of_mem hx
   refine ⟨i, x, hi, ?_⟩
   rw [Go.Lib.toList_data, Go.Lib.toList_data] at he
   exact ByteArray.ext (Array.toList_inj.1 (by simpa using he))
  have hhas := has_yes r c hi hA
  have hAi := hA i x.n (by rw [List.getElem?_map, hi]; rfl)
  rw [hxn] at hhas hAi
  have cL := fun w => look_nm (w := w) (b := bw) (k := (ws.map (·.n)).length) hn ((hH n).trans hnm) hAi
  have hil : i < ws.length := (List.getElem?_eq_some_iff.1 hi).1
  obtain ⟨a, cap, rfl, _, _, hr5⟩ := hW1.at_ hil
  have hix : ws[i] = x := by
   rw [List.getElem?_eq_getElem hil] at hi
   exact Option.some.inj hi
  rw [hix] at hr5
  clear hix
  have hlI : (i : Int) < (ws.length : Int) := by omega
  have hi0 : (0 : Int) ≤ (i : Int) := by omega
  refine wp_region_noPanic ?_
  refine wp_region_seq (S := fun w' => B W1 w' ∧ w'.cell? ⟨S, 3, none⟩ = some (.map (some bw)) ∧ w'.cell? ⟨G, 0, none⟩ = some (.string n) ∧ w'.ownsMap Tryz.prog 9 (plainElem Tryz.prog 3) bw (ws.map (·.n)).length D) [(0, 0), (1, 0), (2, 0), (3, 0), (4, 0), (5, 0), (6, 0), (7, 0), (8, 0), (9, 0), (10, 0), (11, 0)] [0, 1, 2, 4, 0, 16, 40, 64, 128, 128, 511, 2047] [0, 1, 2, 4, 0, 16, 40, 64, 128, 128, 256, 512] (by kernel_rfl) (by kernel_rfl) (fun _ _ _ _ _ h => h) ?_ (fun hH => ?_)
  ·exact ⟨B1.drew, s3, g0, hD⟩
  refine wpSeq_take (d := 11) rfl rfl (by kernel_rfl) (fun w hS => by go_simp <;> with_reducible rfl) ?_
  dsimp only [sZ, sS]
  refine wpSeq_take (d := 12) rfl rfl (by kernel_rfl) (fun w hS => by go_simp <;> with_reducible rfl) ?_
  dsimp only [sZ, sS]
  refine wpSeq_take (d := 13) rfl rfl (by kernel_rfl) (fun w hS => by go_simp <;> with_reducible rfl) ?_
  dsimp only [sZ, sS]
  refine wpSeq_take (d := 14) rfl rfl (by kernel_rfl) (fun w hS => by go_simp <;> with_reducible rfl) ?_
  dsimp only [sZ, sS]
  refine wpSeq_take (d := 15) rfl rfl (by kernel_rfl) (fun w hS => by go_simp <;> with_reducible rfl) ?_
  dsimp only [sZ, sS]
  refine wpSeq_take (d := 16) rfl rfl (by kernel_rfl) (fun w hS => by go_simp <;> with_reducible rfl) ?_
  dsimp only [sZ, sS]
  refine wpSeq_take (d := 17) (v := .tuple #[.int .i64 (i : Int), .bool true]) rfl rfl (by kernel_rfl) (fun w hS => ?_) ?_
  ·have e := cL w hS.2.2.2; go_simp
  dsimp only [sZ, sS]
  refine wpSeq_take (d := 10) rfl rfl (by kernel_rfl) (fun w hS => by go_simp <;> with_reducible rfl) ?_
  dsimp only [sZ, sS]
  refine wpSeq_take (d := 18) rfl rfl (by kernel_rfl) (fun w hS => by go_simp <;> with_reducible rfl) ?_
  dsimp only [sZ, sS]
  refine wpSeq_take (d := 19) rfl rfl (by kernel_rfl) (fun w hS => by go_simp <;> with_reducible rfl) ?_
  dsimp only [sZ, sS]
  refine wpSeq_take (d := 5) rfl rfl (by kernel_rfl) (fun w hS => by go_simp <;> with_reducible rfl) ?_
  dsimp only [sZ, sS]
  refine wpSeq_take (d := 6) rfl rfl (by kernel_rfl) (fun w hS => by go_simp <;> with_reducible rfl) ?_
  dsimp only [sZ, sS]
  refine wpSeq_done ?_
  refine NoPanic.normal ?_
  have s0 : W1.drew.cell? ⟨S, 0, none⟩ = some (.slice (some a) ws.length cap) := obj_cell (w := W1.drew) oS1 0
  obtain ⟨xv, l4, l4s⟩ := hr5.l
  obtain ⟨xo, xc, rfl⟩ := secs_form l4s
  clear l4s
  have l0 := hr5.n
  rw [hxn] at l0
  have l1 := hr5.x
  have l2 := hr5.y
  have l3 := hr5.z
  have g1 : W1.cell? ⟨G, 1, none⟩ = some (.int .i64 r) := obj_cell oG 1
  have g2 : W1.cell? ⟨G, 2, none⟩ = some (.int .i64 c) := obj_cell oG 2
  have s5 : W1.cell? ⟨S, 5, none⟩ = some (.map (some bf)) := obj_cell oS1 5
  have hSl := obj_lt oS1
  clear hH hA hAi hr5 hD0 hE0 hT hS oS hW1 hi cL
  obtain ⟨X, hX⟩ : ∃ X, x.x = X := ⟨_, rfl⟩
  obtain ⟨Y, hY⟩ : ∃ Y, x.y = Y := ⟨_, rfl⟩
  rw [hX] at l1 hhas
  rw [hY] at l2 hhas
  obtain ⟨Z, hZ⟩ : ∃ Z, x.z = Z := ⟨_, rfl⟩
  rw [hZ] at l3
  clear hX hY hZ hxn
  by_cases b1 : r < 0
  ·have k1 : decide (r < 0) = true := decide_eq_true b1
   by_cases z : True
   ·have hno : hasW ws n r c = false := by rw [hhas]; exact decide_eq_false (by omega)
    have HN := Lib.hid hno
    clear hhas hno b1
    go_wp2
    go_ret
    refine ⟨by rw [HN.out]; rfl, ?_, ((Bw.tn _ _).drew).alloc _ _, (Bw.drew.alloc _ _).tm bf⟩
    have : fillN ws fs n r c = fs := by unfold fillN; rw [HN.out]; simp
    rw [this]
    exact HF.out.same (((Bw.drew.alloc _ _)).below.block _ (by obtain ⟨es, c, ho⟩ := HF.out.obj; exact obj_lt ho))
   ·exact absurd trivial z
  have k1 : decide (r < 0) = false := decide_eq_false b1
  by_cases b2 : X ≤ r
  ·have k2 : decide (X ≤ r) = true := decide_eq_true b2
   by_cases z : True
   ·have hno : hasW ws n r c = false := by rw [hhas]; exact decide_eq_false (by omega)
    have HN := Lib.hid hno
    clear hhas hno b1 b2
    go_wp2
    go_ret
    refine ⟨by rw [HN.out]; rfl, ?_, ((Bw.tn _ _).drew).alloc _ _, (Bw.drew.alloc _ _).tm bf⟩
    have : fillN ws fs n r c = fs := by unfold fillN; rw [HN.out]; simp
    rw [this]
    exact HF.out.same (((Bw.drew.alloc _ _)).below.block _ (by obtain ⟨es, c, ho⟩ := HF.out.obj; exact obj_lt ho))
   ·exact absurd trivial z
  have k2 : decide (X ≤ r) = false := decide_eq_false b2
  by_cases b3 : c < 0
  ·have k3 : decide (c < 0) = true := decide_eq_true b3
   by_cases z : True
   ·have hno : hasW ws n r c = false := by rw [hhas]; exact decide_eq_false (by omega)
    have HN := Lib.hid hno
    clear hhas hno b1 b2 b3
    go_wp2
    go_ret
    refine ⟨by rw [HN.out]; rfl, ?_, ((Bw.tn _ _).drew).alloc _ _, (Bw.drew.alloc _ _).tm bf⟩
    have : fillN ws fs n r c = fs := by unfold fillN; rw [HN.out]; simp
    rw [this]
    exact HF.out.same (((Bw.drew.alloc _ _)).below.block _ (by obtain ⟨es, c, ho⟩ := HF.out.obj; exact obj_lt ho))
   ·exact absurd trivial z
  have k3 : decide (c < 0) = false := decide_eq_false b3
  by_cases b4 : Y ≤ c
  ·have k4 : decide (Y ≤ c) = true := decide_eq_true b4
   by_cases z : True
   ·have hno : hasW ws n r c = false := by rw [hhas]; exact decide_eq_false (by omega)
    have HN := Lib.hid hno
    clear hhas hno b1 b2 b3 b4
    go_wp2
    go_ret
    refine ⟨by rw [HN.out]; rfl, ?_, ((Bw.tn _ _).drew).alloc _ _, (Bw.drew.alloc _ _).tm bf⟩
    have : fillN ws fs n r c = fs := by unfold fillN; rw [HN.out]; simp
    rw [this]
    exact HF.out.same (((Bw.drew.alloc _ _)).below.block _ (by obtain ⟨es, c, ho⟩ := HF.out.obj; exact obj_lt ho))
   ·exact absurd trivial z
  have k4 : decide (Y ≤ c) = false := decide_eq_false b4
  have hyes : hasW ws n r c = true := by rw [hhas]; exact decide_eq_true (by omega)
  have HY := Lib.hid hyes
  clear hhas hyes b1 b2 b3 b4
  generalize x.l.length = xl at *
  go_wp2
  have B3 : B W1 (W1.alloc (.cells #[.string n, .int .i64 X, .int .i64 Y, .int .i64 Z, .slice xo xl xc] 33)).drew := ((B.refl W1).alloc _ _).drew
  replace s5 := B3.keep s5
  replace g0 := B3.keep g0
  replace g1 := B3.keep g1
  replace g2 := B3.keep g2
  replace hE := ownsMap_same hE (B3.below.block _ hE.lt)
  clear l0 l1 l2 l3 l4 s0 s3 hD oS1 oG
  generalize (W1.alloc (.cells #[.string n, .int .i64 X, .int .i64 Y, .int .i64 Z, .slice xo xl xc] 33)).drew = W3 at *
  have hfl := hHE n r c hn hr hc
  cases hfill : filledW fs n r c
  ·have cE := fun w => look_fl (w := w) (b := bf) (k := fs.length) hn hr hc (hfl.trans hfill)
   have cU := fun (w : World) (hE : w.ownsMap Tryz.prog 39 unitElem bf fs.length E) => hE.store wellKeyed Tryz.underlying106 (by unfold maxLen; omega) (key_well n r c hn hr hc) (unitElem_mk (H := Unit))
   replace hfill := Lib.hid hfill
   refine wp_region_noPanic ?_
   refine wp_region_seq (S := fun w' => B W1 w' ∧ w'.cell? ⟨S, 5, none⟩ = some (.map (some bf)) ∧ w'.cell? ⟨G, 0, none⟩ = some (.string n) ∧ w'.cell? ⟨G, 1, none⟩ = some (.int .i64 r) ∧ w'.cell? ⟨G, 2, none⟩ = some (.int .i64 c) ∧ w'.ownsMap Tryz.prog 39 unitElem bf fs.length E) [(0, 0), (1, 0), (2, 0), (3, 0), (4, 0), (5, 0), (6, 0), (7, 0), (8, 0), (9, 2), (10, 2), (11, 0)] [0, 1, 2, 4, 0, 24, 32, 64, 64, 0, 767, 2047] [0, 1, 2, 4, 0, 24, 32, 64, 64, 0, 640, 256] (by kernel_rfl) (by kernel_rfl) (fun _ _ _ _ _ h => h) ?_ (fun hH => ?_)
   ·exact ⟨B3.drew, s5, g0, g1, g2, hE⟩
   refine wpSeq_take (d := 53) rfl rfl (by kernel_rfl) (fun w hS => by go_simp <;> with_reducible rfl) ?_
   dsimp only [sZ, sS]
   refine wpSeq_take (d := 54) rfl rfl (by kernel_rfl) (fun w hS => by go_simp <;> with_reducible rfl) ?_
   dsimp only [sZ, sS]
   refine wpSeq_take (d := 55) rfl rfl (by kernel_rfl) (fun w hS => by go_simp <;> with_reducible rfl) ?_
   dsimp only [sZ, sS]
   refine wpSeq_take (d := 56) rfl rfl (by kernel_rfl) (fun w hS => by go_simp <;> with_reducible rfl) ?_
   dsimp only [sZ, sS]
   refine wpSeq_take (d := 57) rfl rfl (by kernel_rfl) (fun w hS => by go_simp <;> with_reducible rfl) ?_
   dsimp only [sZ, sS]
   refine wpSeq_take (d := 58) (v := .tuple #[.agg #[], .bool false]) rfl rfl (by kernel_rfl) (fun w hS => ?_) ?_
   ·have e := cE w hS.2.2.2.2.2; go_simp
   dsimp only [sZ, sS]
   refine wpSeq_take (d := 52) rfl rfl (by kernel_rfl) (fun w hS => by go_simp <;> with_reducible rfl) ?_
   dsimp only [sZ, sS]
   refine wpSeq_take (d := 59) rfl rfl (by kernel_rfl) (fun w hS => by go_simp <;> with_reducible rfl) ?_
   dsimp only [sZ, sS]
   refine wpSeq_take (d := 60) rfl rfl (by kernel_rfl) (fun w hS => by go_simp <;> with_reducible rfl) ?_
   dsimp only [sZ, sS]
   refine wpSeq_call rfl (by kernel_rfl) (fun K hK => ?_)
   go_simp
   refine hK.out _ _ ?_ (fun hH => ?_)
   ·first | exact hH | exact ⟨hH.1.alloc _ _, ((B.refl _).alloc _ _).keep hH.2.1, ((B.refl _).alloc _ _).keep hH.2.2.1, ((B.refl _).alloc _ _).keep hH.2.2.2.1, ((B.refl _).alloc _ _).keep hH.2.2.2.2.1, hH.2.2.2.2.2.alloc _⟩
   clear hK
   refine wpSeq_call rfl (by kernel_rfl) (fun K hK => ?_)
   go_simp
   refine hK.out _ _ ?_ (fun hH => ?_)
   ·first | exact hH | exact ⟨hH.1.alloc _ _, ((B.refl _).alloc _ _).keep hH.2.1, ((B.refl _).alloc _ _).keep hH.2.2.1, ((B.refl _).alloc _ _).keep hH.2.2.2.1, ((B.refl _).alloc _ _).keep hH.2.2.2.2.1, hH.2.2.2.2.2.alloc _⟩
   clear hK
   refine wpSeq_take (d := 9) rfl rfl (by kernel_rfl) (fun w hS => by go_simp <;> with_reducible rfl) ?_
   dsimp only [sZ, sS]
   refine wpSeq_done ?_
   refine NoPanic.normal ?_
   clear s5 g0 g1 g2 hE cE
   obtain ⟨hB4, s5, g0, g1, g2, hE⟩ := hH
   go_wp2
   refine wp_region_noPanic ?_
   refine wp_region_gate (S := fun w' => B W1 w' ∧ w'.cell? ⟨S, 5, none⟩ = some (.map (some bf)) ∧ w'.cell? ⟨G, 0, none⟩ = some (.string n) ∧ w'.cell? ⟨G, 1, none⟩ = some (.int .i64 r) ∧ w'.cell? ⟨G, 2, none⟩ = some (.int .i64 c) ∧ w'.ownsMap Tryz.prog 39 unitElem bf fs.length E) 6 [(0, 3), (1, 3), (2, 3), (3, 0), (4, 0), (5, 3), (6, 4)] [0, 1, 2, 4, 0, 0, 63] [0, 1, 2, 4, 0, 0, 56] [0, 0, 0, 72, 80, 0, 0] (by kernel_rfl) (by kernel_rfl) (fun _ _ _ _ _ h => h) ?_ (fun hH => ?_)
   ·exact ⟨hB4.drew, s5, g0, g1, g2, hE⟩
   refine wpSeqG_free (d := 62) (v := ?_) rfl rfl (by kernel_rfl) (fun w => ?_) ?_
   rotate_left
   ·go_simp <;> with_reducible rfl
   dsimp only [sZ, sS]
   refine wpSeqG_free (d := 63) (v := ?_) rfl rfl (by kernel_rfl) (fun w => ?_) ?_
   rotate_left
   ·go_simp <;> with_reducible rfl
   dsimp only [sZ, sS]
   refine wpSeqG_free (d := 64) (v := ?_) rfl rfl (by kernel_rfl) (fun w => ?_) ?_
   rotate_left
   ·go_simp <;> with_reducible rfl
   dsimp only [sZ, sS]
   refine wpSeqG_take (d := 65) (v := ?_) rfl rfl (by kernel_rfl) (fun w hS => ?_) ?_
   rotate_left
   ·go_simp <;> with_reducible rfl
   dsimp only [sZ, sS]
   refine wpSeqG_take (d := 66) (v := ?_) rfl rfl (by kernel_rfl) (fun w hS => ?_) ?_
   rotate_left
   ·go_simp <;> with_reducible rfl
   dsimp only [sZ, sS]
   refine wpSeqG_free (d := 67) (v := ?_) rfl rfl (by kernel_rfl) (fun w => ?_) ?_
   rotate_left
   ·go_simp <;> with_reducible rfl
   dsimp only [sZ, sS]
   refine wpSeqG_gate rfl (by kernel_rfl) (fun K hK => ?_)
   go_simp
   obtain ⟨w4, e4, hE4, ht4⟩ := cU _ hH.2.2.2.2.2
   have t4 := (hH.1.tn kM base).trans (turned_tn ht4 hbf (by decide))
   have u4 := (hH.1.tm bf).trans (turned_tm ht4)
   rw [e4]
   go_simp
   clear hH
   refine hK.out _ _ ?_
   clear hK
   refine wpSeqG_done ?_
   refine NoPanic.normal ?_
   go_wp2
   go_ret
   refine ⟨by rw [HY.out, hfill.out]; rfl, ?_, (Bw.tn _ _).trans t4, (Bw.tm bf).trans u4⟩
   have : fillN ws fs n r c = fs ++ [⟨n, r, c, 0⟩] := by unfold fillN; rw [HY.out, hfill.out]; simp
   rw [this]
   exact ⟨_, by simpa using hE4, hM.put _ _, filled_put hM hn hr hc hHE⟩
  ·have cE := fun w => look_fl (w := w) (b := bf) (k := fs.length) hn hr hc (hfl.trans hfill)
   replace hfill := Lib.hid hfill
   refine wp_region_noPanic ?_
   refine wp_region_seq (S := fun w' => B W1 w' ∧ w'.cell? ⟨S, 5, none⟩ = some (.map (some bf)) ∧ w'.cell? ⟨G, 0, none⟩ = some (.string n) ∧ w'.cell? ⟨G, 1, none⟩ = some (.int .i64 r) ∧ w'.cell? ⟨G, 2, none⟩ = some (.int .i64 c) ∧ w'.ownsMap Tryz.prog 39 unitElem bf fs.length E) [(0, 0), (1, 0), (2, 0), (3, 0), (4, 0), (5, 0), (6, 0), (7, 0), (8, 0), (9, 2), (10, 2), (11, 0)] [0, 1, 2, 4, 0, 24, 32, 64, 64, 0, 767, 2047] [0, 1, 2, 4, 0, 24, 32, 64, 64, 0, 640, 256] (by kernel_rfl) (by kernel_rfl) (fun _ _ _ _ _ h => h) ?_ (fun hH => ?_)
   ·exact ⟨B3.drew, s5, g0, g1, g2, hE⟩
   refine wpSeq_take (d := 53) rfl rfl (by kernel_rfl) (fun w hS => by go_simp <;> with_reducible rfl) ?_
   dsimp only [sZ, sS]
   refine wpSeq_take (d := 54) rfl rfl (by kernel_rfl) (fun w hS => by go_simp <;> with_reducible rfl) ?_
   dsimp only [sZ, sS]
   refine wpSeq_take (d := 55) rfl rfl (by kernel_rfl) (fun w hS => by go_simp <;> with_reducible rfl) ?_
   dsimp only [sZ, sS]
   refine wpSeq_take (d := 56) rfl rfl (by kernel_rfl) (fun w hS => by go_simp <;> with_reducible rfl) ?_
   dsimp only [sZ, sS]
   refine wpSeq_take (d := 57) rfl rfl (by kernel_rfl) (fun w hS => by go_simp <;> with_reducible rfl) ?_
   dsimp only [sZ, sS]
   refine wpSeq_take (d := 58) (v := .tuple #[.agg #[], .bool true]) rfl rfl (by kernel_rfl) (fun w hS => ?_) ?_
   ·have e := cE w hS.2.2.2.2.2; go_simp
   dsimp only [sZ, sS]
   refine wpSeq_take (d := 52) rfl rfl (by kernel_rfl) (fun w hS => by go_simp <;> with_reducible rfl) ?_
   dsimp only [sZ, sS]
   refine wpSeq_take (d := 59) rfl rfl (by kernel_rfl) (fun w hS => by go_simp <;> with_reducible rfl) ?_
   dsimp only [sZ, sS]
   refine wpSeq_take (d := 60) rfl rfl (by kernel_rfl) (fun w hS => by go_simp <;> with_reducible rfl) ?_
   dsimp only [sZ, sS]
   refine wpSeq_call rfl (by kernel_rfl) (fun K hK => ?_)
   go_simp
   refine hK.out _ _ ?_ (fun hH => ?_)
   ·first | exact hH | exact ⟨hH.1.alloc _ _, ((B.refl _).alloc _ _).keep hH.2.1, ((B.refl _).alloc _ _).keep hH.2.2.1, ((B.refl _).alloc _ _).keep hH.2.2.2.1, ((B.refl _).alloc _ _).keep hH.2.2.2.2.1, hH.2.2.2.2.2.alloc _⟩
   clear hK
   refine wpSeq_call rfl (by kernel_rfl) (fun K hK => ?_)
   go_simp
   refine hK.out _ _ ?_ (fun hH => ?_)
   ·first | exact hH | exact ⟨hH.1.alloc _ _, ((B.refl _).alloc _ _).keep hH.2.1, ((B.refl _).alloc _ _).keep hH.2.2.1, ((B.refl _).alloc _ _).keep hH.2.2.2.1, ((B.refl _).alloc _ _).keep hH.2.2.2.2.1, hH.2.2.2.2.2.alloc _⟩
   clear hK
   refine wpSeq_take (d := 9) rfl rfl (by kernel_rfl) (fun w hS => by go_simp <;> with_reducible rfl) ?_
   dsimp only [sZ, sS]
   refine wpSeq_done ?_
   refine NoPanic.normal ?_
   obtain ⟨hB4, _⟩ := hH
   go_wp2
   go_ret
   refine ⟨by rw [HY.out, hfill.out]; rfl, ?_, (Bw.trans hB4).tn _ _, (Bw.trans hB4).tm bf⟩
   have : fillN ws fs n r c = fs := by unfold fillN; rw [HY.out, hfill.out]; simp
   rw [this]
   exact HF.out.same ((Bw.trans hB4).below.block _ (by obtain ⟨es, c, ho⟩ := HF.out.obj; exact obj_lt ho))
end Go.Proofs.YthlileddhgglnaaGreatDoor
namespace Go.Proofs.YthlileddhgglnaaGreatDoor
open Go.RowKit
set_option linter.unusedVariables false
def IsWd (w : World) (v : Value) (ws : List Wd) : Prop :=
 ∃ g o cap, v = .slice (some ⟨g, o, none⟩) ws.length cap ∧ ws.length ≤ cap ∧ cap ≤ maxLen ∧ ∀ i x, ws[i]? = some x → w.cell? ⟨g, o + i * 2, none⟩ = some (.int .i64 ((x.1 : Nat) : Int)) ∧ w.cell? ⟨g, o + i * 2 + 1, none⟩ = some (.string (strB x.2))
theorem IsWd.keep {w w' : World} {v : Value} {ws : List Wd} (h : IsWd w v ws) (q : B w w') : IsWd w' v ws :=
 let ⟨g, o, cap, h1, h2, h3, h4⟩ := h
 ⟨g, o, cap, h1, h2, h3, fun i x hx => ⟨q.keep (h4 i x hx).1, q.keep (h4 i x hx).2⟩⟩
theorem IsWords.wd {w : World} {v : Value} {ws : List Wd} (h : IsWords w v ws) (hn : 0 < ws.length) : IsWd w v ws := by
 obtain ⟨g, cap, h1, h2, h3, _, h5⟩ := h.full hn
 exact ⟨g, 0, cap, h1, h2, h3, fun i x hx => by simpa using h5 i x hx⟩
def RdAt (Wb w : World) (R : Nat) (l : List Wd) (p e : Int) : Prop :=
 ∃ v, w.heap[R]? = some (.cells #[v, .int .i64 p, .int .i64 e] 179 (0, 0)) ∧ IsWd Wb v l
theorem RdAt.same {Wb w w' : World} {R : Nat} {l : List Wd} {p e : Int} (h : RdAt Wb w R l p e) (hb : w'.heap[R]? = w.heap[R]?) : RdAt Wb w' R l p e :=
 let ⟨v, k1, k2⟩ := h
 ⟨v, hb.trans k1, k2⟩
theorem within_any (v a b : Int) (w : World) : Calls Tryz.prog 48 #[.int .i64 v, .int .i64 a, .int .i64 b] w fun e w' => e = .returned (.bool (decide (a ≤ v) && decide (v ≤ b))) ∧ w = w' := by
 by_cases h1 : a ≤ v
 ·have k1 : decide (a ≤ v) = true := decide_eq_true h1
  cases k2 : decide (v ≤ b)
  all_goals
   go_enter Tryz.func48, Tryz.ntmps48
   go_wp2
   go_ret
   exact ⟨by simp [*], rfl⟩
 ·have k1 : decide (a ≤ v) = false := decide_eq_false h1
  go_enter Tryz.func48, Tryz.ntmps48
  go_wp2
  go_ret
  exact ⟨by simp [*], rfl⟩
end Go.Proofs.YthlileddhgglnaaGreatDoor
namespace Go.Proofs.YthlileddhgglnaaGreatDoor
open Go.RowKit
set_option linter.unusedVariables false
theorem grid_any (n : ByteArray) (x y z : Int) (so : Option Addr) (sn sc : Nat) (w : World) (hx : I64 x) (hy : I64 y) : Calls Tryz.prog 44 #[.agg #[.string n, .int .i64 x, .int .i64 y, .int .i64 z, .slice so sn sc]] w fun e w' => e = .returned (.bool (inB x 1 8 && inB y 1 12 && inB z 0 1000000)) ∧ B w w' := by
 have cx := fun w => within_any x 1 8 w
 have cy := fun w => within_any y 1 12 w
 have cz := fun w => within_any z 0 1000000 w
 have ex : inB x 1 8 = (decide (1 ≤ x) && decide (x ≤ 8)) := rfl
 have ey : inB y 1 12 = (decide (1 ≤ y) && decide (y ≤ 12)) := rfl
 have ez : inB z 0 1000000 = (decide (0 ≤ z) && decide (z ≤ 1000000)) := rfl
 rw [← ex] at cx
 rw [← ey] at cy
 rw [← ez] at cz
 clear ex ey ez
 have hQ := (B.refl w).alloc #[.string n, .int .i64 x, .int .i64 y, .int .i64 z, .slice so sn sc] 33
 generalize inB x 1 8 = bx at *
 generalize inB y 1 12 = by_ at *
 generalize inB z 0 1000000 = bz at *
 cases bx
 ·go_enter Tryz.func44, Tryz.ntmps44
  go_wp2_with fail
  refine (cx _).mono ?_
  rintro _ _ ⟨rfl, rfl⟩
  go_wp2
  go_ret
  exact ⟨rfl, hQ⟩
 ·cases by_
  ·go_enter Tryz.func44, Tryz.ntmps44
   go_wp2_with fail
   refine (cx _).mono ?_
   rintro _ _ ⟨rfl, rfl⟩
   go_wp2_with fail
   refine (cy _).mono ?_
   rintro _ _ ⟨rfl, rfl⟩
   go_wp2
   go_ret
   exact ⟨rfl, hQ⟩
  ·go_enter Tryz.func44, Tryz.ntmps44
   go_wp2_with fail
   refine (cx _).mono ?_
   rintro _ _ ⟨rfl, rfl⟩
   go_wp2_with fail
   refine (cy _).mono ?_
   rintro _ _ ⟨rfl, rfl⟩
   go_wp2_with fail
   refine (cz _).mono ?_
   rintro _ _ ⟨rfl, rfl⟩
   go_wp2
   go_ret
   exact ⟨by simp, hQ⟩
end Go.Proofs.YthlileddhgglnaaGreatDoor
namespace Go.Proofs.YthlileddhgglnaaGreatDoor
open Go.RowKit
set_option linter.unusedVariables false
theorem RdAt.tn {K : List (Option TypeId)} {base : Nat} {Wb w w' : World} {R : Nat} {l : List Wd} {p e : Int} (h : RdAt Wb w R l p e) (t : Tn K base w w') (hK : some 179 ∉ K) : RdAt Wb w' R l p e :=
 let ⟨v, k1, k2⟩ := h
 ⟨v, t.objc k1 hK, k2⟩
theorem NmAt.tn {K : List (Option TypeId)} {base : Nat} {w w' : World} {b : Nat} {ns : List ByteArray} (h : NmAt w b ns) (t : Tn K base w w') (hK : none ∉ K) : NmAt w' b ns := by
 obtain ⟨es, c, ho⟩ := h.obj
 exact h.same ((t.objm ho hK).trans ho.symm)
end Go.Proofs.YthlileddhgglnaaGreatDoor
namespace Go.Proofs.YthlileddhgglnaaGreatDoor
open Go.RowKit
set_option linter.unusedVariables false
theorem FmAt.tm {w w' : World} {b b' : Nat} {fs : List Fl} (h : FmAt w b fs) (t : Tm b' w w') (hb : b ≠ b') : FmAt w' b fs := by
 obtain ⟨es, c, ho⟩ := h.obj
 exact h.same ((t b es c hb ho).trans ho.symm)
theorem FmAt.tn {K : List (Option TypeId)} {base : Nat} {w w' : World} {b : Nat} {fs : List Fl} (h : FmAt w b fs) (t : Tn K base w w') (hK : none ∉ K) : FmAt w' b fs := by
 obtain ⟨es, c, ho⟩ := h.obj
 exact h.same ((t.objm ho hK).trans ho.symm)
end Go.Proofs.YthlileddhgglnaaGreatDoor
namespace Go.Proofs.YthlileddhgglnaaGreatDoor
open Go.RowKit
set_option linter.unusedVariables false
structure StAt (w : World) (base S bw bt bf : Nat) (wv tv fv pv : Value) (head : Int) (d : Dk) (nw nt : List ByteArray) (fl : List Fl) (ss tt : List Value) : Prop where
 obj : w.heap[S]? = some (.cells #[wv, tv, fv, .map (some bw), .map (some bt), .map (some bf), pv, .int .i64 head] 109 (0, 0))
 rows : Rows w base wv tv fv d ss tt
 mw : NmAt w bw nw
 mt : NmAt w bt nt
 mf : FmAt w bf fl
 gS : base ≤ S
 gw : base ≤ bw
 gt : base ≤ bt
 gf : base ≤ bf
 n1 : bw ≠ bt
 n2 : bw ≠ bf
 n3 : bt ≠ bf
section
variable {w w' : World} {base S bw bt bf : Nat} {wv tv fv pv : Value} {head : Int} {d : Dk} {nw nt : List ByteArray} {fl : List Fl} {ss tt : List Value}
theorem StAt.b (h : StAt w base S bw bt bf wv tv fv pv head d nw nt fl ss tt) (q : B w w') : StAt w' base S bw bt bf wv tv fv pv head d nw nt fl ss tt :=
 ⟨q.obj h.obj, h.rows.b q, h.mw.tn (q.tn [] base) (by simp), h.mt.tn (q.tn [] base) (by simp), h.mf.tn (q.tn [] base) (by simp), h.gS, h.gw, h.gt, h.gf, h.n1, h.n2, h.n3⟩
theorem StAt.tn {K : List (Option TypeId)} {b : Nat} (h : StAt w base S bw bt bf wv tv fv pv head d nw nt fl ss tt) (t : Tn K b w w') (h0 : none ∉ K) (h1 : some 33 ∉ K) (h2 : some 35 ∉ K) (h3 : some 41 ∉ K) (h4 : some 37 ∉ K) (h5 : some 109 ∉ K) :
  StAt w' base S bw bt bf wv tv fv pv head d nw nt fl ss tt :=
 ⟨t.objc h.obj h5, h.rows.tn t h1 h2 h3 h4, h.mw.tn t h0, h.mt.tn t h0, h.mf.tn t h0, h.gS, h.gw, h.gt, h.gf, h.n1, h.n2, h.n3⟩
end
end Go.Proofs.YthlileddhgglnaaGreatDoor
namespace Go.Proofs.YthlileddhgglnaaGreatDoor
open Go.RowKit
set_option linter.unusedVariables false
theorem named_map (ws : List Wr) (s : ByteArray) : namedL (ws.map (·.n)) s = namedW ws s := by
 unfold namedL namedW
 rw [List.any_map]
 rfl
def okW (ws : List Wr) : Prop := ∀ x ∈ ws, nameS x.n = true ∧ 1 ≤ x.x ∧ x.x ≤ 8 ∧ 1 ≤ x.y ∧ x.y ≤ 12
end Go.Proofs.YthlileddhgglnaaGreatDoor
namespace Go.Proofs.YthlileddhgglnaaGreatDoor
open Go.RowKit
set_option linter.unusedVariables false
theorem StAt.piece {w : World} {base S bw bt bf : Nat} {wv tv fv pv pv' : Value} {head : Int} {d : Dk} {nw nt : List ByteArray} {fl : List Fl} {ss tt : List Value} (h : StAt w base S bw bt bf wv tv fv pv head d nw nt fl ss tt) :
  StAt (w.setCell ⟨S, 6, none⟩ pv') base S bw bt bf wv tv fv pv' head d nw nt fl ss tt := by
 have oth : ∀ i, i ≠ S → (w.setCell ⟨S, 6, none⟩ pv').heap[i]? = w.heap[i]? := fun i hi => Below.heap_setCell _ ⟨S, 6, none⟩ _ i hi
 have mapS : ∀ {b : Nat}, (∃ es c, w.heap[b]? = some (.map es c)) → b ≠ S := fun {b} ⟨es, c, hb⟩ e => by
  rw [e, h.obj] at hb
  cases hb
 exact ⟨obj_set h.obj 6 _, h.rows.tn (K := [some 109]) (b := base) ((Tn.refl _ base w).set (p := ⟨S, 6, none⟩) h.obj (by decide) h.gS _) (by decide) (by decide) (by decide) (by decide), h.mw.same (oth _ (mapS h.mw.obj)), h.mt.same (oth _ (mapS h.mt.obj)), h.mf.same (oth _ (mapS h.mf.obj)), h.gS, h.gw, h.gt, h.gf, h.n1, h.n2, h.n3⟩
end Go.Proofs.YthlileddhgglnaaGreatDoor
namespace Go.Proofs.YthlileddhgglnaaGreatDoor
open Go.RowKit
set_option linter.unusedVariables false
def OpenAt (d : Dk) (wv tv pv : Value) (o : Nat) : Prop :=
 (o = 0 ∧ pv = .pointer none) ∨
 (o = 1 ∧ ∃ (ws0 : List Wr) (r : Wr) (g cap : Nat), d.ws = ws0 ++ [r] ∧ wv = .slice (some ⟨g, 0, none⟩) (ws0.length + 1) cap ∧ pv = .pointer (some ⟨g, ws0.length * 5 + 4, none⟩)) ∨
 (o = 2 ∧ ∃ (ws0 : List Wr) (r : Wr) (g cap : Nat), d.ts = ws0 ++ [r] ∧ tv = .slice (some ⟨g, 0, none⟩) (ws0.length + 1) cap ∧ pv = .pointer (some ⟨g, ws0.length * 5 + 4, none⟩))
def LnSt (w : World) (base S bw bt bf : Nat) (d : Dk) (o f : Nat) : Prop :=
 ∃ wv tv fv pv head ss tt, StAt w base S bw bt bf wv tv fv pv head d (d.ws.map (·.n)) (d.ts.map (·.n)) d.fs ss tt ∧ OpenAt d wv tv pv o ∧ (o ≠ 0 → head = (f : Int))
structure DkN (d : Dk) (n : Nat) : Prop where
 ok : okW d.ws
 w8 : d.ws.length ≤ 8
 t4 : d.ts.length ≤ 4
 fn : d.fs.length ≤ n
 wn : ∀ r ∈ d.ws, r.l.length ≤ n
 tn : ∀ r ∈ d.ts, r.l.length ≤ n
section
variable {w : World} {base S bw bt bf : Nat} {wv tv fv pv : Value} {head : Int} {d : Dk} {nw nt : List ByteArray} {fl : List Fl} {ss tt : List Value} {o : Nat}
end
end Go.Proofs.YthlileddhgglnaaGreatDoor
namespace Go.Proofs.YthlileddhgglnaaGreatDoor
open Go.RowKit
set_option linter.unusedVariables false
set_option maxRecDepth 100000 in
set_option maxHeartbeats 1000000 in
theorem newStand_any (ao bo co : Option Addr) (na nb nc ac bc cc : Nat) (w : World) : Calls Tryz.prog 42 #[.agg #[.slice ao na ac, .slice bo nb bc, .slice co nc cc]] w fun r w' => ∃ S bw bt bf, r = .returned (.pointer (some ⟨S, 0, none⟩)) ∧
   w'.heap[S]? = some (.cells #[.slice ao na ac, .slice bo nb bc, .slice co nc cc, .map (some bw), .map (some bt), .map (some bf), .pointer none, .int .i64 0] 109 (0, 0)) ∧ NmAt w' bw [] ∧ NmAt w' bt [] ∧ FmAt w' bf [] ∧
   w.heap.size ≤ S ∧ w.heap.size ≤ bw ∧ w.heap.size ≤ bt ∧ w.heap.size ≤ bf ∧ bw ≠ bt ∧ bw ≠ bf ∧ bt ≠ bf ∧ B w w' := by
 have k0 : (w.alloc (.cells #[.slice ao na ac, .slice bo nb bc, .slice co nc cc] 26)).cell? ⟨w.heap.size, 0, none⟩ = some (.slice ao na ac) := by rw [World.cell?_alloc_new]; rfl
 have hmm := @run_makeMap Tryz.prog
 go_enter Tryz.func42, Tryz.ntmps42
 go_wp2
 obtain ⟨w1, e1⟩ : ∃ w1, w1 = w.alloc (.cells #[.slice ao na ac, .slice bo nb bc, .slice co nc cc] 26) := ⟨_, rfl⟩
 have z1 : w1.heap.size = w.heap.size + 1 := by rw [e1]; simp
 have q1 : B w w1 := by rw [e1]; exact (B.refl w).alloc _ _
 rw [← e1]
 have qm : ∀ u : World, B u (u.alloc (.map #[] 0)) := fun u => ⟨(Below.refl _ _).alloc (Nat.le_refl _) _⟩
 have n1 := NmAt.new w1
 have n2 := NmAt.new (w1.alloc (.map #[] 0))
 have n3 := FmAt.new ((w1.alloc (.map #[] 0)).alloc (.map #[] 0))
 have z2 : (w1.alloc (.map #[] 0)).heap.size = w1.heap.size + 1 := by simp
 have z3 : ((w1.alloc (.map #[] 0)).alloc (.map #[] 0)).heap.size = w1.heap.size + 1 + 1 := by simp
 rw [z2] at n2
 rw [z3] at n3
 have qL : B (((w1.alloc (.map #[] 0)).alloc (.map #[] 0)).alloc (.map #[] 0)) ((((w1.alloc (.map #[] 0)).alloc (.map #[] 0)).alloc (.map #[] 0)).alloc (.cells #[.slice ao na ac, .slice bo nb bc, .slice co nc cc, .map (some w1.heap.size), .map (some (w1.heap.size + 1)), .map (some (w1.heap.size + 1 + 1)), .pointer none, .int .i64 0] 109)) := (B.refl _).alloc _ _
 have oS := obj_new (((w1.alloc (.map #[] 0)).alloc (.map #[] 0)).alloc (.map #[] 0)) (.cells #[.slice ao na ac, .slice bo nb bc, .slice co nc cc, .map (some w1.heap.size), .map (some (w1.heap.size + 1)), .map (some (w1.heap.size + 1 + 1)), .pointer none, .int .i64 0] 109)
 have z4 : (((w1.alloc (.map #[] 0)).alloc (.map #[] 0)).alloc (.map #[] 0)).heap.size = w1.heap.size + 1 + 1 + 1 := by simp
 rw [z4] at oS
 go_ret
 rw [← z1]
 refine ⟨_, w1.heap.size, w1.heap.size + 1, w1.heap.size + 1 + 1, rfl, oS, ?_, ?_, ?_, by omega, by omega, by omega, by omega, by omega, by omega, by omega, ((((q1.trans (qm _)).trans (qm _)).trans (qm _)).trans qL)⟩
 ·exact n1.tn ((((qm (w1.alloc (.map #[] 0))).trans (qm _)).trans qL).tn [] 0) (by simp)
 ·exact n2.tn (((qm _).trans qL).tn [] 0) (by simp)
 ·exact n3.tn (qL.tn [] 0) (by simp)
end Go.Proofs.YthlileddhgglnaaGreatDoor
namespace Go.Proofs.YthlileddhgglnaaGreatDoor
open Go.RowKit
set_option linter.unusedVariables false
theorem addN_yes {ns : List ByteArray} {s : ByteArray} (h : (nameS s && !namedL ns s) = true) : addN ns s = ns ++ [s] := by unfold addN; rw [if_pos h]
section
variable (Wb w : World) (base S bw bt bf : Nat) (v : Value) (k : Wd) (l : List Wd) (d : Dk) (o f n : Nat) (hb : Wb.heap.size ≤ base) (hB : B Wb w) (hbw : base ≤ w.heap.size) (hv : IsWd Wb v (k :: l)) (hL : LnSt w base S bw bt bf d o f) (hN : DkN d n) (hn : n ≤ 65536) (hlong : ∀ x ∈ l, x.2.length ≤ 65536)
include hb hB hbw hv hL hN hn hlong
end
end Go.Proofs.YthlileddhgglnaaGreatDoor
namespace Go.Proofs.YthlileddhgglnaaGreatDoor
open Go.RowKit
theorem named_any (s : ByteArray) (w : World) : Calls Tryz.prog 88 #[.string s] w fun e w' => e = .returned (.bool (nameS s)) ∧ B w w' := by
 by_cases h1 : s.size < 1
 ·have h1B : decide ((s.size : Int) < 1) = true := decide_eq_true (by omega)
  rw [nameS_size (.inl h1)]
  clear h1
  go_enter Tryz.func88, Tryz.ntmps88
  go_wp2
  go_ret
  exact ⟨rfl, B.refl _⟩
 have h1B : decide ((s.size : Int) < 1) = false := decide_eq_false (by omega)
 by_cases h2 : 16 < s.size
 ·have h2B : decide ((16 : Int) < (s.size : Int)) = true := decide_eq_true (by omega)
  rw [nameS_size (.inr h2)]
  clear h1 h2
  go_enter Tryz.func88, Tryz.ntmps88
  go_wp2
  go_ret
  exact ⟨rfl, B.refl _⟩
 have h2B : decide ((16 : Int) < (s.size : Int)) = false := decide_eq_false (by omega)
 have hconv := fun w => Lib.run_convert_string_bytes (P := Tryz.prog) w 9 47 5 s Tryz.underlying9 Tryz.underlying47 Tryz.underlying5
 have hcell : ∀ j, j < s.size → (Lib.bytesWorld w 5 s).cell? ⟨w.heap.size, j, none⟩ = some (.int .u8 ((byteAt s j : Nat) : Int)) := fun j hj => Lib.bytesWorld_cell w _ s j hj
 have hB : B w (Lib.bytesWorld w 5 s) := (B.refl w).bytes _ _
 have hgood := Lib.hid (fun h3 h => nameS_good (s := s) (by omega) (by omega) h3 h)
 have hbad := @nameS_bad s
 have hfst := @nameS_first s
 have HB := Lib.hid hB
 generalize nameS s = R at *
 clear hB
 go_enter Tryz.func88, Tryz.ntmps88
 go_wp2
 generalize Lib.bytesWorld w 5 s = W1 at *
 generalize w.heap.size = H at *
 go_loopw [18] (fun i wr => ∃ k : Nat, k ≤ s.size ∧ i = .int .i64 k ∧ (∀ j, j < k → (lowN (byteAt s j) || digN (byteAt s j)) = true) ∧ (0 < k → lowN (byteAt s 0) = true) ∧ W1 = wr) (fun i _ => s.size + 1 - (intOf i).toNat)
 case atStart => exact ⟨0, Nat.zero_le _, rfl, fun j hj => by omega, fun h => by omega, rfl⟩
 case round =>
  obtain ⟨k, hk, rfl, hall, h0, rfl⟩ := hrel
  by_cases hl : k < s.size
  ·obtain ⟨b, eb⟩ : ∃ b, byteAt s k = b := ⟨_, rfl⟩
   have hlB : decide ((k : Int) < (s.size : Int)) = true := decide_eq_true (by omega)
   have hlI : (k : Int) < (s.size : Int) := by omega
   have wk1 : IntKind.i64.wrap ((k : Int) + 1) = (k : Int) + 1 := by rw [IntKind.wrap_i64]; omega
   have hc := hcell k hl
   have hb := hbad hl
   have hnext : (lowN (byteAt s k) || digN (byteAt s k)) = true → ∀ j, j < k + 1 → (lowN (byteAt s j) || digN (byteAt s j)) = true := fun h j hj => by
    by_cases c : j = k
    ·subst c; exact h
    ·exact hall j (by omega)
   have hz : (k = 0 → lowN b = true) → lowN (byteAt s 0) = true := fun h => by
    by_cases c : k = 0
    ·subst c; rw [eb]; exact h rfl
    ·exact h0 (by omega)
   have hf : k = 0 → lowN b = false → R = false := fun h1 h2 => by
    subst h1; exact hfst (by rw [eb]; exact h2)
   rw [eb] at hc hb hnext
   clear eb hall h0 hcell
   have five : b < 48 ∨ (48 ≤ b ∧ b ≤ 57) ∨ (58 ≤ b ∧ b ≤ 96) ∨ (97 ≤ b ∧ b ≤ 122) ∨ 122 < b := by omega
   rcases five with c | c | c | c | c
   ·have d1 : decide (97 ≤ (b : Int)) = false := decide_eq_false (by omega)
    have d2 : decide ((b : Int) ≤ 122) = true := decide_eq_true (by omega)
    have d3 : decide (48 ≤ (b : Int)) = false := decide_eq_false (by omega)
    have d4 : decide ((b : Int) ≤ 57) = true := decide_eq_true (by omega)
    have l1 : lowN b = false := by unfold lowN; simp; omega
    have l2 : digN b = false := by unfold digN; simp; omega
    obtain rfl := hb (by rw [l1, l2]; rfl)
    clear hnext hz hf hb l1 l2
    go_wp2
    go_ret
    exact ⟨rfl, HB.out⟩
   ·have d1 : decide (97 ≤ (b : Int)) = false := decide_eq_false (by omega)
    have d2 : decide ((b : Int) ≤ 122) = true := decide_eq_true (by omega)
    have d3 : decide (48 ≤ (b : Int)) = true := decide_eq_true (by omega)
    have d4 : decide ((b : Int) ≤ 57) = true := decide_eq_true (by omega)
    have l1 : lowN b = false := by unfold lowN; simp; omega
    have l2 : digN b = true := by unfold digN; simp; omega
    by_cases k0 : k = 0
    ·obtain rfl := hf k0 l1
     subst k0
     clear hnext hz hf hb l1 l2
     go_wp2
     go_ret
     exact ⟨rfl, HB.out⟩
    ·have k0B : ((k : Int) == 0) = false := by simp; omega
     have HA := Lib.hid (hnext (by rw [l1, l2]; rfl))
     have HZ := Lib.hid (hz (fun h => by first | exact l1 | omega))
     clear hnext hz hf hb l1 l2
     go_wp2
     go_roundw
     case rel => exact ⟨k + 1, by omega, by go_num, HA.out, fun _ => HZ.out, trivial⟩
     case measure => simp [intOf]; omega
   ·have d1 : decide (97 ≤ (b : Int)) = false := decide_eq_false (by omega)
    have d2 : decide ((b : Int) ≤ 122) = true := decide_eq_true (by omega)
    have d3 : decide (48 ≤ (b : Int)) = true := decide_eq_true (by omega)
    have d4 : decide ((b : Int) ≤ 57) = false := decide_eq_false (by omega)
    have l1 : lowN b = false := by unfold lowN; simp; omega
    have l2 : digN b = false := by unfold digN; simp; omega
    obtain rfl := hb (by rw [l1, l2]; rfl)
    clear hnext hz hf hb l1 l2
    go_wp2
    go_ret
    exact ⟨rfl, HB.out⟩
   ·have d1 : decide (97 ≤ (b : Int)) = true := decide_eq_true (by omega)
    have d2 : decide ((b : Int) ≤ 122) = true := decide_eq_true (by omega)
    have d3 : decide (48 ≤ (b : Int)) = true := decide_eq_true (by omega)
    have d4 : decide ((b : Int) ≤ 57) = false := decide_eq_false (by omega)
    have l1 : lowN b = true := by unfold lowN; simp; omega
    have l2 : digN b = false := by unfold digN; simp; omega
    have HA := Lib.hid (hnext (by rw [l1, l2]; rfl))
    have HZ := Lib.hid (hz (fun h => by first | exact l1 | omega))
    clear hnext hz hf hb l1 l2
    go_wp2
    go_roundw
    case rel => exact ⟨k + 1, by omega, by go_num, HA.out, fun _ => HZ.out, trivial⟩
    case measure => simp [intOf]; omega
   ·have d1 : decide (97 ≤ (b : Int)) = true := decide_eq_true (by omega)
    have d2 : decide ((b : Int) ≤ 122) = false := decide_eq_false (by omega)
    have d3 : decide (48 ≤ (b : Int)) = true := decide_eq_true (by omega)
    have d4 : decide ((b : Int) ≤ 57) = false := decide_eq_false (by omega)
    have l1 : lowN b = false := by unfold lowN; simp; omega
    have l2 : digN b = false := by unfold digN; simp; omega
    obtain rfl := hb (by rw [l1, l2]; rfl)
    clear hnext hz hf hb l1 l2
    go_wp2
    go_ret
    exact ⟨rfl, HB.out⟩
  ·have hlB : decide ((k : Int) < (s.size : Int)) = false := decide_eq_false (by omega)
   have HR := Lib.hid (hgood.out (h0 (by omega)) (fun i hi => hall i (by omega)))
   clear hall hgood hbad
   go_wp2
   go_ret
   exact ⟨by rw [HR.out]; rfl, HB.out⟩
end Go.Proofs.YthlileddhgglnaaGreatDoor
namespace Go.Proofs.YthlileddhgglnaaGreatDoor
open Go.RowKit
theorem r8in_any (v a b : Int) (w : World) :
  Calls Tryz.prog 51 #[.int .i64 v, .int .i64 a, .int .i64 b] w fun e w' => e = .returned (.bool (inB v a b)) ∧ w = w' := by
 unfold inB
 have hb : decide (a ≤ v) = true ∨ decide (a ≤ v) = false := by cases decide (a ≤ v) <;> simp
 rcases hb with hb | hb
 all_goals
  go_enter Tryz.func51, Tryz.ntmps51
  go_wp2
  go_ret
  exact ⟨by simp [hb], rfl⟩
end Go.Proofs.YthlileddhgglnaaGreatDoor
