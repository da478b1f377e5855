/-
 Contracts and what they rest on.
-/
import Derived.Lib.Hide
import Derived.Test.YtglniapfnhedoaaGreatDoorChecked
import Derived.KernelRfl
import Derived.Deep.QuietTactic
import Derived.Lib.ConvBytes
import Derived.Test.YtglniapfnhedoaaGreatDoorY10
namespace Go.Proofs.YtglniapfnhedoaaGreatDoor
open Go.RowKit Go.Maps Go.WideMaps
set_option linter.unusedVariables false
def FmAt (w : World) (b : Nat) (fs : List Fl) : Prop :=
 ∃ D : DataW Unit, w.ownsMap Tryz.prog 39 unitElem b fs.length D ∧ Maps.IsMap D ∧ ∀ n r c, n.size ≤ maxLen → I64 r → I64 c → Maps.has D (wkey n r c) = filledW fs n r c
theorem FmAt.new (w : World) : FmAt (w.alloc (.map #[] 0)) w.heap.size [] := ⟨_, World.ownsMap_made w _ _ _, Maps.isMap_empty, fun _ _ _ _ _ _ => rfl⟩
theorem FmAt.same {w w' : World} {b : Nat} {fs : List Fl} (h : FmAt w b fs) (hb : w'.heap[b]? = w.heap[b]?) : FmAt w' b fs :=
 let ⟨D, h1, h2⟩ := h
 ⟨D, ownsMap_same h1 hb, h2⟩
theorem FmAt.obj {w : World} {b : Nat} {fs : List Fl} (h : FmAt w b fs) : ∃ es c, w.heap[b]? = some (.map es c) := let ⟨_, h1, _⟩ := h; ownsMap_obj h1
theorem filled_put {D : DataW Unit} {fs : List Fl} {n : ByteArray} {r c v : Int} (hM : Maps.IsMap D) (hn : n.size ≤ maxLen) (hr : I64 r) (hc : I64 c)
  (hH : ∀ n r c, n.size ≤ maxLen → I64 r → I64 c → Maps.has D (wkey n r c) = filledW fs n r c) :
  ∀ n' r' c', n'.size ≤ maxLen → I64 r' → I64 c' → Maps.has (D.put (wkey n r c) (.agg [])) (wkey n' r' c') = filledW (fs ++ [⟨n, r, c, v⟩]) n' r' c' := fun n' r' c' hn' hr' hc' => by
 have e : filledW (fs ++ [⟨n, r, c, v⟩]) n' r' c' = (filledW fs n' r' c' || ((n.toList == n'.toList) && decide (r = r') && decide (c = c'))) := by simp [filledW]
 rw [e]
 by_cases h : wkey n' r' c' = wkey n r c
 ·obtain ⟨rfl, rfl, rfl⟩ := wkey_inj hn' hr' hc' hn hr hc h
  rw [has_put_same hM (show WideAt.IsKeyLit (wkey n' r' c') from trivial)]
  simp
 ·rw [has_put_other h, hH _ _ _ hn' hr' hc']
  have : ((n.toList == n'.toList) && decide (r = r') && decide (c = c')) = false := by
   cases hx : ((n.toList == n'.toList) && decide (r = r') && decide (c = c'))
   ·rfl
   ·exfalso
    simp only [Bool.and_eq_true, beq_iff_eq, decide_eq_true_eq] at hx
    obtain ⟨⟨h1, rfl⟩, rfl⟩ := hx
    have : n = n' := by
     rw [Go.Lib.toList_data, Go.Lib.toList_data] at h1
     exact ByteArray.ext (Array.toList_inj.1 h1)
    exact h (by rw [this])
  rw [this, Bool.or_false]
theorem look_nm {w : World} {b k : Nat} {D : DataW Unit} {s : ByteArray} {V : Int} {Bo : Bool} (hs : s.size ≤ maxLen) (hh : Maps.has D (.string s.data.toList) = Bo) (ha : D.atKey (.string s.data.toList) (.lit (.int .i64 0)) = .lit (.int .i64 V))
  (hD : w.ownsMap Tryz.prog 9 (plainElem Tryz.prog 3) b k D) : (Instr.lookup 76 (.map (some b)) (.string s) true).run Tryz.prog w = .ok (.tuple #[.int .i64 V, .bool Bo]) w := by
 obtain ⟨v, ps, h1, h2⟩ := hD.look_ok str9 Tryz.underlying76 (int_zero w) (plainElem_int Tryz.underlying3 (by decide)) (key9 s hs)
 obtain ⟨x, rfl, hx, _⟩ := plainElem_int_inv Tryz.underlying3 h2
 have : DataW.lit (.int .i64 x) = (.lit (.int .i64 V) : DataW Unit) := (congrArg Prod.fst hx).symm.trans ha
 obtain rfl : x = V := by simpa using this
 rw [h1, hh]
theorem unit_zero (w : World) : (zeroValue 117).run Tryz.prog w = .ok (.agg #[]) w := by kernel_rfl
theorem look_fl {w : World} {b k : Nat} {D : DataW Unit} {n : ByteArray} {r c : Int} {Bo : Bool} (hn : n.size ≤ maxLen) (hr : I64 r) (hc : I64 c) (hh : Maps.has D (wkey n r c) = Bo)
  (hD : w.ownsMap Tryz.prog 39 unitElem b k D) : (Instr.lookup 77 (.map (some b)) (.agg #[.string n, .int .i64 r, .int .i64 c]) true).run Tryz.prog w = .ok (.tuple #[.agg #[], .bool Bo]) w := by
 obtain ⟨v, ps, h1, h2⟩ := hD.look_ok wellKeyed Tryz.underlying77 (unit_zero w) unitElem_mk (key_well n r c hn hr hc)
 obtain ⟨rfl, _⟩ := unitElem_inv h2
 rw [h1, hh]
theorem index_no : ∀ (ws : List Wr) (K : Int) (n : ByteArray) (r c : Int), namedL (ws.map (·.n)) n = false → indexW ws K n r c = none
 | [], _, _, _, _, _ => rfl
 | w :: ws, K, n, r, c, h => by
  simp only [List.map_cons, namedL, List.any_cons, Bool.or_eq_false_iff] at h
  rw [indexW, h.1]
  simp only [Bool.false_eq_true, if_false]
  exact index_no ws _ n r c h.2
theorem index_yes : ∀ (ws : List Wr) (K : Int) (i : Nat) (x : Wr) (r c : Int), ws[i]? = some x → (∀ (j : Nat) y, ws[j]? = some y → j < i → (y.n.toList == x.n.toList) = false) →
  (indexW ws K x.n r c).isSome = decide (0 ≤ r ∧ r < x.x ∧ 0 ≤ c ∧ c < x.y)
 | [], _, _, _, _, _, h, _ => by simp at h
 | w :: ws, K, 0, x, r, c, h, _ => by
  obtain rfl : w = x := by simpa using h
  rw [indexW, beq_self_eq_true]
  simp only [if_true]
  split
  ·rename_i hh; simp [hh]
  ·rename_i hh; simp [hh]
 | w :: ws, K, i + 1, x, r, c, h, hne => by
  have h0 := hne 0 w rfl (by omega)
  rw [indexW, h0]
  simp only [Bool.false_eq_true, if_false]
  exact index_yes ws _ i x r c (by simpa using h) (fun j y hj hl => hne (j + 1) y (by simpa using hj) (by omega))
theorem has_yes {D : DataW Unit} {ws : List Wr} {i : Nat} {x : Wr} (r c : Int) (hx : ws[i]? = some x)
  (hA : ∀ (i : Nat) n, (ws.map (·.n))[i]? = some n → D.atKey (.string n.data.toList) (.lit (.int .i64 0)) = .lit (.int .i64 ((i : Nat) : Int))) : hasW ws x.n r c = decide (0 ≤ r ∧ r < x.x ∧ 0 ≤ c ∧ c < x.y) := by
 refine index_yes ws 0 i x r c hx (fun j y hj hl => ?_)
 cases hb : y.n.toList == x.n.toList
 ·rfl
 ·exfalso
  have h1 := hA j y.n (by rw [List.getElem?_map, hj]; rfl)
  have h2 := hA i x.n (by rw [List.getElem?_map, hx]; rfl)
  have e : y.n.data.toList = x.n.data.toList := by rw [← Go.Lib.toList_data, ← Go.Lib.toList_data]; simpa using hb
  rw [e, h2] at h1
  have : (i : Int) = (j : Int) := by simpa using h1
  omega
def fillN (ws : List Wr) (fs : List Fl) (n : ByteArray) (r c : Int) : List Fl := if (hasW ws n r c && !filledW fs n r c) = true then fs ++ [⟨n, r, c, 0⟩] else fs
set_option maxRecDepth 100000 in
set_option maxHeartbeats 1600000 in
theorem fill_any (w : World) (base S bw bf : Nat) (wv tv fv tm pv hv : Value) (ws : List Wr) (fs : List Fl) (n : ByteArray) (r c : Int) (hn : n.size ≤ maxLen) (hr : I64 r) (hc : I64 c)
  (oS : w.heap[S]? = some (.cells #[wv, tv, fv, .map (some bw), tm, .map (some bf), pv, hv] 80 (0, 0))) (hW : IsRecs w wv ws) (hw : NmAt w bw (ws.map (·.n))) (hf : FmAt w bf fs) (hbf : base ≤ bf) (hfs : fs.length < 100000) :
  Calls Tryz.prog 29 #[.pointer (some ⟨S, 0, none⟩), .agg #[.string n, .int .i64 r, .int .i64 c]] w fun e w' => e = .returned (.bool (hasW ws n r c && !filledW fs n r c)) ∧ FmAt w' bf (fillN ws fs n r c) ∧ Tn kM base w w' ∧ Tm bf w w' := by
 obtain ⟨D, hD0, hT, hS, hH, hA⟩ := hw
 have HF := Lib.hid hf
 obtain ⟨E, hE0, hM, hHE⟩ := hf
 have hWlen := hW.len
 -- the box
 have B1 : B w (w.alloc (.cells #[.string n, .int .i64 r, .int .i64 c] 39)) := (B.refl w).alloc _ _
 have oG := obj_new w (.cells #[.string n, .int .i64 r, .int .i64 c] 39)
 have oS1 := B1.obj oS
 have hD := ownsMap_same hD0 (B1.below.block _ hD0.lt)
 have hE := ownsMap_same hE0 (B1.below.block _ hE0.lt)
 have hW1 := hW.keepB B1
 have Bw := B1
 have hGlt := obj_lt oG
 go_enter Tryz.func29, Tryz.ntmps29
 go_wp2_with fail
 generalize w.alloc (.cells #[.string n, .int .i64 r, .int .i64 c] 39) = W1 at *
 generalize w.heap.size = G at *
 replace B1 := B.refl W1
 have s3 : W1.cell? ⟨S, 3, none⟩ = some (.map (some bw)) := obj_cell oS1 3
 have g0 : W1.cell? ⟨G, 0, none⟩ = some (.string n) := obj_cell oG 0
 clear hW
 cases hnm : namedL (ws.map (·.n)) n
 ·have hno : hasW ws n r c = false := by unfold hasW; rw [index_no ws 0 n r c hnm]; rfl
  have cL := fun w => look_nm (w := w) (b := bw) (k := (ws.map (·.n)).length) hn ((hH n).trans hnm) (atKey_of_not_has ((hH n).trans hnm) _)
  have HN := Lib.hid hno
  refine wp_region_noPanic ?_
  refine wp_region_seq (S := fun w' => B W1 w' ∧ w'.cell? ⟨S, 3, none⟩ = some (.map (some bw)) ∧ w'.cell? ⟨G, 0, none⟩ = some (.string n) ∧ w'.ownsMap Tryz.prog 9 (plainElem Tryz.prog 3) bw (ws.map (·.n)).length D) [(0, 0), (1, 0), (2, 0), (3, 0), (4, 0), (5, 0), (6, 0), (7, 0), (8, 0), (9, 0), (10, 0), (11, 0)] [0, 1, 2, 4, 0, 16, 40, 64, 128, 128, 511, 2047] [0, 1, 2, 4, 0, 16, 40, 64, 128, 128, 256, 512] (by kernel_rfl) (by kernel_rfl) (fun _ _ _ _ _ h => h) ?_ (fun hH => ?_)
  ·exact ⟨B1.drew, s3, g0, hD⟩
  refine wpSeq_take (d := 11) rfl rfl (by kernel_rfl) (fun w hS => by go_simp <;> with_reducible rfl) ?_
  dsimp only [sZ, sS]
  refine wpSeq_take (d := 12) rfl rfl (by kernel_rfl) (fun w hS => by go_simp <;> with_reducible rfl) ?_
  dsimp only [sZ, sS]
  refine wpSeq_take (d := 13) rfl rfl (by kernel_rfl) (fun w hS => by go_simp <;> with_reducible rfl) ?_
  dsimp only [sZ, sS]
  refine wpSeq_take (d := 14) rfl rfl (by kernel_rfl) (fun w hS => by go_simp <;> with_reducible rfl) ?_
  dsimp only [sZ, sS]
  refine wpSeq_take (d := 15) rfl rfl (by kernel_rfl) (fun w hS => by go_simp <;> with_reducible rfl) ?_
  dsimp only [sZ, sS]
  refine wpSeq_take (d := 16) rfl rfl (by kernel_rfl) (fun w hS => by go_simp <;> with_reducible rfl) ?_
  dsimp only [sZ, sS]
  refine wpSeq_take (d := 17) (v := .tuple #[.int .i64 0, .bool false]) rfl rfl (by kernel_rfl) (fun w hS => ?_) ?_
  ·have e := cL w hS.2.2.2; go_simp
  dsimp only [sZ, sS]
  refine wpSeq_take (d := 10) rfl rfl (by kernel_rfl) (fun w hS => by go_simp <;> with_reducible rfl) ?_
  dsimp only [sZ, sS]
  refine wpSeq_take (d := 18) rfl rfl (by kernel_rfl) (fun w hS => by go_simp <;> with_reducible rfl) ?_
  dsimp only [sZ, sS]
  refine wpSeq_take (d := 19) rfl rfl (by kernel_rfl) (fun w hS => by go_simp <;> with_reducible rfl) ?_
  dsimp only [sZ, sS]
  refine wpSeq_take (d := 5) rfl rfl (by kernel_rfl) (fun w hS => by go_simp <;> with_reducible rfl) ?_
  dsimp only [sZ, sS]
  refine wpSeq_take (d := 6) rfl rfl (by kernel_rfl) (fun w hS => by go_simp <;> with_reducible rfl) ?_
  dsimp only [sZ, sS]
  refine wpSeq_done ?_
  refine NoPanic.normal ?_
  go_wp2
  go_ret
  refine ⟨by rw [HN.out]; rfl, ?_, (Bw.tn _ _).drew, Bw.drew.tm bf⟩
  have : fillN ws fs n r c = fs := by unfold fillN; rw [HN.out]; simp
  rw [this]
  exact HF.out.same (Bw.below.block _ (by obtain ⟨es, c, ho⟩ := HF.out.obj; exact obj_lt ho))
 ·obtain ⟨i, x, hi, hxn⟩ : ∃ (i : Nat) (x : Wr), ws[i]? = some x ∧ x.n = n := by
   obtain ⟨m, hm, he⟩ := List.any_eq_true.1 hnm
   obtain ⟨x, hx, hxm⟩ := List.mem_map.1 hm
   subst hxm
   obtain ⟨i, hi⟩ := List.getElem?_of_mem hx
   refine ⟨i, x, hi, ?_⟩
   rw [Go.Lib.toList_data, Go.Lib.toList_data] at he
   exact ByteArray.ext (Array.toList_inj.1 (by simpa using he))
  have hhas := has_yes r c hi hA
  have hAi := hA i x.n (by rw [List.getElem?_map, hi]; rfl)
  rw [hxn] at hhas hAi
  have cL := fun w => look_nm (w := w) (b := bw) (k := (ws.map (·.n)).length) hn ((hH n).trans hnm) hAi
  have hil : i < ws.length := (List.getElem?_eq_some_iff.1 hi).1
  obtain ⟨a, cap, rfl, _, _, hr5⟩ := hW1.at_ hil
  have hix : ws[i] = x := by
   rw [List.getElem?_eq_getElem hil] at hi
   exact Option.some.inj hi
  rw [hix] at hr5
  clear hix
  have hlI : (i : Int) < (ws.length : Int) := by omega
  have hi0 : (0 : Int) ≤ (i : Int) := by omega
  refine wp_region_noPanic ?_
  refine wp_region_seq (S := fun w' => B W1 w' ∧ w'.cell? ⟨S, 3, none⟩ = some (.map (some bw)) ∧ w'.cell? ⟨G, 0, none⟩ = some (.string n) ∧ w'.ownsMap Tryz.prog 9 (plainElem Tryz.prog 3) bw (ws.map (·.n)).length D) [(0, 0), (1, 0), (2, 0), (3, 0), (4, 0), (5, 0), (6, 0), (7, 0), (8, 0), (9, 0), (10, 0), (11, 0)] [0, 1, 2, 4, 0, 16, 40, 64, 128, 128, 511, 2047] [0, 1, 2, 4, 0, 16, 40, 64, 128, 128, 256, 512] (by kernel_rfl) (by kernel_rfl) (fun _ _ _ _ _ h => h) ?_ (fun hH => ?_)
  ·exact ⟨B1.drew, s3, g0, hD⟩
  refine wpSeq_take (d := 11) rfl rfl (by kernel_rfl) (fun w hS => by go_simp <;> with_reducible rfl) ?_
  dsimp only [sZ, sS]
  refine wpSeq_take (d := 12) rfl rfl (by kernel_rfl) (fun w hS => by go_simp <;> with_reducible rfl) ?_
  dsimp only [sZ, sS]
  refine wpSeq_take (d := 13) rfl rfl (by kernel_rfl) (fun w hS => by go_simp <;> with_reducible rfl) ?_
  dsimp only [sZ, sS]
  refine wpSeq_take (d := 14) rfl rfl (by kernel_rfl) (fun w hS => by go_simp <;> with_reducible rfl) ?_
  dsimp only [sZ, sS]
  refine wpSeq_take (d := 15) rfl rfl (by kernel_rfl) (fun w hS => by go_simp <;> with_reducible rfl) ?_
  dsimp only [sZ, sS]
  refine wpSeq_take (d := 16) rfl rfl (by kernel_rfl) (fun w hS => by go_simp <;> with_reducible rfl) ?_
  dsimp only [sZ, sS]
  refine wpSeq_take (d := 17) (v := .tuple #[.int .i64 (i : Int), .bool true]) rfl rfl (by kernel_rfl) (fun w hS => ?_) ?_
  ·have e := cL w hS.2.2.2; go_simp
  dsimp only [sZ, sS]
  refine wpSeq_take (d := 10) rfl rfl (by kernel_rfl) (fun w hS => by go_simp <;> with_reducible rfl) ?_
  dsimp only [sZ, sS]
  refine wpSeq_take (d := 18) rfl rfl (by kernel_rfl) (fun w hS => by go_simp <;> with_reducible rfl) ?_
  dsimp only [sZ, sS]
  refine wpSeq_take (d := 19) rfl rfl (by kernel_rfl) (fun w hS => by go_simp <;> with_reducible rfl) ?_
  dsimp only [sZ, sS]
  refine wpSeq_take (d := 5) rfl rfl (by kernel_rfl) (fun w hS => by go_simp <;> with_reducible rfl) ?_
  dsimp only [sZ, sS]
  refine wpSeq_take (d := 6) rfl rfl (by kernel_rfl) (fun w hS => by go_simp <;> with_reducible rfl) ?_
  dsimp only [sZ, sS]
  refine wpSeq_done ?_
  refine NoPanic.normal ?_
  have s0 : W1.drew.cell? ⟨S, 0, none⟩ = some (.slice (some a) ws.length cap) := obj_cell (w := W1.drew) oS1 0
  obtain ⟨xv, l4, l4s⟩ := hr5.l
  obtain ⟨xo, xc, rfl⟩ := secs_form l4s
  clear l4s
  have l0 := hr5.n
  rw [hxn] at l0
  have l1 := hr5.x
  have l2 := hr5.y
  have l3 := hr5.z
  have g1 : W1.cell? ⟨G, 1, none⟩ = some (.int .i64 r) := obj_cell oG 1
  have g2 : W1.cell? ⟨G, 2, none⟩ = some (.int .i64 c) := obj_cell oG 2
  have s5 : W1.cell? ⟨S, 5, none⟩ = some (.map (some bf)) := obj_cell oS1 5
  have hSl := obj_lt oS1
  clear hH hA hAi hr5 hD0 hE0 hT hS oS hW1 hi cL
  obtain ⟨X, hX⟩ : ∃ X, x.x = X := ⟨_, rfl⟩
  obtain ⟨Y, hY⟩ : ∃ Y, x.y = Y := ⟨_, rfl⟩
  rw [hX] at l1 hhas
  rw [hY] at l2 hhas
  obtain ⟨Z, hZ⟩ : ∃ Z, x.z = Z := ⟨_, rfl⟩
  rw [hZ] at l3
  clear hX hY hZ hxn
  by_cases b1 : r < 0
  ·have k1 : decide (r < 0) = true := decide_eq_true b1
   by_cases z : True
   ·have hno : hasW ws n r c = false := by rw [hhas]; exact decide_eq_false (by omega)
    have HN := Lib.hid hno
    clear hhas hno b1
    go_wp2
    go_ret
    refine ⟨by rw [HN.out]; rfl, ?_, ((Bw.tn _ _).drew).alloc _ _, (Bw.drew.alloc _ _).tm bf⟩
    have : fillN ws fs n r c = fs := by unfold fillN; rw [HN.out]; simp
    rw [this]
    exact HF.out.same (((Bw.drew.alloc _ _)).below.block _ (by obtain ⟨es, c, ho⟩ := HF.out.obj; exact obj_lt ho))
   ·exact absurd trivial z
  have k1 : decide (r < 0) = false := decide_eq_false b1
  by_cases b2 : X ≤ r
  ·have k2 : decide (X ≤ r) = true := decide_eq_true b2
   by_cases z : True
   ·have hno : hasW ws n r c = false := by rw [hhas]; exact decide_eq_false (by omega)
    have HN := Lib.hid hno
    clear hhas hno b1 b2
    go_wp2
    go_ret
    refine ⟨by rw [HN.out]; rfl, ?_, ((Bw.tn _ _).drew).alloc _ _, (Bw.drew.alloc _ _).tm bf⟩
    have : fillN ws fs n r c = fs := by unfold fillN; rw [HN.out]; simp
    rw [this]
    exact HF.out.same (((Bw.drew.alloc _ _)).below.block _ (by obtain ⟨es, c, ho⟩ := HF.out.obj; exact obj_lt ho))
   ·exact absurd trivial z
  have k2 : decide (X ≤ r) = false := decide_eq_false b2
  by_cases b3 : c < 0
  ·have k3 : decide (c < 0) = true := decide_eq_true b3
   by_cases z : True
   ·have hno : hasW ws n r c = false := by rw [hhas]; exact decide_eq_false (by omega)
    have HN := Lib.hid hno
    clear hhas hno b1 b2 b3
    go_wp2
    go_ret
    refine ⟨by rw [HN.out]; rfl, ?_, ((Bw.tn _ _).drew).alloc _ _, (Bw.drew.alloc _ _).tm bf⟩
    have : fillN ws fs n r c = fs := by unfold fillN; rw [HN.out]; simp
    rw [this]
    exact HF.out.same (((Bw.drew.alloc _ _)).below.block _ (by obtain ⟨es, c, ho⟩ := HF.out.obj; exact obj_lt ho))
   ·exact absurd trivial z
  have k3 : decide (c < 0) = false := decide_eq_false b3
  by_cases b4 : Y ≤ c
  ·have k4 : decide (Y ≤ c) = true := decide_eq_true b4
   by_cases z : True
   ·have hno : hasW ws n r c = false := by rw [hhas]; exact decide_eq_false (by omega)
    have HN := Lib.hid hno
    clear hhas hno b1 b2 b3 b4
    go_wp2
    go_ret
    refine ⟨by rw [HN.out]; rfl, ?_, ((Bw.tn _ _).drew).alloc _ _, (Bw.drew.alloc _ _).tm bf⟩
    have : fillN ws fs n r c = fs := by unfold fillN; rw [HN.out]; simp
    rw [this]
    exact HF.out.same (((Bw.drew.alloc _ _)).below.block _ (by obtain ⟨es, c, ho⟩ := HF.out.obj; exact obj_lt ho))
   ·exact absurd trivial z
  have k4 : decide (Y ≤ c) = false := decide_eq_false b4
  have hyes : hasW ws n r c = true := by rw [hhas]; exact decide_eq_true (by omega)
  have HY := Lib.hid hyes
  clear hhas hyes b1 b2 b3 b4
  generalize x.l.length = xl at *
  go_wp2
  have B3 : B W1 (W1.alloc (.cells #[.string n, .int .i64 X, .int .i64 Y, .int .i64 Z, .slice xo xl xc] 33)).drew := ((B.refl W1).alloc _ _).drew
  replace s5 := B3.keep s5
  replace g0 := B3.keep g0
  replace g1 := B3.keep g1
  replace g2 := B3.keep g2
  replace hE := ownsMap_same hE (B3.below.block _ hE.lt)
  clear l0 l1 l2 l3 l4 s0 s3 hD oS1 oG
  generalize (W1.alloc (.cells #[.string n, .int .i64 X, .int .i64 Y, .int .i64 Z, .slice xo xl xc] 33)).drew = W3 at *
  have hfl := hHE n r c hn hr hc
  cases hfill : filledW fs n r c
  ·have cE := fun w => look_fl (w := w) (b := bf) (k := fs.length) hn hr hc (hfl.trans hfill)
   have cU := fun (w : World) (hE : w.ownsMap Tryz.prog 39 unitElem bf fs.length E) => hE.store wellKeyed Tryz.underlying77 (by unfold maxLen; omega) (key_well n r c hn hr hc) (unitElem_mk (H := Unit))
   replace hfill := Lib.hid hfill
   refine wp_region_noPanic ?_
   refine wp_region_seq (S := fun w' => B W1 w' ∧ w'.cell? ⟨S, 5, none⟩ = some (.map (some bf)) ∧ w'.cell? ⟨G, 0, none⟩ = some (.string n) ∧ w'.cell? ⟨G, 1, none⟩ = some (.int .i64 r) ∧ w'.cell? ⟨G, 2, none⟩ = some (.int .i64 c) ∧ w'.ownsMap Tryz.prog 39 unitElem bf fs.length E) [(0, 0), (1, 0), (2, 0), (3, 0), (4, 0), (5, 0), (6, 0), (7, 0), (8, 0), (9, 2), (10, 2), (11, 0)] [0, 1, 2, 4, 0, 24, 32, 64, 64, 0, 767, 2047] [0, 1, 2, 4, 0, 24, 32, 64, 64, 0, 640, 256] (by kernel_rfl) (by kernel_rfl) (fun _ _ _ _ _ h => h) ?_ (fun hH => ?_)
   ·exact ⟨B3.drew, s5, g0, g1, g2, hE⟩
   refine wpSeq_take (d := 53) rfl rfl (by kernel_rfl) (fun w hS => by go_simp <;> with_reducible rfl) ?_
   dsimp only [sZ, sS]
   refine wpSeq_take (d := 54) rfl rfl (by kernel_rfl) (fun w hS => by go_simp <;> with_reducible rfl) ?_
   dsimp only [sZ, sS]
   refine wpSeq_take (d := 55) rfl rfl (by kernel_rfl) (fun w hS => by go_simp <;> with_reducible rfl) ?_
   dsimp only [sZ, sS]
   refine wpSeq_take (d := 56) rfl rfl (by kernel_rfl) (fun w hS => by go_simp <;> with_reducible rfl) ?_
   dsimp only [sZ, sS]
   refine wpSeq_take (d := 57) rfl rfl (by kernel_rfl) (fun w hS => by go_simp <;> with_reducible rfl) ?_
   dsimp only [sZ, sS]
   refine wpSeq_take (d := 58) (v := .tuple #[.agg #[], .bool false]) rfl rfl (by kernel_rfl) (fun w hS => ?_) ?_
   ·have e := cE w hS.2.2.2.2.2; go_simp
   dsimp only [sZ, sS]
   refine wpSeq_take (d := 52) rfl rfl (by kernel_rfl) (fun w hS => by go_simp <;> with_reducible rfl) ?_
   dsimp only [sZ, sS]
   refine wpSeq_take (d := 59) rfl rfl (by kernel_rfl) (fun w hS => by go_simp <;> with_reducible rfl) ?_
   dsimp only [sZ, sS]
   refine wpSeq_take (d := 60) rfl rfl (by kernel_rfl) (fun w hS => by go_simp <;> with_reducible rfl) ?_
   dsimp only [sZ, sS]
   refine wpSeq_call rfl (by kernel_rfl) (fun K hK => ?_)
   go_simp
   refine hK.out _ _ ?_ (fun hH => ?_)
   ·first | exact hH | exact ⟨hH.1.alloc _ _, ((B.refl _).alloc _ _).keep hH.2.1, ((B.refl _).alloc _ _).keep hH.2.2.1, ((B.refl _).alloc _ _).keep hH.2.2.2.1, ((B.refl _).alloc _ _).keep hH.2.2.2.2.1, hH.2.2.2.2.2.alloc _⟩
   clear hK
   refine wpSeq_call rfl (by kernel_rfl) (fun K hK => ?_)
   go_simp
   refine hK.out _ _ ?_ (fun hH => ?_)
   ·first | exact hH | exact ⟨hH.1.alloc _ _, ((B.refl _).alloc _ _).keep hH.2.1, ((B.refl _).alloc _ _).keep hH.2.2.1, ((B.refl _).alloc _ _).keep hH.2.2.2.1, ((B.refl _).alloc _ _).keep hH.2.2.2.2.1, hH.2.2.2.2.2.alloc _⟩
   clear hK
   refine wpSeq_take (d := 9) rfl rfl (by kernel_rfl) (fun w hS => by go_simp <;> with_reducible rfl) ?_
   dsimp only [sZ, sS]
   refine wpSeq_done ?_
   refine NoPanic.normal ?_
   clear s5 g0 g1 g2 hE cE
   obtain ⟨hB4, s5, g0, g1, g2, hE⟩ := hH
   go_wp2
   refine wp_region_noPanic ?_
   refine wp_region_gate (S := fun w' => B W1 w' ∧ w'.cell? ⟨S, 5, none⟩ = some (.map (some bf)) ∧ w'.cell? ⟨G, 0, none⟩ = some (.string n) ∧ w'.cell? ⟨G, 1, none⟩ = some (.int .i64 r) ∧ w'.cell? ⟨G, 2, none⟩ = some (.int .i64 c) ∧ w'.ownsMap Tryz.prog 39 unitElem bf fs.length E) 6 [(0, 3), (1, 3), (2, 3), (3, 0), (4, 0), (5, 3), (6, 4)] [0, 1, 2, 4, 0, 0, 63] [0, 1, 2, 4, 0, 0, 56] [0, 0, 0, 72, 80, 0, 0] (by kernel_rfl) (by kernel_rfl) (fun _ _ _ _ _ h => h) ?_ (fun hH => ?_)
   ·exact ⟨hB4.drew, s5, g0, g1, g2, hE⟩
   refine wpSeqG_free (d := 62) (v := ?_) rfl rfl (by kernel_rfl) (fun w => ?_) ?_
   rotate_left
   ·go_simp <;> with_reducible rfl
   dsimp only [sZ, sS]
   refine wpSeqG_free (d := 63) (v := ?_) rfl rfl (by kernel_rfl) (fun w => ?_) ?_
   rotate_left
   ·go_simp <;> with_reducible rfl
   dsimp only [sZ, sS]
   refine wpSeqG_free (d := 64) (v := ?_) rfl rfl (by kernel_rfl) (fun w => ?_) ?_
   rotate_left
   ·go_simp <;> with_reducible rfl
   dsimp only [sZ, sS]
   refine wpSeqG_take (d := 65) (v := ?_) rfl rfl (by kernel_rfl) (fun w hS => ?_) ?_
   rotate_left
   ·go_simp <;> with_reducible rfl
   dsimp only [sZ, sS]
   refine wpSeqG_take (d := 66) (v := ?_) rfl rfl (by kernel_rfl) (fun w hS => ?_) ?_
   rotate_left
   ·go_simp <;> with_reducible rfl
   dsimp only [sZ, sS]
   refine wpSeqG_free (d := 67) (v := ?_) rfl rfl (by kernel_rfl) (fun w => ?_) ?_
   rotate_left
   ·go_simp <;> with_reducible rfl
   dsimp only [sZ, sS]
   refine wpSeqG_gate rfl (by kernel_rfl) (fun K hK => ?_)
   go_simp
   obtain ⟨w4, e4, hE4, ht4⟩ := cU _ hH.2.2.2.2.2
   have t4 := (hH.1.tn kM base).trans (turned_tn ht4 hbf (by decide))
   have u4 := (hH.1.tm bf).trans (turned_tm ht4)
   rw [e4]
   go_simp
   clear hH
   refine hK.out _ _ ?_
   clear hK
   refine wpSeqG_done ?_
   refine NoPanic.normal ?_
   go_wp2
   go_ret
   refine ⟨by rw [HY.out, hfill.out]; rfl, ?_, (Bw.tn _ _).trans t4, (Bw.tm bf).trans u4⟩
   have : fillN ws fs n r c = fs ++ [⟨n, r, c, 0⟩] := by unfold fillN; rw [HY.out, hfill.out]; simp
   rw [this]
   exact ⟨_, by simpa using hE4, hM.put _ _, filled_put hM hn hr hc hHE⟩
  ·have cE := fun w => look_fl (w := w) (b := bf) (k := fs.length) hn hr hc (hfl.trans hfill)
   replace hfill := Lib.hid hfill
   refine wp_region_noPanic ?_
   refine wp_region_seq (S := fun w' => B W1 w' ∧ w'.cell? ⟨S, 5, none⟩ = some (.map (some bf)) ∧ w'.cell? ⟨G, 0, none⟩ = some (.string n) ∧ w'.cell? ⟨G, 1, none⟩ = some (.int .i64 r) ∧ w'.cell? ⟨G, 2, none⟩ = some (.int .i64 c) ∧ w'.ownsMap Tryz.prog 39 unitElem bf fs.length E) [(0, 0), (1, 0), (2, 0), (3, 0), (4, 0), (5, 0), (6, 0), (7, 0), (8, 0), (9, 2), (10, 2), (11, 0)] [0, 1, 2, 4, 0, 24, 32, 64, 64, 0, 767, 2047] [0, 1, 2, 4, 0, 24, 32, 64, 64, 0, 640, 256] (by kernel_rfl) (by kernel_rfl) (fun _ _ _ _ _ h => h) ?_ (fun hH => ?_)
   ·exact ⟨B3.drew, s5, g0, g1, g2, hE⟩
   refine wpSeq_take (d := 53) rfl rfl (by kernel_rfl) (fun w hS => by go_simp <;> with_reducible rfl) ?_
   dsimp only [sZ, sS]
   refine wpSeq_take (d := 54) rfl rfl (by kernel_rfl) (fun w hS => by go_simp <;> with_reducible rfl) ?_
   dsimp only [sZ, sS]
   refine wpSeq_take (d := 55) rfl rfl (by kernel_rfl) (fun w hS => by go_simp <;> with_reducible rfl) ?_
   dsimp only [sZ, sS]
   refine wpSeq_take (d := 56) rfl rfl (by kernel_rfl) (fun w hS => by go_simp <;> with_reducible rfl) ?_
   dsimp only [sZ, sS]
   refine wpSeq_take (d := 57) rfl rfl (by kernel_rfl) (fun w hS => by go_simp <;> with_reducible rfl) ?_
   dsimp only [sZ, sS]
   refine wpSeq_take (d := 58) (v := .tuple #[.agg #[], .bool true]) rfl rfl (by kernel_rfl) (fun w hS => ?_) ?_
   ·have e := cE w hS.2.2.2.2.2; go_simp
   dsimp only [sZ, sS]
   refine wpSeq_take (d := 52) rfl rfl (by kernel_rfl) (fun w hS => by go_simp <;> with_reducible rfl) ?_
   dsimp only [sZ, sS]
   refine wpSeq_take (d := 59) rfl rfl (by kernel_rfl) (fun w hS => by go_simp <;> with_reducible rfl) ?_
   dsimp only [sZ, sS]
   refine wpSeq_take (d := 60) rfl rfl (by kernel_rfl) (fun w hS => by go_simp <;> with_reducible rfl) ?_
   dsimp only [sZ, sS]
   refine wpSeq_call rfl (by kernel_rfl) (fun K hK => ?_)
   go_simp
   refine hK.out _ _ ?_ (fun hH => ?_)
   ·first | exact hH | exact ⟨hH.1.alloc _ _, ((B.refl _).alloc _ _).keep hH.2.1, ((B.refl _).alloc _ _).keep hH.2.2.1, ((B.refl _).alloc _ _).keep hH.2.2.2.1, ((B.refl _).alloc _ _).keep hH.2.2.2.2.1, hH.2.2.2.2.2.alloc _⟩
   clear hK
   refine wpSeq_call rfl (by kernel_rfl) (fun K hK => ?_)
   go_simp
   refine hK.out _ _ ?_ (fun hH => ?_)
   ·first | exact hH | exact ⟨hH.1.alloc _ _, ((B.refl _).alloc _ _).keep hH.2.1, ((B.refl _).alloc _ _).keep hH.2.2.1, ((B.refl _).alloc _ _).keep hH.2.2.2.1, ((B.refl _).alloc _ _).keep hH.2.2.2.2.1, hH.2.2.2.2.2.alloc _⟩
   clear hK
   refine wpSeq_take (d := 9) rfl rfl (by kernel_rfl) (fun w hS => by go_simp <;> with_reducible rfl) ?_
   dsimp only [sZ, sS]
   refine wpSeq_done ?_
   refine NoPanic.normal ?_
   obtain ⟨hB4, _⟩ := hH
   go_wp2
   go_ret
   refine ⟨by rw [HY.out, hfill.out]; rfl, ?_, (Bw.trans hB4).tn _ _, (Bw.trans hB4).tm bf⟩
   have : fillN ws fs n r c = fs := by unfold fillN; rw [HY.out, hfill.out]; simp
   rw [this]
   exact HF.out.same ((Bw.trans hB4).below.block _ (by obtain ⟨es, c, ho⟩ := HF.out.obj; exact obj_lt ho))
theorem FmAt.tn {K : List (Option TypeId)} {base : Nat} {w w' : World} {b : Nat} {fs : List Fl} (h : FmAt w b fs) (t : Tn K base w w') (hK : none ∉ K) : FmAt w' b fs := by
 obtain ⟨es, c, ho⟩ := h.obj
 exact h.same ((t.objm ho hK).trans ho.symm)
theorem FmAt.tm {w w' : World} {b b' : Nat} {fs : List Fl} (h : FmAt w b fs) (t : Tm b' w w') (hb : b ≠ b') : FmAt w' b fs := by
 obtain ⟨es, c, ho⟩ := h.obj
 exact h.same ((t b es c hb ho).trans ho.symm)
end Go.Proofs.YtglniapfnhedoaaGreatDoor
namespace Go.Proofs.YtglniapfnhedoaaGreatDoor
open Go.RowKit
set_option linter.unusedVariables false
theorem within_any (v a b : Int) (w : World) : Calls Tryz.prog 30 #[.int .i64 v, .int .i64 a, .int .i64 b] w fun e w' => e = .returned (.bool (decide (a ≤ v) && decide (v ≤ b))) ∧ w = w' := by
 by_cases h1 : a ≤ v
 ·have k1 : decide (a ≤ v) = true := decide_eq_true h1
  cases k2 : decide (v ≤ b)
  all_goals
   go_enter Tryz.func30, Tryz.ntmps30
   go_wp2
   go_ret
   exact ⟨by simp [*], rfl⟩
 ·have k1 : decide (a ≤ v) = false := decide_eq_false h1
  go_enter Tryz.func30, Tryz.ntmps30
  go_wp2
  go_ret
  exact ⟨by simp [*], rfl⟩
end Go.Proofs.YtglniapfnhedoaaGreatDoor
namespace Go.Proofs.YtglniapfnhedoaaGreatDoor
open Go.RowKit
set_option linter.unusedVariables false
theorem grid_any (n : ByteArray) (x y z : Int) (so : Option Addr) (sn sc : Nat) (w : World) (hx : I64 x) (hy : I64 y) : Calls Tryz.prog 26 #[.agg #[.string n, .int .i64 x, .int .i64 y, .int .i64 z, .slice so sn sc]] w fun e w' => e = .returned (.bool (inB x 1 8 && inB y 1 12 && inB z 0 1000000)) ∧ B w w' := by
 have cx := fun w => within_any x 1 8 w
 have cy := fun w => within_any y 1 12 w
 have cz := fun w => within_any z 0 1000000 w
 have ex : inB x 1 8 = (decide (1 ≤ x) && decide (x ≤ 8)) := rfl
 have ey : inB y 1 12 = (decide (1 ≤ y) && decide (y ≤ 12)) := rfl
 have ez : inB z 0 1000000 = (decide (0 ≤ z) && decide (z ≤ 1000000)) := rfl
 rw [← ex] at cx
 rw [← ey] at cy
 rw [← ez] at cz
 clear ex ey ez
 have hQ := (B.refl w).alloc #[.string n, .int .i64 x, .int .i64 y, .int .i64 z, .slice so sn sc] 33
 generalize inB x 1 8 = bx at *
 generalize inB y 1 12 = by_ at *
 generalize inB z 0 1000000 = bz at *
 cases bx
 ·go_enter Tryz.func26, Tryz.ntmps26
  go_wp2_with fail
  refine (cx _).mono ?_
  rintro _ _ ⟨rfl, rfl⟩
  go_wp2
  go_ret
  exact ⟨rfl, hQ⟩
 ·cases by_
  ·go_enter Tryz.func26, Tryz.ntmps26
   go_wp2_with fail
   refine (cx _).mono ?_
   rintro _ _ ⟨rfl, rfl⟩
   go_wp2_with fail
   refine (cy _).mono ?_
   rintro _ _ ⟨rfl, rfl⟩
   go_wp2
   go_ret
   exact ⟨rfl, hQ⟩
  ·go_enter Tryz.func26, Tryz.ntmps26
   go_wp2_with fail
   refine (cx _).mono ?_
   rintro _ _ ⟨rfl, rfl⟩
   go_wp2_with fail
   refine (cy _).mono ?_
   rintro _ _ ⟨rfl, rfl⟩
   go_wp2_with fail
   refine (cz _).mono ?_
   rintro _ _ ⟨rfl, rfl⟩
   go_wp2
   go_ret
   exact ⟨by simp, hQ⟩
end Go.Proofs.YtglniapfnhedoaaGreatDoor
namespace Go.Proofs.YtglniapfnhedoaaGreatDoor
open Go.RowKit
set_option linter.unusedVariables false
set_option maxRecDepth 100000 in
set_option maxHeartbeats 1000000 in
theorem newStand_any (ao bo co : Option Addr) (na nb nc ac bc cc : Nat) (w : World) : Calls Tryz.prog 24 #[.agg #[.slice ao na ac, .slice bo nb bc, .slice co nc cc]] w fun r w' => ∃ S bw bt bf, r = .returned (.pointer (some ⟨S, 0, none⟩)) ∧
   w'.heap[S]? = some (.cells #[.slice ao na ac, .slice bo nb bc, .slice co nc cc, .map (some bw), .map (some bt), .map (some bf), .pointer none, .int .i64 0] 80 (0, 0)) ∧ NmAt w' bw [] ∧ NmAt w' bt [] ∧ FmAt w' bf [] ∧
   w.heap.size ≤ S ∧ w.heap.size ≤ bw ∧ w.heap.size ≤ bt ∧ w.heap.size ≤ bf ∧ bw ≠ bt ∧ bw ≠ bf ∧ bt ≠ bf ∧ B w w' := by
 have k0 : (w.alloc (.cells #[.slice ao na ac, .slice bo nb bc, .slice co nc cc] 26)).cell? ⟨w.heap.size, 0, none⟩ = some (.slice ao na ac) := by rw [World.cell?_alloc_new]; rfl
 have hmm := @run_makeMap Tryz.prog
 go_enter Tryz.func24, Tryz.ntmps24
 go_wp2
 obtain ⟨w1, e1⟩ : ∃ w1, w1 = w.alloc (.cells #[.slice ao na ac, .slice bo nb bc, .slice co nc cc] 26) := ⟨_, rfl⟩
 have z1 : w1.heap.size = w.heap.size + 1 := by rw [e1]; simp
 have q1 : B w w1 := by rw [e1]; exact (B.refl w).alloc _ _
 rw [← e1]
 have qm : ∀ u : World, B u (u.alloc (.map #[] 0)) := fun u => ⟨(Below.refl _ _).alloc (Nat.le_refl _) _⟩
 have n1 := NmAt.new w1
 have n2 := NmAt.new (w1.alloc (.map #[] 0))
 have n3 := FmAt.new ((w1.alloc (.map #[] 0)).alloc (.map #[] 0))
 have z2 : (w1.alloc (.map #[] 0)).heap.size = w1.heap.size + 1 := by simp
 have z3 : ((w1.alloc (.map #[] 0)).alloc (.map #[] 0)).heap.size = w1.heap.size + 1 + 1 := by simp
 rw [z2] at n2
 rw [z3] at n3
 have qL : B (((w1.alloc (.map #[] 0)).alloc (.map #[] 0)).alloc (.map #[] 0)) ((((w1.alloc (.map #[] 0)).alloc (.map #[] 0)).alloc (.map #[] 0)).alloc (.cells #[.slice ao na ac, .slice bo nb bc, .slice co nc cc, .map (some w1.heap.size), .map (some (w1.heap.size + 1)), .map (some (w1.heap.size + 1 + 1)), .pointer none, .int .i64 0] 80)) := (B.refl _).alloc _ _
 have oS := obj_new (((w1.alloc (.map #[] 0)).alloc (.map #[] 0)).alloc (.map #[] 0)) (.cells #[.slice ao na ac, .slice bo nb bc, .slice co nc cc, .map (some w1.heap.size), .map (some (w1.heap.size + 1)), .map (some (w1.heap.size + 1 + 1)), .pointer none, .int .i64 0] 80)
 have z4 : (((w1.alloc (.map #[] 0)).alloc (.map #[] 0)).alloc (.map #[] 0)).heap.size = w1.heap.size + 1 + 1 + 1 := by simp
 rw [z4] at oS
 go_ret
 rw [← z1]
 refine ⟨_, w1.heap.size, w1.heap.size + 1, w1.heap.size + 1 + 1, rfl, oS, ?_, ?_, ?_, by omega, by omega, by omega, by omega, by omega, by omega, by omega, ((((q1.trans (qm _)).trans (qm _)).trans (qm _)).trans qL)⟩
 ·exact n1.tn ((((qm (w1.alloc (.map #[] 0))).trans (qm _)).trans qL).tn [] 0) (by simp)
 ·exact n2.tn (((qm _).trans qL).tn [] 0) (by simp)
 ·exact n3.tn (qL.tn [] 0) (by simp)
end Go.Proofs.YtglniapfnhedoaaGreatDoor
namespace Go.Proofs.YtglniapfnhedoaaGreatDoor
open Go.RowKit
set_option linter.unusedVariables false
theorem named_map (ws : List Wr) (s : ByteArray) : namedL (ws.map (·.n)) s = namedW ws s := by
 unfold namedL namedW
 rw [List.any_map]
 rfl
end Go.Proofs.YtglniapfnhedoaaGreatDoor
namespace Go.Proofs.YtglniapfnhedoaaGreatDoor
open Go.RowKit
theorem named_any (s : ByteArray) (w : World) : Calls Tryz.prog 59 #[.string s] w fun e w' => e = .returned (.bool (nameS s)) ∧ B w w' := by
 by_cases h1 : s.size < 1
 ·have h1B : decide ((s.size : Int) < 1) = true := decide_eq_true (by omega)
  rw [nameS_size (.inl h1)]
  clear h1
  go_enter Tryz.func59, Tryz.ntmps59
  go_wp2
  go_ret
  exact ⟨rfl, B.refl _⟩
 have h1B : decide ((s.size : Int) < 1) = false := decide_eq_false (by omega)
 by_cases h2 : 16 < s.size
 ·have h2B : decide ((16 : Int) < (s.size : Int)) = true := decide_eq_true (by omega)
  rw [nameS_size (.inr h2)]
  clear h1 h2
  go_enter Tryz.func59, Tryz.ntmps59
  go_wp2
  go_ret
  exact ⟨rfl, B.refl _⟩
 have h2B : decide ((16 : Int) < (s.size : Int)) = false := decide_eq_false (by omega)
 have hconv := fun w => Lib.run_convert_string_bytes (P := Tryz.prog) w 9 47 5 s Tryz.underlying9 Tryz.underlying47 Tryz.underlying5
 have hcell : ∀ j, j < s.size → (Lib.bytesWorld w 5 s).cell? ⟨w.heap.size, j, none⟩ = some (.int .u8 ((byteAt s j : Nat) : Int)) := fun j hj => Lib.bytesWorld_cell w _ s j hj
 have hB : B w (Lib.bytesWorld w 5 s) := (B.refl w).bytes _ _
 have hgood := Lib.hid (fun h3 h => nameS_good (s := s) (by omega) (by omega) h3 h)
 have hbad := @nameS_bad s
 have hfst := @nameS_first s
 have HB := Lib.hid hB
 generalize nameS s = R at *
 clear hB
 go_enter Tryz.func59, Tryz.ntmps59
 go_wp2
 generalize Lib.bytesWorld w 5 s = W1 at *
 generalize w.heap.size = H at *
 go_loopw [18] (fun i wr => ∃ k : Nat, k ≤ s.size ∧ i = .int .i64 k ∧ (∀ j, j < k → (lowN (byteAt s j) || digN (byteAt s j)) = true) ∧ (0 < k → lowN (byteAt s 0) = true) ∧ W1 = wr) (fun i _ => s.size + 1 - (intOf i).toNat)
 case atStart => exact ⟨0, Nat.zero_le _, rfl, fun j hj => by omega, fun h => by omega, rfl⟩
 case round =>
  obtain ⟨k, hk, rfl, hall, h0, rfl⟩ := hrel
  by_cases hl : k < s.size
  ·obtain ⟨b, eb⟩ : ∃ b, byteAt s k = b := ⟨_, rfl⟩
   have hlB : decide ((k : Int) < (s.size : Int)) = true := decide_eq_true (by omega)
   have hlI : (k : Int) < (s.size : Int) := by omega
   have wk1 : IntKind.i64.wrap ((k : Int) + 1) = (k : Int) + 1 := by rw [IntKind.wrap_i64]; omega
   have hc := hcell k hl
   have hb := hbad hl
   have hnext : (lowN (byteAt s k) || digN (byteAt s k)) = true → ∀ j, j < k + 1 → (lowN (byteAt s j) || digN (byteAt s j)) = true := fun h j hj => by
    by_cases c : j = k
    ·subst c; exact h
    ·exact hall j (by omega)
   have hz : (k = 0 → lowN b = true) → lowN (byteAt s 0) = true := fun h => by
    by_cases c : k = 0
    ·subst c; rw [eb]; exact h rfl
    ·exact h0 (by omega)
   have hf : k = 0 → lowN b = false → R = false := fun h1 h2 => by
    subst h1; exact hfst (by rw [eb]; exact h2)
   rw [eb] at hc hb hnext
   clear eb hall h0 hcell
   have five : b < 48 ∨ (48 ≤ b ∧ b ≤ 57) ∨ (58 ≤ b ∧ b ≤ 96) ∨ (97 ≤ b ∧ b ≤ 122) ∨ 122 < b := by omega
   rcases five with c | c | c | c | c
   ·have d1 : decide (97 ≤ (b : Int)) = false := decide_eq_false (by omega)
    have d2 : decide ((b : Int) ≤ 122) = true := decide_eq_true (by omega)
    have d3 : decide (48 ≤ (b : Int)) = false := decide_eq_false (by omega)
    have d4 : decide ((b : Int) ≤ 57) = true := decide_eq_true (by omega)
    have l1 : lowN b = false := by unfold lowN; simp; omega
    have l2 : digN b = false := by unfold digN; simp; omega
    obtain rfl := hb (by rw [l1, l2]; rfl)
    clear hnext hz hf hb l1 l2
    go_wp2
    go_ret
    exact ⟨rfl, HB.out⟩
   ·have d1 : decide (97 ≤ (b : Int)) = false := decide_eq_false (by omega)
    have d2 : decide ((b : Int) ≤ 122) = true := decide_eq_true (by omega)
    have d3 : decide (48 ≤ (b : Int)) = true := decide_eq_true (by omega)
    have d4 : decide ((b : Int) ≤ 57) = true := decide_eq_true (by omega)
    have l1 : lowN b = false := by unfold lowN; simp; omega
    have l2 : digN b = true := by unfold digN; simp; omega
    by_cases k0 : k = 0
    ·obtain rfl := hf k0 l1
     subst k0
     clear hnext hz hf hb l1 l2
     go_wp2
     go_ret
     exact ⟨rfl, HB.out⟩
    ·have k0B : ((k : Int) == 0) = false := by simp; omega
     have HA := Lib.hid (hnext (by rw [l1, l2]; rfl))
     have HZ := Lib.hid (hz (fun h => by first | exact l1 | omega))
     clear hnext hz hf hb l1 l2
     go_wp2
     go_roundw
     case rel => exact ⟨k + 1, by omega, by go_num, HA.out, fun _ => HZ.out, trivial⟩
     case measure => simp [intOf]; omega
   ·have d1 : decide (97 ≤ (b : Int)) = false := decide_eq_false (by omega)
    have d2 : decide ((b : Int) ≤ 122) = true := decide_eq_true (by omega)
    have d3 : decide (48 ≤ (b : Int)) = true := decide_eq_true (by omega)
    have d4 : decide ((b : Int) ≤ 57) = false := decide_eq_false (by omega)
    have l1 : lowN b = false := by unfold lowN; simp; omega
    have l2 : digN b = false := by unfold digN; simp; omega
    obtain rfl := hb (by rw [l1, l2]; rfl)
    clear hnext hz hf hb l1 l2
    go_wp2
    go_ret
    exact ⟨rfl, HB.out⟩
   ·have d1 : decide (97 ≤ (b : Int)) = true := decide_eq_true (by omega)
    have d2 : decide ((b : Int) ≤ 122) = true := decide_eq_true (by omega)
    have d3 : decide (48 ≤ (b : Int)) = true := decide_eq_true (by omega)
    have d4 : decide ((b : Int) ≤ 57) = false := decide_eq_false (by omega)
    have l1 : lowN b = true := by unfold lowN; simp; omega
    have l2 : digN b = false := by unfold digN; simp; omega
    have HA := Lib.hid (hnext (by rw [l1, l2]; rfl))
    have HZ := Lib.hid (hz (fun h => by first | exact l1 | omega))
    clear hnext hz hf hb l1 l2
    go_wp2
    go_roundw
    case rel => exact ⟨k + 1, by omega, by go_num, HA.out, fun _ => HZ.out, trivial⟩
    case measure => simp [intOf]; omega
   ·have d1 : decide (97 ≤ (b : Int)) = true := decide_eq_true (by omega)
    have d2 : decide ((b : Int) ≤ 122) = false := decide_eq_false (by omega)
    have d3 : decide (48 ≤ (b : Int)) = true := decide_eq_true (by omega)
    have d4 : decide ((b : Int) ≤ 57) = false := decide_eq_false (by omega)
    have l1 : lowN b = false := by unfold lowN; simp; omega
    have l2 : digN b = false := by unfold digN; simp; omega
    obtain rfl := hb (by rw [l1, l2]; rfl)
    clear hnext hz hf hb l1 l2
    go_wp2
    go_ret
    exact ⟨rfl, HB.out⟩
  ·have hlB : decide ((k : Int) < (s.size : Int)) = false := decide_eq_false (by omega)
   have HR := Lib.hid (hgood.out (h0 (by omega)) (fun i hi => hall i (by omega)))
   clear hall hgood hbad
   go_wp2
   go_ret
   exact ⟨by rw [HR.out]; rfl, HB.out⟩
end Go.Proofs.YtglniapfnhedoaaGreatDoor
namespace Go.Proofs.YtglniapfnhedoaaGreatDoor
open Go.RowKit
theorem in_any (v a b : Int) (w : World) :
  Calls Tryz.prog 62 #[.int .i64 v, .int .i64 a, .int .i64 b] w fun e w' => e = .returned (.bool (inB v a b)) ∧ w = w' := by
 unfold inB
 have hb : decide (a ≤ v) = true ∨ decide (a ≤ v) = false := by cases decide (a ≤ v) <;> simp
 rcases hb with hb | hb
 all_goals
  rw [hb]
  go_enter Tryz.func62, Tryz.ntmps62
  go_wp2
  go_ret
  exact ⟨rfl, rfl⟩
set_option maxRecDepth 100000 in
set_option maxHeartbeats 2000000 in
theorem r3right_row (a : Addr) (cap : Nat) (l : List Sec) (h2 : l.length ≤ cap) (h3 : cap ≤ maxLen) (w : World) (h4 : ∀ i s, l[i]? = some s → s.I ∧ SecAt w (a.add (i * 6)) s) :
  Calls Tryz.prog 34 #[.slice (some a) l.length cap] w fun e w' => e = .returned (.bool (rightS l)) ∧ Q w w' := by
 unfold maxLen at h3
 have h5 : l.length ≤ 2 ^ 63 - 1 := Nat.le_trans h2 h3
 clear h2 h3
 by_cases n1 : l.length < 1
 ·rw [rightS_short l n1]
  have n1B : decide ((l.length : Int) < 1) = true := decide_eq_true (by omega)
  clear h4
  go_enter Tryz.func34, Tryz.ntmps34
  go_wp2
  go_ret
  exact ⟨rfl, Q.refl w⟩
 have n1B : decide ((l.length : Int) < 1) = false := decide_eq_false (by omega)
 by_cases n2 : 4 < l.length
 ·rw [rightS_long l n2]
  have n2B : decide ((4 : Int) < (l.length : Int)) = true := decide_eq_true (by omega)
  clear h4
  go_enter Tryz.func34, Tryz.ntmps34
  go_wp2
  go_ret
  exact ⟨rfl, Q.refl w⟩
 have n2B : decide ((4 : Int) < (l.length : Int)) = false := decide_eq_false (by omega)
 go_enter Tryz.func34, Tryz.ntmps34
 go_wp2
 go_loopw [3, 4] (fun hh i wr => ∃ (k : Nat), k ≤ l.length ∧ i = .int .i64 k ∧ hh = .int .i64 (hsumI l k) ∧ okTo l k = true ∧ Q w wr) (fun _ i _ => l.length - (intOf i).toNat)
 case atStart => exact ⟨0, Nat.zero_le _, rfl, rfl, rfl, Q.refl w⟩
 case round =>
  obtain ⟨k, hk, rfl, rfl, hok, hq⟩ := hrel
  obtain ⟨t1, t2⟩ := hsum_small l k hok
  have t3 : hsumI l k ≤ 240000 := by omega
  clear t2
  by_cases hl : k < l.length
  ·have hlB : decide (k < l.length) = true := decide_eq_true hl
   have hg := List.getElem?_eq_getElem hl
   have hs := (h4 k _ hg).2.keep hq
   have hsu := hsumI_succ l k _ hg
   have hoku := okTo_succ l k _ hg hok
   have hbad := rightS_bad l k _ hg
   clear h4
   generalize l[k] = s at *
   generalize hsumI l k = t at *
   obtain ⟨f0, f1, f2, f3, f4, f5⟩ := hs
   obtain ⟨m, hm1⟩ : ∃ m, s.h.tmod 100 = m := ⟨_, rfl⟩
   have hsec := secOk_eq s m hm1
   have HS := Lib.hid hsu
   have HM := Lib.hid hg
   clear hsu hg
   have c1 := fun w => in_any s.a0 0 20000 w
   have c2 := fun w => in_any s.a1 1 20000 w
   have c3 := fun w => in_any s.b0 0 20000 w
   have c4 := fun w => in_any s.b1 1 20000 w
   have k1 : decide (s.h < 1) = true ∨ decide (s.h < 1) = false := by cases decide (s.h < 1) <;> simp
   rcases k1 with k1 | k1
   ·have HB := Lib.hid (hbad (by rw [hsec]; simp [k1]))
    clear hbad hsec hoku
    go_wp2
    go_ret
    exact ⟨by rw [HB.out]; rfl, hq.alloc _ _⟩
   ·have k2 : decide (60000 < s.h) = true ∨ decide (60000 < s.h) = false := by cases decide (60000 < s.h) <;> simp
    rcases k2 with k2 | k2
    ·have HB := Lib.hid (hbad (by rw [hsec]; simp [k1, k2]))
     clear hbad hsec hoku
     go_wp2
     go_ret
     exact ⟨by rw [HB.out]; rfl, hq.alloc _ _⟩
    ·have k3 : (m != 0) = true ∨ (m != 0) = false := by cases (m != 0) <;> simp
     rcases k3 with k3 | k3
     ·have HB := Lib.hid (hbad (by rw [hsec]; simp [k1, k2, k3]))
      clear hbad hsec hoku
      go_wp2
      go_ret
      exact ⟨by rw [HB.out]; rfl, hq.alloc _ _⟩
     ·have k4 : inB s.a0 0 20000 = true ∨ inB s.a0 0 20000 = false := by cases inB s.a0 0 20000 <;> simp
      rcases k4 with k4 | k4
      ·rw [k4] at c1
       have k5 : inB s.a1 1 20000 = true ∨ inB s.a1 1 20000 = false := by cases inB s.a1 1 20000 <;> simp
       rcases k5 with k5 | k5
       ·rw [k5] at c2
        have k6 : s.r = true ∨ s.r = false := by cases s.r <;> simp
        rcases k6 with k6 | k6
        ·have k7 : (s.b0 != 0) = true ∨ (s.b0 != 0) = false := by cases (s.b0 != 0) <;> simp
         rcases k7 with k7 | k7
         ·have HB := Lib.hid (hbad (by rw [hsec]; simp [k1, k2, k3, k4, k5, k6, k7]))
          clear hbad hsec hoku
          go_wp2_with fail
          refine (c1 _).mono ?_
          rintro e w1 ⟨rfl, rfl⟩
          go_wp2_with fail
          refine (c2 _).mono ?_
          rintro e w1 ⟨rfl, rfl⟩
          go_wp2
          go_ret
          exact ⟨by rw [HB.out]; rfl, hq.alloc _ _⟩
         ·have k8 : (s.b1 != 0) = true ∨ (s.b1 != 0) = false := by cases (s.b1 != 0) <;> simp
          rcases k8 with k8 | k8
          ·have HB := Lib.hid (hbad (by rw [hsec]; simp [k1, k2, k3, k4, k5, k6, k7, k8]))
           clear hbad hsec hoku
           go_wp2_with fail
           refine (c1 _).mono ?_
           rintro e w1 ⟨rfl, rfl⟩
           go_wp2_with fail
           refine (c2 _).mono ?_
           rintro e w1 ⟨rfl, rfl⟩
           go_wp2
           go_ret
           exact ⟨by rw [HB.out]; rfl, hq.alloc _ _⟩
          ·replace hoku := hoku (by rw [hsec]; simp [k1, k2, k3, k4, k5, k6, k7, k8])
           obtain ⟨z1, z2⟩ := secOk_h s (by rw [hsec]; simp [k1, k2, k3, k4, k5, k6, k7, k8])
           clear hbad hsec
           have HO := Lib.hid hoku
           clear hoku
           go_wp2_with fail
           refine (c1 _).mono ?_
           rintro e w1 ⟨rfl, rfl⟩
           go_wp2_with fail
           refine (c2 _).mono ?_
           rintro e w1 ⟨rfl, rfl⟩
           go_wp2
           go_roundw
           case rel => exact ⟨k + 1, by omega, by go_num, by rw [HS.out], HO.out, hq.alloc _ _⟩
           case measure => simp [intOf]; omega
        ·have k9 : inB s.b0 0 20000 = true ∨ inB s.b0 0 20000 = false := by cases inB s.b0 0 20000 <;> simp
         rcases k9 with k9 | k9
         ·rw [k9] at c3
          have ka : inB s.b1 1 20000 = true ∨ inB s.b1 1 20000 = false := by cases inB s.b1 1 20000 <;> simp
          rcases ka with ka | ka
          ·rw [ka] at c4
           replace hoku := hoku (by rw [hsec]; simp [k1, k2, k3, k4, k5, k6, k9, ka])
           obtain ⟨z1, z2⟩ := secOk_h s (by rw [hsec]; simp [k1, k2, k3, k4, k5, k6, k9, ka])
           clear hbad hsec
           have HO := Lib.hid hoku
           clear hoku
           go_wp2_with fail
           refine (c1 _).mono ?_
           rintro e w1 ⟨rfl, rfl⟩
           go_wp2_with fail
           refine (c2 _).mono ?_
           rintro e w1 ⟨rfl, rfl⟩
           go_wp2_with fail
           refine (c3 _).mono ?_
           rintro e w1 ⟨rfl, rfl⟩
           go_wp2_with fail
           refine (c4 _).mono ?_
           rintro e w1 ⟨rfl, rfl⟩
           go_wp2
           go_roundw
           case rel => exact ⟨k + 1, by omega, by go_num, by rw [HS.out], HO.out, hq.alloc _ _⟩
           case measure => simp [intOf]; omega
          ·rw [ka] at c4
           have HB := Lib.hid (hbad (by rw [hsec]; simp [k1, k2, k3, k4, k5, k6, k9, ka]))
           clear hbad hsec hoku
           go_wp2_with fail
           refine (c1 _).mono ?_
           rintro e w1 ⟨rfl, rfl⟩
           go_wp2_with fail
           refine (c2 _).mono ?_
           rintro e w1 ⟨rfl, rfl⟩
           go_wp2_with fail
           refine (c3 _).mono ?_
           rintro e w1 ⟨rfl, rfl⟩
           go_wp2_with fail
           refine (c4 _).mono ?_
           rintro e w1 ⟨rfl, rfl⟩
           go_wp2
           go_ret
           exact ⟨by rw [HB.out]; rfl, hq.alloc _ _⟩
         ·rw [k9] at c3
          have HB := Lib.hid (hbad (by rw [hsec]; simp [k1, k2, k3, k4, k5, k6, k9]))
          clear hbad hsec hoku
          go_wp2_with fail
          refine (c1 _).mono ?_
          rintro e w1 ⟨rfl, rfl⟩
          go_wp2_with fail
          refine (c2 _).mono ?_
          rintro e w1 ⟨rfl, rfl⟩
          go_wp2_with fail
          refine (c3 _).mono ?_
          rintro e w1 ⟨rfl, rfl⟩
          go_wp2
          go_ret
          exact ⟨by rw [HB.out]; rfl, hq.alloc _ _⟩
       ·rw [k5] at c2
        have HB := Lib.hid (hbad (by rw [hsec]; simp [k1, k2, k3, k4, k5]))
        clear hbad hsec hoku
        go_wp2_with fail
        refine (c1 _).mono ?_
        rintro e w1 ⟨rfl, rfl⟩
        go_wp2_with fail
        refine (c2 _).mono ?_
        rintro e w1 ⟨rfl, rfl⟩
        go_wp2
        go_ret
        exact ⟨by rw [HB.out]; rfl, hq.alloc _ _⟩
      ·rw [k4] at c1
       have HB := Lib.hid (hbad (by rw [hsec]; simp [k1, k2, k3, k4]))
       clear hbad hsec hoku
       go_wp2_with fail
       refine (c1 _).mono ?_
       rintro e w1 ⟨rfl, rfl⟩
       go_wp2
       go_ret
       exact ⟨by rw [HB.out]; rfl, hq.alloc _ _⟩
  ·have hlB : decide (k < l.length) = false := decide_eq_false hl
   obtain rfl : k = l.length := by omega
   have HE := Lib.hid (rightS_end l (by omega) (by omega) hok)
   clear h4 hok
   go_wp2
   go_ret
   exact ⟨by rw [HE.out]; rfl, hq⟩
theorem r3right_any (v : Value) (l : List Sec) (w : World) (hv : IsSecs w v l) :
  Calls Tryz.prog 34 #[v] w fun e w' => e = .returned (.bool (rightS l)) ∧ Q w w' := by
 rcases hv with ⟨rfl, rfl⟩ | ⟨a, cap, rfl, h2, h3, h4⟩
 ·rw [rightS_short [] (by simp)]
  go_enter Tryz.func34, Tryz.ntmps34
  go_wp2
  go_ret
  exact ⟨rfl, Q.refl w⟩
 ·exact r3right_row a cap l h2 h3 w h4
end Go.Proofs.YtglniapfnhedoaaGreatDoor
namespace Go.Proofs.YtglniapfnhedoaaGreatDoor
open Go.RowKit
theorem r8in_any (v a b : Int) (w : World) :
  Calls Tryz.prog 33 #[.int .i64 v, .int .i64 a, .int .i64 b] w fun e w' => e = .returned (.bool (inB v a b)) ∧ w = w' := by
 unfold inB
 have hb : decide (a ≤ v) = true ∨ decide (a ≤ v) = false := by cases decide (a ≤ v) <;> simp
 rcases hb with hb | hb
 all_goals
  go_enter Tryz.func33, Tryz.ntmps33
  go_wp2
  go_ret
  exact ⟨by simp [hb], rfl⟩
end Go.Proofs.YtglniapfnhedoaaGreatDoor
