/-
  The code's stand: a well that is to be filled; Contracts of the library at this translation, laid by the shelf in plain words.
-/
import Derived.Shelf.Strings.Builder1
import Derived.Shelf.Strings.BuilderF
import Derived.Shelf.Strings.BuilderK
import Derived.Shelf.Strconv.Itoa0
import Derived.Shelf.Strconv.Itoa1
import Derived.Shelf.LaysM
import Derived.Shelf.Strconv.Itoa2
import Derived.Shelf.Strconv.Itoa3
import Derived.Shelf.Strconv.Itoa4
import Derived.Shelf.Strings.Search1
import Derived.Shelf.Strings.Search2
import Derived.Shelf.Strings.Cut
import Derived.Shelf.Strings.Shaped
import Derived.Test.YtflklpflpjdbmaaGreatDoorProg
import Derived.Test.YtflklpflpjdbmaaGreatDoorZ1
import Derived.Test.YtflklpflpjdbmaaGreatDoorZ2
import Derived.Test.YtflklpflpjdbmaaGreatDoorZ3
import Derived.Test.YtflklpflpjdbmaaGreatDoorZ4
import Derived.Test.YtflklpflpjdbmaaGreatDoorZ5
namespace Go.Proofs.YtflklpflpjdbmaaGreatDoor
open Go.RowKit Go.Maps Go.WideMaps
set_option linter.unusedVariables false
/-- A map of the wells that are filled. -/
def FmAt (w : World) (b : Nat) (fs : List Fl) : Prop :=
  ∃ D : DataW Unit, w.ownsMap Tryz.prog 39 unitElem b fs.length D ∧ Maps.IsMap D ∧ ∀ n r c, n.size ≤ maxLen → I64 r → I64 c → Maps.has D (wkey n r c) = filledW fs n r c
theorem FmAt.new (w : World) : FmAt (w.alloc (.map #[] 0)) w.heap.size [] := ⟨_, World.ownsMap_made w _ _ _, Maps.isMap_empty, fun _ _ _ _ _ _ => rfl⟩
theorem FmAt.same {w w' : World} {b : Nat} {fs : List Fl} (h : FmAt w b fs) (hb : w'.heap[b]? = w.heap[b]?) : FmAt w' b fs :=
  let ⟨D, h1, h2⟩ := h
  ⟨D, ownsMap_same h1 hb, h2⟩
theorem FmAt.obj {w : World} {b : Nat} {fs : List Fl} (h : FmAt w b fs) : ∃ es c, w.heap[b]? = some (.map es c) := let ⟨_, h1, _⟩ := h; ownsMap_obj h1
theorem filled_put {D : DataW Unit} {fs : List Fl} {n : ByteArray} {r c v : Int} (hM : Maps.IsMap D) (hn : n.size ≤ maxLen) (hr : I64 r) (hc : I64 c)
    (hH : ∀ n r c, n.size ≤ maxLen → I64 r → I64 c → Maps.has D (wkey n r c) = filledW fs n r c) :
    ∀ n' r' c', n'.size ≤ maxLen → I64 r' → I64 c' → Maps.has (D.put (wkey n r c) (.agg [])) (wkey n' r' c') = filledW (fs ++ [⟨n, r, c, v⟩]) n' r' c' := fun n' r' c' hn' hr' hc' => by
  have e : filledW (fs ++ [⟨n, r, c, v⟩]) n' r' c' = (filledW fs n' r' c' || ((n.toList == n'.toList) && decide (r = r') && decide (c = c'))) := by simp [filledW]
  rw [e]
  by_cases h : wkey n' r' c' = wkey n r c
  · obtain ⟨rfl, rfl, rfl⟩ := wkey_inj hn' hr' hc' hn hr hc h
    rw [has_put_same hM (show WideAt.IsKeyLit (wkey n' r' c') from trivial)]
    simp
  · rw [has_put_other h, hH _ _ _ hn' hr' hc']
    have : ((n.toList == n'.toList) && decide (r = r') && decide (c = c')) = false := by
      cases hx : ((n.toList == n'.toList) && decide (r = r') && decide (c = c'))
      · rfl
      · exfalso
        simp only [Bool.and_eq_true, beq_iff_eq, decide_eq_true_eq] at hx
        obtain ⟨⟨h1, rfl⟩, rfl⟩ := hx
        have : n = n' := by
          rw [Go.Lib.toList_data, Go.Lib.toList_data] at h1
          exact ByteArray.ext (Array.toList_inj.1 h1)
        exact h (by rw [this])
    rw [this, Bool.or_false]
theorem look_nm {w : World} {b k : Nat} {D : DataW Unit} {s : ByteArray} {V : Int} {Bo : Bool} (hs : s.size ≤ maxLen) (hh : Maps.has D (.string s.data.toList) = Bo) (ha : D.atKey (.string s.data.toList) (.lit (.int .i64 0)) = .lit (.int .i64 V))
    (hD : w.ownsMap Tryz.prog 9 (plainElem Tryz.prog 3) b k D) : (Instr.lookup 89 (.map (some b)) (.string s) true).run Tryz.prog w = .ok (.tuple #[.int .i64 V, .bool Bo]) w := by
  obtain ⟨v, ps, h1, h2⟩ := hD.look_ok str9 Tryz.underlying89 (int_zero w) (plainElem_int Tryz.underlying3 (by decide)) (key9 s hs)
  obtain ⟨x, rfl, hx, _⟩ := plainElem_int_inv Tryz.underlying3 h2
  have : DataW.lit (.int .i64 x) = (.lit (.int .i64 V) : DataW Unit) := (congrArg Prod.fst hx).symm.trans ha
  obtain rfl : x = V := by simpa using this
  rw [h1, hh]
theorem unit_zero (w : World) : (zeroValue 146).run Tryz.prog w = .ok (.agg #[]) w := by kernel_rfl
theorem look_fl {w : World} {b k : Nat} {D : DataW Unit} {n : ByteArray} {r c : Int} {Bo : Bool} (hn : n.size ≤ maxLen) (hr : I64 r) (hc : I64 c) (hh : Maps.has D (wkey n r c) = Bo)
    (hD : w.ownsMap Tryz.prog 39 unitElem b k D) : (Instr.lookup 90 (.map (some b)) (.agg #[.string n, .int .i64 r, .int .i64 c]) true).run Tryz.prog w = .ok (.tuple #[.agg #[], .bool Bo]) w := by
  obtain ⟨v, ps, h1, h2⟩ := hD.look_ok wellKeyed Tryz.underlying90 (unit_zero w) unitElem_mk (key_well n r c hn hr hc)
  obtain ⟨rfl, _⟩ := unitElem_inv h2
  rw [h1, hh]
theorem index_no : ∀ (ws : List Wr) (K : Int) (n : ByteArray) (r c : Int), namedL (ws.map (·.n)) n = false → indexW ws K n r c = none
  | [], _, _, _, _, _ => rfl
  | w :: ws, K, n, r, c, h => by
    simp only [List.map_cons, namedL, List.any_cons, Bool.or_eq_false_iff] at h
    rw [indexW, h.1]
    simp only [Bool.false_eq_true, if_false]
    exact index_no ws _ n r c h.2
theorem index_yes : ∀ (ws : List Wr) (K : Int) (i : Nat) (x : Wr) (r c : Int), ws[i]? = some x → (∀ (j : Nat) y, ws[j]? = some y → j < i → (y.n.toList == x.n.toList) = false) →
    (indexW ws K x.n r c).isSome = decide (0 ≤ r ∧ r < x.x ∧ 0 ≤ c ∧ c < x.y)
  | [], _, _, _, _, _, h, _ => by simp at h
  | w :: ws, K, 0, x, r, c, h, _ => by
    obtain rfl : w = x := by simpa using h
    rw [indexW, beq_self_eq_true]
    simp only [if_true]
    split
    · rename_i hh; simp [hh]
    · rename_i hh; simp [hh]
  | w :: ws, K, i + 1, x, r, c, h, hne => by
    have h0 := hne 0 w rfl (by omega)
    rw [indexW, h0]
    simp only [Bool.false_eq_true, if_false]
    exact index_yes ws _ i x r c (by simpa using h) (fun j y hj hl => hne (j + 1) y (by simpa using hj) (by omega))
theorem has_yes {D : DataW Unit} {ws : List Wr} {i : Nat} {x : Wr} (r c : Int) (hx : ws[i]? = some x)
    (hA : ∀ (i : Nat) n, (ws.map (·.n))[i]? = some n → D.atKey (.string n.data.toList) (.lit (.int .i64 0)) = .lit (.int .i64 ((i : Nat) : Int))) : hasW ws x.n r c = decide (0 ≤ r ∧ r < x.x ∧ 0 ≤ c ∧ c < x.y) := by
  refine index_yes ws 0 i x r c hx (fun j y hj hl => ?_)
  cases hb : y.n.toList == x.n.toList
  · rfl
  · exfalso
    have h1 := hA j y.n (by rw [List.getElem?_map, hj]; rfl)
    have h2 := hA i x.n (by rw [List.getElem?_map, hx]; rfl)
    have e : y.n.data.toList = x.n.data.toList := by rw [← Go.Lib.toList_data, ← Go.Lib.toList_data]; simpa using hb
    rw [e, h2] at h1
    have : (i : Int) = (j : Int) := by simpa using h1
    omega
/-- A well marked, if it may be. -/
def fillN (ws : List Wr) (fs : List Fl) (n : ByteArray) (r c : Int) : List Fl := if (hasW ws n r c && !filledW fs n r c) = true then fs ++ [⟨n, r, c, 0⟩] else fs
set_option maxRecDepth 100000 in
set_option maxHeartbeats 1600000 in
theorem fill_any (w : World) (base S bw bf : Nat) (wv tv fv tm pv hv : Value) (ws : List Wr) (fs : List Fl) (n : ByteArray) (r c : Int) (hn : n.size ≤ maxLen) (hr : I64 r) (hc : I64 c)
    (oS : w.heap[S]? = some (.cells #[wv, tv, fv, .map (some bw), tm, .map (some bf), pv, hv] 93 (0, 0))) (hW : IsRecs w wv ws) (hw : NmAt w bw (ws.map (·.n))) (hf : FmAt w bf fs) (hbf : base ≤ bf) (hfs : fs.length < 100000) :
    Calls Tryz.prog 38 #[.pointer (some ⟨S, 0, none⟩), .agg #[.string n, .int .i64 r, .int .i64 c]] w fun e w' => e = .returned (.bool (hasW ws n r c && !filledW fs n r c)) ∧ FmAt w' bf (fillN ws fs n r c) ∧ Tn kM base w w' ∧ Tm bf w w' := by
  obtain ⟨D, hD0, hT, hS, hH, hA⟩ := hw
  have HF := Lib.hid hf
  obtain ⟨E, hE0, hM, hHE⟩ := hf
  have hWlen := hW.len
  -- the box
  have B1 : B w (w.alloc (.cells #[.string n, .int .i64 r, .int .i64 c] 39)) := (B.refl w).alloc _ _
  have oG := obj_new w (.cells #[.string n, .int .i64 r, .int .i64 c] 39)
  have oS1 := B1.obj oS
  have hD := ownsMap_same hD0 (B1.below.block _ hD0.lt)
  have hE := ownsMap_same hE0 (B1.below.block _ hE0.lt)
  have hW1 := hW.keepB B1
  have Bw := B1
  have hGlt := obj_lt oG
  go_enter Tryz.func38, Tryz.ntmps38
  go_wp2_with fail
  generalize w.alloc (.cells #[.string n, .int .i64 r, .int .i64 c] 39) = W1 at *
  generalize w.heap.size = G at *
  replace B1 := B.refl W1
  have s3 : W1.cell? ⟨S, 3, none⟩ = some (.map (some bw)) := obj_cell oS1 3
  have g0 : W1.cell? ⟨G, 0, none⟩ = some (.string n) := obj_cell oG 0
  clear hW
  cases hnm : namedL (ws.map (·.n)) n
  · have hno : hasW ws n r c = false := by unfold hasW; rw [index_no ws 0 n r c hnm]; rfl
    have cL := fun w => look_nm (w := w) (b := bw) (k := (ws.map (·.n)).length) hn ((hH n).trans hnm) (atKey_of_not_has ((hH n).trans hnm) _)
    have HN := Lib.hid hno
    refine wp_region_noPanic ?_
    refine wp_region_seq (S := fun w' => B W1 w' ∧ w'.cell? ⟨S, 3, none⟩ = some (.map (some bw)) ∧ w'.cell? ⟨G, 0, none⟩ = some (.string n) ∧ w'.ownsMap Tryz.prog 9 (plainElem Tryz.prog 3) bw (ws.map (·.n)).length D) [(0, 0), (1, 0), (2, 0), (3, 0), (4, 0), (5, 0), (6, 0), (7, 0), (8, 0), (9, 0), (10, 0), (11, 0)] [0, 1, 2, 4, 0, 16, 40, 64, 128, 128, 511, 2047] [0, 1, 2, 4, 0, 16, 40, 64, 128, 128, 256, 512] (by kernel_rfl) (by kernel_rfl) (fun _ _ _ _ _ h => h) ?_ (fun hH => ?_)
    · exact ⟨B1.drew, s3, g0, hD⟩
    refine wpSeq_take (d := 11) (v := ?_) rfl rfl (by kernel_rfl) (fun w hS => ?_) ?_
    rotate_left
    · go_simp <;> with_reducible rfl
    dsimp only [List.set_cons_zero, List.set_cons_succ]
    refine wpSeq_take (d := 12) (v := ?_) rfl rfl (by kernel_rfl) (fun w hS => ?_) ?_
    rotate_left
    · go_simp <;> with_reducible rfl
    dsimp only [List.set_cons_zero, List.set_cons_succ]
    refine wpSeq_take (d := 13) (v := ?_) rfl rfl (by kernel_rfl) (fun w hS => ?_) ?_
    rotate_left
    · go_simp <;> with_reducible rfl
    dsimp only [List.set_cons_zero, List.set_cons_succ]
    refine wpSeq_take (d := 14) (v := ?_) rfl rfl (by kernel_rfl) (fun w hS => ?_) ?_
    rotate_left
    · go_simp <;> with_reducible rfl
    dsimp only [List.set_cons_zero, List.set_cons_succ]
    refine wpSeq_take (d := 15) (v := ?_) rfl rfl (by kernel_rfl) (fun w hS => ?_) ?_
    rotate_left
    · go_simp <;> with_reducible rfl
    dsimp only [List.set_cons_zero, List.set_cons_succ]
    refine wpSeq_take (d := 16) (v := ?_) rfl rfl (by kernel_rfl) (fun w hS => ?_) ?_
    rotate_left
    · go_simp <;> with_reducible rfl
    dsimp only [List.set_cons_zero, List.set_cons_succ]
    refine wpSeq_take (d := 17) (v := .tuple #[.int .i64 0, .bool false]) rfl rfl (by kernel_rfl) (fun w hS => ?_) ?_
    · have e := cL w hS.2.2.2; go_simp
    dsimp only [List.set_cons_zero, List.set_cons_succ]
    refine wpSeq_take (d := 10) (v := ?_) rfl rfl (by kernel_rfl) (fun w hS => ?_) ?_
    rotate_left
    · go_simp <;> with_reducible rfl
    dsimp only [List.set_cons_zero, List.set_cons_succ]
    refine wpSeq_take (d := 18) (v := ?_) rfl rfl (by kernel_rfl) (fun w hS => ?_) ?_
    rotate_left
    · go_simp <;> with_reducible rfl
    dsimp only [List.set_cons_zero, List.set_cons_succ]
    refine wpSeq_take (d := 19) (v := ?_) rfl rfl (by kernel_rfl) (fun w hS => ?_) ?_
    rotate_left
    · go_simp <;> with_reducible rfl
    dsimp only [List.set_cons_zero, List.set_cons_succ]
    refine wpSeq_take (d := 5) (v := ?_) rfl rfl (by kernel_rfl) (fun w hS => ?_) ?_
    rotate_left
    · go_simp <;> with_reducible rfl
    dsimp only [List.set_cons_zero, List.set_cons_succ]
    refine wpSeq_take (d := 6) (v := ?_) rfl rfl (by kernel_rfl) (fun w hS => ?_) ?_
    rotate_left
    · go_simp <;> with_reducible rfl
    dsimp only [List.set_cons_zero, List.set_cons_succ]
    refine wpSeq_done ?_
    refine NoPanic.normal ?_
    go_wp2
    go_ret
    refine ⟨by rw [HN.out]; rfl, ?_, (Bw.tn _ _).drew, Bw.drew.tm bf⟩
    have : fillN ws fs n r c = fs := by unfold fillN; rw [HN.out]; simp
    rw [this]
    exact HF.out.same (Bw.below.block _ (by obtain ⟨es, c, ho⟩ := HF.out.obj; exact obj_lt ho))
  · obtain ⟨i, x, hi, hxn⟩ : ∃ (i : Nat) (x : Wr), ws[i]? = some x ∧ x.n = n := by
      obtain ⟨m, hm, he⟩ := List.any_eq_true.1 hnm
      obtain ⟨x, hx, hxm⟩ := List.mem_map.1 hm
      subst hxm
      obtain ⟨i, hi⟩ := List.getElem?_of_mem hx
      refine ⟨i, x, hi, ?_⟩
      rw [Go.Lib.toList_data, Go.Lib.toList_data] at he
      exact ByteArray.ext (Array.toList_inj.1 (by simpa using he))
    have hhas := has_yes r c hi hA
    have hAi := hA i x.n (by rw [List.getElem?_map, hi]; rfl)
    rw [hxn] at hhas hAi
    have cL := fun w => look_nm (w := w) (b := bw) (k := (ws.map (·.n)).length) hn ((hH n).trans hnm) hAi
    have hil : i < ws.length := (List.getElem?_eq_some_iff.1 hi).1
    obtain ⟨a, cap, rfl, _, _, hr5⟩ := hW1.at_ hil
    have hix : ws[i] = x := by
      rw [List.getElem?_eq_getElem hil] at hi
      exact Option.some.inj hi
    rw [hix] at hr5
    clear hix
    have hlI : (i : Int) < (ws.length : Int) := by omega
    have hi0 : (0 : Int) ≤ (i : Int) := by omega
    refine wp_region_noPanic ?_
    refine wp_region_seq (S := fun w' => B W1 w' ∧ w'.cell? ⟨S, 3, none⟩ = some (.map (some bw)) ∧ w'.cell? ⟨G, 0, none⟩ = some (.string n) ∧ w'.ownsMap Tryz.prog 9 (plainElem Tryz.prog 3) bw (ws.map (·.n)).length D) [(0, 0), (1, 0), (2, 0), (3, 0), (4, 0), (5, 0), (6, 0), (7, 0), (8, 0), (9, 0), (10, 0), (11, 0)] [0, 1, 2, 4, 0, 16, 40, 64, 128, 128, 511, 2047] [0, 1, 2, 4, 0, 16, 40, 64, 128, 128, 256, 512] (by kernel_rfl) (by kernel_rfl) (fun _ _ _ _ _ h => h) ?_ (fun hH => ?_)
    · exact ⟨B1.drew, s3, g0, hD⟩
    refine wpSeq_take (d := 11) (v := ?_) rfl rfl (by kernel_rfl) (fun w hS => ?_) ?_
    rotate_left
    · go_simp <;> with_reducible rfl
    dsimp only [List.set_cons_zero, List.set_cons_succ]
    refine wpSeq_take (d := 12) (v := ?_) rfl rfl (by kernel_rfl) (fun w hS => ?_) ?_
    rotate_left
    · go_simp <;> with_reducible rfl
    dsimp only [List.set_cons_zero, List.set_cons_succ]
    refine wpSeq_take (d := 13) (v := ?_) rfl rfl (by kernel_rfl) (fun w hS => ?_) ?_
    rotate_left
    · go_simp <;> with_reducible rfl
    dsimp only [List.set_cons_zero, List.set_cons_succ]
    refine wpSeq_take (d := 14) (v := ?_) rfl rfl (by kernel_rfl) (fun w hS => ?_) ?_
    rotate_left
    · go_simp <;> with_reducible rfl
    dsimp only [List.set_cons_zero, List.set_cons_succ]
    refine wpSeq_take (d := 15) (v := ?_) rfl rfl (by kernel_rfl) (fun w hS => ?_) ?_
    rotate_left
    · go_simp <;> with_reducible rfl
    dsimp only [List.set_cons_zero, List.set_cons_succ]
    refine wpSeq_take (d := 16) (v := ?_) rfl rfl (by kernel_rfl) (fun w hS => ?_) ?_
    rotate_left
    · go_simp <;> with_reducible rfl
    dsimp only [List.set_cons_zero, List.set_cons_succ]
    refine wpSeq_take (d := 17) (v := .tuple #[.int .i64 (i : Int), .bool true]) rfl rfl (by kernel_rfl) (fun w hS => ?_) ?_
    · have e := cL w hS.2.2.2; go_simp
    dsimp only [List.set_cons_zero, List.set_cons_succ]
    refine wpSeq_take (d := 10) (v := ?_) rfl rfl (by kernel_rfl) (fun w hS => ?_) ?_
    rotate_left
    · go_simp <;> with_reducible rfl
    dsimp only [List.set_cons_zero, List.set_cons_succ]
    refine wpSeq_take (d := 18) (v := ?_) rfl rfl (by kernel_rfl) (fun w hS => ?_) ?_
    rotate_left
    · go_simp <;> with_reducible rfl
    dsimp only [List.set_cons_zero, List.set_cons_succ]
    refine wpSeq_take (d := 19) (v := ?_) rfl rfl (by kernel_rfl) (fun w hS => ?_) ?_
    rotate_left
    · go_simp <;> with_reducible rfl
    dsimp only [List.set_cons_zero, List.set_cons_succ]
    refine wpSeq_take (d := 5) (v := ?_) rfl rfl (by kernel_rfl) (fun w hS => ?_) ?_
    rotate_left
    · go_simp <;> with_reducible rfl
    dsimp only [List.set_cons_zero, List.set_cons_succ]
    refine wpSeq_take (d := 6) (v := ?_) rfl rfl (by kernel_rfl) (fun w hS => ?_) ?_
    rotate_left
    · go_simp <;> with_reducible rfl
    dsimp only [List.set_cons_zero, List.set_cons_succ]
    refine wpSeq_done ?_
    refine NoPanic.normal ?_
    have s0 : W1.drew.cell? ⟨S, 0, none⟩ = some (.slice (some a) ws.length cap) := obj_cell (w := W1.drew) oS1 0
    obtain ⟨xv, l4, l4s⟩ := hr5.l
    obtain ⟨xo, xc, rfl⟩ := secs_form l4s
    clear l4s
    have l0 := hr5.n
    rw [hxn] at l0
    have l1 := hr5.x
    have l2 := hr5.y
    have l3 := hr5.z
    have g1 : W1.cell? ⟨G, 1, none⟩ = some (.int .i64 r) := obj_cell oG 1
    have g2 : W1.cell? ⟨G, 2, none⟩ = some (.int .i64 c) := obj_cell oG 2
    have s5 : W1.cell? ⟨S, 5, none⟩ = some (.map (some bf)) := obj_cell oS1 5
    have hSl := obj_lt oS1
    clear hH hA hAi hr5 hD0 hE0 hT hS oS hW1 hi cL
    obtain ⟨X, hX⟩ : ∃ X, x.x = X := ⟨_, rfl⟩
    obtain ⟨Y, hY⟩ : ∃ Y, x.y = Y := ⟨_, rfl⟩
    rw [hX] at l1 hhas
    rw [hY] at l2 hhas
    obtain ⟨Z, hZ⟩ : ∃ Z, x.z = Z := ⟨_, rfl⟩
    rw [hZ] at l3
    clear hX hY hZ hxn
    by_cases b1 : r < 0
    · have k1 : decide (r < 0) = true := decide_eq_true b1
      by_cases z : True
      · have hno : hasW ws n r c = false := by rw [hhas]; exact decide_eq_false (by omega)
        have HN := Lib.hid hno
        clear hhas hno b1
        go_wp2
        go_ret
        refine ⟨by rw [HN.out]; rfl, ?_, ((Bw.tn _ _).drew).alloc _ _, (Bw.drew.alloc _ _).tm bf⟩
        have : fillN ws fs n r c = fs := by unfold fillN; rw [HN.out]; simp
        rw [this]
        exact HF.out.same (((Bw.drew.alloc _ _)).below.block _ (by obtain ⟨es, c, ho⟩ := HF.out.obj; exact obj_lt ho))
      · exact absurd trivial z
    have k1 : decide (r < 0) = false := decide_eq_false b1
    by_cases b2 : X ≤ r
    · have k2 : decide (X ≤ r) = true := decide_eq_true b2
      by_cases z : True
      · have hno : hasW ws n r c = false := by rw [hhas]; exact decide_eq_false (by omega)
        have HN := Lib.hid hno
        clear hhas hno b1 b2
        go_wp2
        go_ret
        refine ⟨by rw [HN.out]; rfl, ?_, ((Bw.tn _ _).drew).alloc _ _, (Bw.drew.alloc _ _).tm bf⟩
        have : fillN ws fs n r c = fs := by unfold fillN; rw [HN.out]; simp
        rw [this]
        exact HF.out.same (((Bw.drew.alloc _ _)).below.block _ (by obtain ⟨es, c, ho⟩ := HF.out.obj; exact obj_lt ho))
      · exact absurd trivial z
    have k2 : decide (X ≤ r) = false := decide_eq_false b2
    by_cases b3 : c < 0
    · have k3 : decide (c < 0) = true := decide_eq_true b3
      by_cases z : True
      · have hno : hasW ws n r c = false := by rw [hhas]; exact decide_eq_false (by omega)
        have HN := Lib.hid hno
        clear hhas hno b1 b2 b3
        go_wp2
        go_ret
        refine ⟨by rw [HN.out]; rfl, ?_, ((Bw.tn _ _).drew).alloc _ _, (Bw.drew.alloc _ _).tm bf⟩
        have : fillN ws fs n r c = fs := by unfold fillN; rw [HN.out]; simp
        rw [this]
        exact HF.out.same (((Bw.drew.alloc _ _)).below.block _ (by obtain ⟨es, c, ho⟩ := HF.out.obj; exact obj_lt ho))
      · exact absurd trivial z
    have k3 : decide (c < 0) = false := decide_eq_false b3
    by_cases b4 : Y ≤ c
    · have k4 : decide (Y ≤ c) = true := decide_eq_true b4
      by_cases z : True
      · have hno : hasW ws n r c = false := by rw [hhas]; exact decide_eq_false (by omega)
        have HN := Lib.hid hno
        clear hhas hno b1 b2 b3 b4
        go_wp2
        go_ret
        refine ⟨by rw [HN.out]; rfl, ?_, ((Bw.tn _ _).drew).alloc _ _, (Bw.drew.alloc _ _).tm bf⟩
        have : fillN ws fs n r c = fs := by unfold fillN; rw [HN.out]; simp
        rw [this]
        exact HF.out.same (((Bw.drew.alloc _ _)).below.block _ (by obtain ⟨es, c, ho⟩ := HF.out.obj; exact obj_lt ho))
      · exact absurd trivial z
    have k4 : decide (Y ≤ c) = false := decide_eq_false b4
    have hyes : hasW ws n r c = true := by rw [hhas]; exact decide_eq_true (by omega)
    have HY := Lib.hid hyes
    clear hhas hyes b1 b2 b3 b4
    generalize x.l.length = xl at *
    go_wp2
    have B3 : B W1 (W1.alloc (.cells #[.string n, .int .i64 X, .int .i64 Y, .int .i64 Z, .slice xo xl xc] 33)).drew := ((B.refl W1).alloc _ _).drew
    replace s5 := B3.keep s5
    replace g0 := B3.keep g0
    replace g1 := B3.keep g1
    replace g2 := B3.keep g2
    replace hE := ownsMap_same hE (B3.below.block _ hE.lt)
    clear l0 l1 l2 l3 l4 s0 s3 hD oS1 oG
    generalize (W1.alloc (.cells #[.string n, .int .i64 X, .int .i64 Y, .int .i64 Z, .slice xo xl xc] 33)).drew = W3 at *
    have hfl := hHE n r c hn hr hc
    cases hfill : filledW fs n r c
    · have cE := fun w => look_fl (w := w) (b := bf) (k := fs.length) hn hr hc (hfl.trans hfill)
      have cU := fun (w : World) (hE : w.ownsMap Tryz.prog 39 unitElem bf fs.length E) => hE.store wellKeyed Tryz.underlying90 (by unfold maxLen; omega) (key_well n r c hn hr hc) (unitElem_mk (H := Unit))
      replace hfill := Lib.hid hfill
      refine wp_region_noPanic ?_
      refine wp_region_seq (S := fun w' => B W1 w' ∧ w'.cell? ⟨S, 5, none⟩ = some (.map (some bf)) ∧ w'.cell? ⟨G, 0, none⟩ = some (.string n) ∧ w'.cell? ⟨G, 1, none⟩ = some (.int .i64 r) ∧ w'.cell? ⟨G, 2, none⟩ = some (.int .i64 c) ∧ w'.ownsMap Tryz.prog 39 unitElem bf fs.length E) [(0, 0), (1, 0), (2, 0), (3, 0), (4, 0), (5, 0), (6, 0), (7, 0), (8, 0), (9, 2), (10, 2), (11, 0)] [0, 1, 2, 4, 0, 24, 32, 64, 64, 0, 767, 2047] [0, 1, 2, 4, 0, 24, 32, 64, 64, 0, 640, 256] (by kernel_rfl) (by kernel_rfl) (fun _ _ _ _ _ h => h) ?_ (fun hH => ?_)
      · exact ⟨B3.drew, s5, g0, g1, g2, hE⟩
      refine wpSeq_take (d := 53) (v := ?_) rfl rfl (by kernel_rfl) (fun w hS => ?_) ?_
      rotate_left
      · go_simp <;> with_reducible rfl
      dsimp only [List.set_cons_zero, List.set_cons_succ]
      refine wpSeq_take (d := 54) (v := ?_) rfl rfl (by kernel_rfl) (fun w hS => ?_) ?_
      rotate_left
      · go_simp <;> with_reducible rfl
      dsimp only [List.set_cons_zero, List.set_cons_succ]
      refine wpSeq_take (d := 55) (v := ?_) rfl rfl (by kernel_rfl) (fun w hS => ?_) ?_
      rotate_left
      · go_simp <;> with_reducible rfl
      dsimp only [List.set_cons_zero, List.set_cons_succ]
      refine wpSeq_take (d := 56) (v := ?_) rfl rfl (by kernel_rfl) (fun w hS => ?_) ?_
      rotate_left
      · go_simp <;> with_reducible rfl
      dsimp only [List.set_cons_zero, List.set_cons_succ]
      refine wpSeq_take (d := 57) (v := ?_) rfl rfl (by kernel_rfl) (fun w hS => ?_) ?_
      rotate_left
      · go_simp <;> with_reducible rfl
      dsimp only [List.set_cons_zero, List.set_cons_succ]
      refine wpSeq_take (d := 58) (v := .tuple #[.agg #[], .bool false]) rfl rfl (by kernel_rfl) (fun w hS => ?_) ?_
      · have e := cE w hS.2.2.2.2.2; go_simp
      dsimp only [List.set_cons_zero, List.set_cons_succ]
      refine wpSeq_take (d := 52) (v := ?_) rfl rfl (by kernel_rfl) (fun w hS => ?_) ?_
      rotate_left
      · go_simp <;> with_reducible rfl
      dsimp only [List.set_cons_zero, List.set_cons_succ]
      refine wpSeq_take (d := 59) (v := ?_) rfl rfl (by kernel_rfl) (fun w hS => ?_) ?_
      rotate_left
      · go_simp <;> with_reducible rfl
      dsimp only [List.set_cons_zero, List.set_cons_succ]
      refine wpSeq_take (d := 60) (v := ?_) rfl rfl (by kernel_rfl) (fun w hS => ?_) ?_
      rotate_left
      · go_simp <;> with_reducible rfl
      dsimp only [List.set_cons_zero, List.set_cons_succ]
      refine wpSeq_call rfl (by kernel_rfl) (fun K hK => ?_)
      go_simp
      refine hK.out _ _ ?_ (fun hH => ?_)
      · first | exact hH | exact ⟨hH.1.alloc _ _, ((B.refl _).alloc _ _).keep hH.2.1, ((B.refl _).alloc _ _).keep hH.2.2.1, ((B.refl _).alloc _ _).keep hH.2.2.2.1, ((B.refl _).alloc _ _).keep hH.2.2.2.2.1, hH.2.2.2.2.2.alloc _⟩
      clear hK
      refine wpSeq_call rfl (by kernel_rfl) (fun K hK => ?_)
      go_simp
      refine hK.out _ _ ?_ (fun hH => ?_)
      · first | exact hH | exact ⟨hH.1.alloc _ _, ((B.refl _).alloc _ _).keep hH.2.1, ((B.refl _).alloc _ _).keep hH.2.2.1, ((B.refl _).alloc _ _).keep hH.2.2.2.1, ((B.refl _).alloc _ _).keep hH.2.2.2.2.1, hH.2.2.2.2.2.alloc _⟩
      clear hK
      refine wpSeq_take (d := 9) (v := ?_) rfl rfl (by kernel_rfl) (fun w hS => ?_) ?_
      rotate_left
      · go_simp <;> with_reducible rfl
      dsimp only [List.set_cons_zero, List.set_cons_succ]
      refine wpSeq_done ?_
      refine NoPanic.normal ?_
      clear s5 g0 g1 g2 hE cE
      obtain ⟨hB4, s5, g0, g1, g2, hE⟩ := hH
      go_wp2
      refine wp_region_noPanic ?_
      refine wp_region_gate (S := fun w' => B W1 w' ∧ w'.cell? ⟨S, 5, none⟩ = some (.map (some bf)) ∧ w'.cell? ⟨G, 0, none⟩ = some (.string n) ∧ w'.cell? ⟨G, 1, none⟩ = some (.int .i64 r) ∧ w'.cell? ⟨G, 2, none⟩ = some (.int .i64 c) ∧ w'.ownsMap Tryz.prog 39 unitElem bf fs.length E) 6 [(0, 3), (1, 3), (2, 3), (3, 0), (4, 0), (5, 3), (6, 4)] [0, 1, 2, 4, 0, 0, 63] [0, 1, 2, 4, 0, 0, 56] [0, 0, 0, 72, 80, 0, 0] (by kernel_rfl) (by kernel_rfl) (fun _ _ _ _ _ h => h) ?_ (fun hH => ?_)
      · exact ⟨hB4.drew, s5, g0, g1, g2, hE⟩
      refine wpSeqG_free (d := 62) (v := ?_) rfl rfl (by kernel_rfl) (fun w => ?_) ?_
      rotate_left
      · go_simp <;> with_reducible rfl
      dsimp only [List.set_cons_zero, List.set_cons_succ]
      refine wpSeqG_free (d := 63) (v := ?_) rfl rfl (by kernel_rfl) (fun w => ?_) ?_
      rotate_left
      · go_simp <;> with_reducible rfl
      dsimp only [List.set_cons_zero, List.set_cons_succ]
      refine wpSeqG_free (d := 64) (v := ?_) rfl rfl (by kernel_rfl) (fun w => ?_) ?_
      rotate_left
      · go_simp <;> with_reducible rfl
      dsimp only [List.set_cons_zero, List.set_cons_succ]
      refine wpSeqG_take (d := 65) (v := ?_) rfl rfl (by kernel_rfl) (fun w hS => ?_) ?_
      rotate_left
      · go_simp <;> with_reducible rfl
      dsimp only [List.set_cons_zero, List.set_cons_succ]
      refine wpSeqG_take (d := 66) (v := ?_) rfl rfl (by kernel_rfl) (fun w hS => ?_) ?_
      rotate_left
      · go_simp <;> with_reducible rfl
      dsimp only [List.set_cons_zero, List.set_cons_succ]
      refine wpSeqG_free (d := 67) (v := ?_) rfl rfl (by kernel_rfl) (fun w => ?_) ?_
      rotate_left
      · go_simp <;> with_reducible rfl
      dsimp only [List.set_cons_zero, List.set_cons_succ]
      refine wpSeqG_gate rfl (by kernel_rfl) (fun K hK => ?_)
      go_simp
      obtain ⟨w4, e4, hE4, ht4⟩ := cU _ hH.2.2.2.2.2
      have t4 := (hH.1.tn kM base).trans (turned_tn ht4 hbf (by decide))
      have u4 := (hH.1.tm bf).trans (turned_tm ht4)
      rw [e4]
      go_simp
      clear hH
      refine hK.out _ _ ?_
      clear hK
      refine wpSeqG_done ?_
      refine NoPanic.normal ?_
      go_wp2
      go_ret
      refine ⟨by rw [HY.out, hfill.out]; rfl, ?_, (Bw.tn _ _).trans t4, (Bw.tm bf).trans u4⟩
      have : fillN ws fs n r c = fs ++ [⟨n, r, c, 0⟩] := by unfold fillN; rw [HY.out, hfill.out]; simp
      rw [this]
      exact ⟨_, by simpa using hE4, hM.put _ _, filled_put hM hn hr hc hHE⟩
    · have cE := fun w => look_fl (w := w) (b := bf) (k := fs.length) hn hr hc (hfl.trans hfill)
      replace hfill := Lib.hid hfill
      refine wp_region_noPanic ?_
      refine wp_region_seq (S := fun w' => B W1 w' ∧ w'.cell? ⟨S, 5, none⟩ = some (.map (some bf)) ∧ w'.cell? ⟨G, 0, none⟩ = some (.string n) ∧ w'.cell? ⟨G, 1, none⟩ = some (.int .i64 r) ∧ w'.cell? ⟨G, 2, none⟩ = some (.int .i64 c) ∧ w'.ownsMap Tryz.prog 39 unitElem bf fs.length E) [(0, 0), (1, 0), (2, 0), (3, 0), (4, 0), (5, 0), (6, 0), (7, 0), (8, 0), (9, 2), (10, 2), (11, 0)] [0, 1, 2, 4, 0, 24, 32, 64, 64, 0, 767, 2047] [0, 1, 2, 4, 0, 24, 32, 64, 64, 0, 640, 256] (by kernel_rfl) (by kernel_rfl) (fun _ _ _ _ _ h => h) ?_ (fun hH => ?_)
      · exact ⟨B3.drew, s5, g0, g1, g2, hE⟩
      refine wpSeq_take (d := 53) (v := ?_) rfl rfl (by kernel_rfl) (fun w hS => ?_) ?_
      rotate_left
      · go_simp <;> with_reducible rfl
      dsimp only [List.set_cons_zero, List.set_cons_succ]
      refine wpSeq_take (d := 54) (v := ?_) rfl rfl (by kernel_rfl) (fun w hS => ?_) ?_
      rotate_left
      · go_simp <;> with_reducible rfl
      dsimp only [List.set_cons_zero, List.set_cons_succ]
      refine wpSeq_take (d := 55) (v := ?_) rfl rfl (by kernel_rfl) (fun w hS => ?_) ?_
      rotate_left
      · go_simp <;> with_reducible rfl
      dsimp only [List.set_cons_zero, List.set_cons_succ]
      refine wpSeq_take (d := 56) (v := ?_) rfl rfl (by kernel_rfl) (fun w hS => ?_) ?_
      rotate_left
      · go_simp <;> with_reducible rfl
      dsimp only [List.set_cons_zero, List.set_cons_succ]
      refine wpSeq_take (d := 57) (v := ?_) rfl rfl (by kernel_rfl) (fun w hS => ?_) ?_
      rotate_left
      · go_simp <;> with_reducible rfl
      dsimp only [List.set_cons_zero, List.set_cons_succ]
      refine wpSeq_take (d := 58) (v := .tuple #[.agg #[], .bool true]) rfl rfl (by kernel_rfl) (fun w hS => ?_) ?_
      · have e := cE w hS.2.2.2.2.2; go_simp
      dsimp only [List.set_cons_zero, List.set_cons_succ]
      refine wpSeq_take (d := 52) (v := ?_) rfl rfl (by kernel_rfl) (fun w hS => ?_) ?_
      rotate_left
      · go_simp <;> with_reducible rfl
      dsimp only [List.set_cons_zero, List.set_cons_succ]
      refine wpSeq_take (d := 59) (v := ?_) rfl rfl (by kernel_rfl) (fun w hS => ?_) ?_
      rotate_left
      · go_simp <;> with_reducible rfl
      dsimp only [List.set_cons_zero, List.set_cons_succ]
      refine wpSeq_take (d := 60) (v := ?_) rfl rfl (by kernel_rfl) (fun w hS => ?_) ?_
      rotate_left
      · go_simp <;> with_reducible rfl
      dsimp only [List.set_cons_zero, List.set_cons_succ]
      refine wpSeq_call rfl (by kernel_rfl) (fun K hK => ?_)
      go_simp
      refine hK.out _ _ ?_ (fun hH => ?_)
      · first | exact hH | exact ⟨hH.1.alloc _ _, ((B.refl _).alloc _ _).keep hH.2.1, ((B.refl _).alloc _ _).keep hH.2.2.1, ((B.refl _).alloc _ _).keep hH.2.2.2.1, ((B.refl _).alloc _ _).keep hH.2.2.2.2.1, hH.2.2.2.2.2.alloc _⟩
      clear hK
      refine wpSeq_call rfl (by kernel_rfl) (fun K hK => ?_)
      go_simp
      refine hK.out _ _ ?_ (fun hH => ?_)
      · first | exact hH | exact ⟨hH.1.alloc _ _, ((B.refl _).alloc _ _).keep hH.2.1, ((B.refl _).alloc _ _).keep hH.2.2.1, ((B.refl _).alloc _ _).keep hH.2.2.2.1, ((B.refl _).alloc _ _).keep hH.2.2.2.2.1, hH.2.2.2.2.2.alloc _⟩
      clear hK
      refine wpSeq_take (d := 9) (v := ?_) rfl rfl (by kernel_rfl) (fun w hS => ?_) ?_
      rotate_left
      · go_simp <;> with_reducible rfl
      dsimp only [List.set_cons_zero, List.set_cons_succ]
      refine wpSeq_done ?_
      refine NoPanic.normal ?_
      obtain ⟨hB4, _⟩ := hH
      go_wp2
      go_ret
      refine ⟨by rw [HY.out, hfill.out]; rfl, ?_, (Bw.trans hB4).tn _ _, (Bw.trans hB4).tm bf⟩
      have : fillN ws fs n r c = fs := by unfold fillN; rw [HY.out, hfill.out]; simp
      rw [this]
      exact HF.out.same ((Bw.trans hB4).below.block _ (by obtain ⟨es, c, ho⟩ := HF.out.obj; exact obj_lt ho))
end Go.Proofs.YtflklpflpjdbmaaGreatDoor

namespace Go.Proofs
open Go.Shelf
def Tryz.lays169_ren : Go.Shelf.Ren := ⟨fun | 169 => 32 | n => n, fun | 70 => 79 | 9 => 9 | 0 => 0 | 72 => 81 | 37 => 47 | 127 => 144 | 3 => 3 | 5 => 5 | n => n, fun | n => n⟩
theorem Tryz.lays169 : Go.Proofs.Lays.n169 Tryz.prog Tryz.lays169_ren := {
  mixed := by kernel_rfl
  f169 := Tryz.func32.trans (congrArg some (by kernel_rfl))
  t0 := Tryz.underlying0
  a0 := Tryz.isAgg0
  z0 := Tryz.sizeOf0
  v0 := Tryz.zeroValue0
  t3 := Tryz.underlying3
  a3 := Tryz.isAgg3
  z3 := Tryz.sizeOf3
  v3 := Tryz.zeroValue3
  t9 := Tryz.underlying9
  a9 := Tryz.isAgg9
  z9 := Tryz.sizeOf9
  v9 := Tryz.zeroValue9
  t37 := Tryz.underlying47
  a37 := Tryz.isAgg47
  z37 := Tryz.sizeOf47
  v37 := Tryz.zeroValue47
  t70 := Tryz.underlying79
  a70 := Tryz.isAgg79
  z70 := Tryz.sizeOf79
  v70 := Tryz.zeroValue79
  t72 := Tryz.underlying81
  a72 := Tryz.isAgg81
  z72 := Tryz.sizeOf81
  v72 := Tryz.zeroValue81
  t127 := Tryz.underlying144
  a127 := Tryz.isAgg144
  z127 := Tryz.sizeOf144
  v127 := Tryz.zeroValue144 }
theorem Tryz.Builder_Extra_169 : Builder.Extra Tryz.prog Tryz.lays169_ren := {
  sizeBuilder := by kernel_rfl
  liesBuilder := by kernel_rfl
  t5 := Tryz.underlying5
  a5 := Tryz.isAgg5
  z5 := Tryz.sizeOf5
  v5 := Tryz.zeroValue5
  infoByte := by kernel_rfl
  cellsByte := by kernel_rfl
  sizeByte := by kernel_rfl
  neB5 := by decide }
open Go.RowKit in
theorem Tryz.Builder_String_any (B b : Nat) (l : List UInt8) (w : World) (h : Lib.IsBuilder 81 5 B b (Lib.byteCells l) w) (hBw : B ≤ w.heap.size) :
    Calls Tryz.prog 32 #[.pointer (some ⟨b, 0, none⟩)] w fun e w' => e = .returned (.string ⟨l.toArray⟩) ∧ Below B w w' := Any.Builder_String_any Tryz.lays169 Tryz.Builder_Extra_169 B b l w h hBw
def Tryz.laysM171_ren : Go.Shelf.Ren := ⟨fun | 171 => 71 | 243 => 95 | 246 => 94 | 283 => 105 | 284 => 106 | 285 => 107 | 286 => 108 | 129 => 115 | 317 => 114 | 318 => 116 | 319 => 117 | 320 => 118 | 337 => 120 | 338 => 121 | n => n, fun | 3 => 3 | 9 => 9 | 2 => 2 | 4 => 4 | 171 => 174 | 0 => 0 | 53 => 175 | 37 => 47 | 5 => 5 | 173 => 178 | 212 => 185 | 51 => 78 | 20 => 20 | 213 => 186 | 46 => 188 | 232 => 193 | 233 => 194 | n => n, fun | 17 => 0 | 18 => 2 | 19 => 3 | n => n⟩
theorem Tryz.laysM171 : Go.Proofs.LaysM.n171 Tryz.prog Tryz.laysM171_ren := {
  mixed := by kernel_rfl
  f129 := Tryz.func115.trans (congrArg some (by kernel_rfl))
  f171 := Tryz.func71.trans (congrArg some (by kernel_rfl))
  f243 := Tryz.func95.trans (congrArg some (by kernel_rfl))
  f246 := Tryz.func94.trans (congrArg some (by kernel_rfl))
  f283 := Tryz.func105.trans (congrArg some (by kernel_rfl))
  f284 := Tryz.func106.trans (congrArg some (by kernel_rfl))
  f285 := Tryz.func107.trans (congrArg some (by kernel_rfl))
  f286 := Tryz.func108.trans (congrArg some (by kernel_rfl))
  f317 := Tryz.func114.trans (congrArg some (by kernel_rfl))
  f318 := Tryz.func116.trans (congrArg some (by kernel_rfl))
  f319 := Tryz.func117.trans (congrArg some (by kernel_rfl))
  f320 := Tryz.func118.trans (congrArg some (by kernel_rfl))
  f337 := Tryz.func120.trans (congrArg some (by kernel_rfl))
  f338 := Tryz.func121.trans (congrArg some (by kernel_rfl))
  t0 := Tryz.underlying0
  a0 := Tryz.isAgg0
  z0 := Tryz.sizeOf0
  v0 := Tryz.zeroValue0
  t2 := Tryz.underlying2
  a2 := Tryz.isAgg2
  z2 := Tryz.sizeOf2
  v2 := Tryz.zeroValue2
  t3 := Tryz.underlying3
  a3 := Tryz.isAgg3
  z3 := Tryz.sizeOf3
  v3 := Tryz.zeroValue3
  t4 := Tryz.underlying4
  a4 := Tryz.isAgg4
  z4 := Tryz.sizeOf4
  v4 := Tryz.zeroValue4
  t5 := Tryz.underlying5
  a5 := Tryz.isAgg5
  z5 := Tryz.sizeOf5
  v5 := Tryz.zeroValue5
  t9 := Tryz.underlying9
  a9 := Tryz.isAgg9
  z9 := Tryz.sizeOf9
  v9 := Tryz.zeroValue9
  t20 := Tryz.underlying20
  a20 := Tryz.isAgg20
  z20 := Tryz.sizeOf20
  v20 := Tryz.zeroValue20
  t37 := Tryz.underlying47
  a37 := Tryz.isAgg47
  z37 := Tryz.sizeOf47
  v37 := Tryz.zeroValue47
  t46 := Tryz.underlying188
  a46 := Tryz.isAgg188
  z46 := Tryz.sizeOf188
  v46 := Tryz.zeroValue188
  t51 := Tryz.underlying78
  a51 := Tryz.isAgg78
  z51 := Tryz.sizeOf78
  v51 := Tryz.zeroValue78
  t53 := Tryz.underlying175
  a53 := Tryz.isAgg175
  z53 := Tryz.sizeOf175
  v53 := Tryz.zeroValue175
  t171 := Tryz.underlying174
  a171 := Tryz.isAgg174
  z171 := Tryz.sizeOf174
  v171 := Tryz.zeroValue174
  t173 := Tryz.underlying178
  a173 := Tryz.isAgg178
  z173 := Tryz.sizeOf178
  v173 := Tryz.zeroValue178
  t212 := Tryz.underlying185
  a212 := Tryz.isAgg185
  z212 := Tryz.sizeOf185
  v212 := Tryz.zeroValue185
  t213 := Tryz.underlying186
  a213 := Tryz.isAgg186
  z213 := Tryz.sizeOf186
  t232 := Tryz.underlying193
  a232 := Tryz.isAgg193
  z232 := Tryz.sizeOf193
  v232 := Tryz.zeroValue193
  t233 := Tryz.underlying194
  a233 := Tryz.isAgg194
  z233 := Tryz.sizeOf194
  v233 := Tryz.zeroValue194
  g17 := by kernel_rfl
  g18 := by kernel_rfl
  g19 := by kernel_rfl
  i0 := by kernel_rfl
  i2 := by kernel_rfl
  i3 := by kernel_rfl
  i4 := by kernel_rfl
  i5 := by kernel_rfl
  i9 := by kernel_rfl
  i20 := by kernel_rfl
  i37 := by kernel_rfl
  i46 := by kernel_rfl
  i51 := by kernel_rfl
  i53 := by kernel_rfl
  i171 := by kernel_rfl
  i173 := by kernel_rfl
  i212 := by kernel_rfl
  i232 := by kernel_rfl
  i233 := by kernel_rfl
  m17 := by kernel_rfl
  m18 := by kernel_rfl
  m19 := by kernel_rfl }
open Go.RowKit Go.Sort Go.Lib in
theorem Tryz.strconv_Itoa (n : Int) (h0 : -9223372036854775808 ≤ n) (h1 : n ≤ 9223372036854775807) (w : World) (htab : Lib.TabIs Tryz.prog w "internal/strconv.uint64pow10" .u64 Lib.pow10Tab) :
    Calls Tryz.prog 71 #[.int .i64 n] w fun e w' => e = .returned (.string ⟨(Lib.itoa n).toArray⟩) ∧ ∃ k os, w' = grow (w.drewN k) os := Any.strconv_Itoa Tryz.laysM171 n h0 h1 w htab
def Tryz.laysM173_ren : Go.Shelf.Ren := ⟨fun | 173 => 70 | 246 => 94 | 283 => 105 | 284 => 106 | 285 => 107 | 286 => 108 | 129 => 115 | 317 => 114 | 318 => 116 | 319 => 117 | 320 => 118 | 337 => 120 | 338 => 121 | n => n, fun | 2 => 2 | 3 => 3 | 9 => 9 | 4 => 4 | 171 => 174 | 0 => 0 | 53 => 175 | 37 => 47 | 5 => 5 | 173 => 178 | 212 => 185 | 51 => 78 | 20 => 20 | 213 => 186 | 46 => 188 | 232 => 193 | 233 => 194 | n => n, fun | 17 => 0 | 18 => 2 | 19 => 3 | n => n⟩
theorem Tryz.laysM173 : Go.Proofs.LaysM.n173 Tryz.prog Tryz.laysM173_ren := {
  mixed := by kernel_rfl
  f129 := Tryz.func115.trans (congrArg some (by kernel_rfl))
  f173 := Tryz.func70.trans (congrArg some (by kernel_rfl))
  f246 := Tryz.func94.trans (congrArg some (by kernel_rfl))
  f283 := Tryz.func105.trans (congrArg some (by kernel_rfl))
  f284 := Tryz.func106.trans (congrArg some (by kernel_rfl))
  f285 := Tryz.func107.trans (congrArg some (by kernel_rfl))
  f286 := Tryz.func108.trans (congrArg some (by kernel_rfl))
  f317 := Tryz.func114.trans (congrArg some (by kernel_rfl))
  f318 := Tryz.func116.trans (congrArg some (by kernel_rfl))
  f319 := Tryz.func117.trans (congrArg some (by kernel_rfl))
  f320 := Tryz.func118.trans (congrArg some (by kernel_rfl))
  f337 := Tryz.func120.trans (congrArg some (by kernel_rfl))
  f338 := Tryz.func121.trans (congrArg some (by kernel_rfl))
  t0 := Tryz.underlying0
  a0 := Tryz.isAgg0
  z0 := Tryz.sizeOf0
  v0 := Tryz.zeroValue0
  t2 := Tryz.underlying2
  a2 := Tryz.isAgg2
  z2 := Tryz.sizeOf2
  v2 := Tryz.zeroValue2
  t3 := Tryz.underlying3
  a3 := Tryz.isAgg3
  z3 := Tryz.sizeOf3
  v3 := Tryz.zeroValue3
  t4 := Tryz.underlying4
  a4 := Tryz.isAgg4
  z4 := Tryz.sizeOf4
  v4 := Tryz.zeroValue4
  t5 := Tryz.underlying5
  a5 := Tryz.isAgg5
  z5 := Tryz.sizeOf5
  v5 := Tryz.zeroValue5
  t9 := Tryz.underlying9
  a9 := Tryz.isAgg9
  z9 := Tryz.sizeOf9
  v9 := Tryz.zeroValue9
  t20 := Tryz.underlying20
  a20 := Tryz.isAgg20
  z20 := Tryz.sizeOf20
  v20 := Tryz.zeroValue20
  t37 := Tryz.underlying47
  a37 := Tryz.isAgg47
  z37 := Tryz.sizeOf47
  v37 := Tryz.zeroValue47
  t46 := Tryz.underlying188
  a46 := Tryz.isAgg188
  z46 := Tryz.sizeOf188
  v46 := Tryz.zeroValue188
  t51 := Tryz.underlying78
  a51 := Tryz.isAgg78
  z51 := Tryz.sizeOf78
  v51 := Tryz.zeroValue78
  t53 := Tryz.underlying175
  a53 := Tryz.isAgg175
  z53 := Tryz.sizeOf175
  v53 := Tryz.zeroValue175
  t171 := Tryz.underlying174
  a171 := Tryz.isAgg174
  z171 := Tryz.sizeOf174
  v171 := Tryz.zeroValue174
  t173 := Tryz.underlying178
  a173 := Tryz.isAgg178
  z173 := Tryz.sizeOf178
  v173 := Tryz.zeroValue178
  t212 := Tryz.underlying185
  a212 := Tryz.isAgg185
  z212 := Tryz.sizeOf185
  v212 := Tryz.zeroValue185
  t213 := Tryz.underlying186
  a213 := Tryz.isAgg186
  z213 := Tryz.sizeOf186
  t232 := Tryz.underlying193
  a232 := Tryz.isAgg193
  z232 := Tryz.sizeOf193
  v232 := Tryz.zeroValue193
  t233 := Tryz.underlying194
  a233 := Tryz.isAgg194
  z233 := Tryz.sizeOf194
  v233 := Tryz.zeroValue194
  g17 := by kernel_rfl
  g18 := by kernel_rfl
  g19 := by kernel_rfl
  i0 := by kernel_rfl
  i2 := by kernel_rfl
  i3 := by kernel_rfl
  i4 := by kernel_rfl
  i5 := by kernel_rfl
  i9 := by kernel_rfl
  i20 := by kernel_rfl
  i37 := by kernel_rfl
  i46 := by kernel_rfl
  i51 := by kernel_rfl
  i53 := by kernel_rfl
  i171 := by kernel_rfl
  i173 := by kernel_rfl
  i212 := by kernel_rfl
  i232 := by kernel_rfl
  i233 := by kernel_rfl
  m17 := by kernel_rfl
  m18 := by kernel_rfl
  m19 := by kernel_rfl }
open Go.RowKit Go.Sort Go.Lib in
theorem Tryz.strconv_FormatInt_10 (n : Int) (h0 : -9223372036854775808 ≤ n) (h1 : n ≤ 9223372036854775807) (w : World) (htab : Lib.TabIs Tryz.prog w "internal/strconv.uint64pow10" .u64 Lib.pow10Tab) :
    Calls Tryz.prog 70 #[.int .i64 n, .int .i64 10] w fun e w' => e = .returned (.string ⟨(Lib.itoa n).toArray⟩) ∧ ∃ k os, w' = grow (w.drewN k) os := Any.strconv_FormatInt_10 Tryz.laysM173 n h0 h1 w htab
def Tryz.lays219_ren : Go.Shelf.Ren := ⟨fun | 219 => 123 | 217 => 124 | 225 => 125 | 224 => 126 | 267 => 127 | 266 => 128 | 314 => 129 | n => n, fun | 9 => 9 | 3 => 3 | 4 => 4 | 5 => 5 | 46 => 188 | 146 => 197 | 51 => 78 | n => n, fun | 1 => 1 | n => n⟩
theorem Tryz.lays219 : Go.Proofs.Lays.n219 Tryz.prog Tryz.lays219_ren := {
  mixed := by kernel_rfl
  f217 := Tryz.func124.trans (congrArg some (by kernel_rfl))
  f219 := Tryz.func123.trans (congrArg some (by kernel_rfl))
  f224 := Tryz.func126.trans (congrArg some (by kernel_rfl))
  f225 := Tryz.func125.trans (congrArg some (by kernel_rfl))
  f266 := Tryz.func128.trans (congrArg some (by kernel_rfl))
  f267 := Tryz.func127.trans (congrArg some (by kernel_rfl))
  f314 := Tryz.func129.trans (congrArg some (by kernel_rfl))
  t3 := Tryz.underlying3
  a3 := Tryz.isAgg3
  z3 := Tryz.sizeOf3
  v3 := Tryz.zeroValue3
  t4 := Tryz.underlying4
  a4 := Tryz.isAgg4
  z4 := Tryz.sizeOf4
  v4 := Tryz.zeroValue4
  t5 := Tryz.underlying5
  a5 := Tryz.isAgg5
  z5 := Tryz.sizeOf5
  v5 := Tryz.zeroValue5
  t9 := Tryz.underlying9
  a9 := Tryz.isAgg9
  z9 := Tryz.sizeOf9
  v9 := Tryz.zeroValue9
  t46 := Tryz.underlying188
  a46 := Tryz.isAgg188
  z46 := Tryz.sizeOf188
  v46 := Tryz.zeroValue188
  t51 := Tryz.underlying78
  a51 := Tryz.isAgg78
  z51 := Tryz.sizeOf78
  v51 := Tryz.zeroValue78
  t146 := Tryz.underlying197
  a146 := Tryz.isAgg197
  z146 := Tryz.sizeOf197
  v146 := Tryz.zeroValue197
  g1 := by kernel_rfl }
open Go.RowKit Go.Lib in
theorem Tryz.stringslite_Index_one (s : ByteArray) (c : UInt8) (w : World) :
    Calls Tryz.prog 123 #[.string s, .string ⟨#[c]⟩] w fun e w' => e = .returned (.int .i64 (Lib.indexByte s.data.toList c)) ∧ w' = w := Any.stringslite_Index_one Tryz.lays219 s c w
end Go.Proofs
