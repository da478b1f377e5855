/-
 Contracts and what they rest on.
-/
import Derived.Shelf.Abstract
import Derived.Maps.OwnSet
import Derived.Maps.OwnOps
import Derived.WalkSpells
import Derived.Test.YthlileddhgglnaaGreatDoorY10
namespace Go.Proofs.YthlileddhgglnaaGreatDoor
open Go.RowKit
theorem kind_low {n : Nat} : lowN n = true ↔ kindN n = 1 := by
 constructor
 ·intro h
  unfold kindN
  rw [if_pos h]
 ·intro h
  unfold kindN at h
  split at h
  ·assumption
  repeat' (split at h)
  all_goals omega
set_option maxHeartbeats 1000000 in
theorem name_any (s : ByteArray) (w : World) : Calls Tryz.prog 85 #[.string s] w fun e w' => e = .returned (.bool (nameS s)) ∧ B w w' := by
 have hE := toList_empty s
 by_cases h2 : 16 < s.size
 ·have h2B : decide ((16 : Int) < (s.size : Int)) = true := decide_eq_true (by omega)
  rw [nameS_size (.inr h2)]
  clear h2 hE
  go_enter Tryz.func85, Tryz.ntmps85
  go_wp2
  go_ret
  exact ⟨rfl, B.refl _⟩
 have h2B : decide ((16 : Int) < (s.size : Int)) = false := decide_eq_false (by omega)
 by_cases h1 : s.size < 1
 ·rw [decide_eq_true h1] at hE
  rw [nameS_size (.inl h1)]
  clear h1 h2
  go_enter Tryz.func85, Tryz.ntmps85
  go_wp2
  go_ret
  exact ⟨rfl, B.refl _⟩
 rw [decide_eq_false h1] at hE
 have hz : (0 : Int) < (s.size : Int) := by omega
 have hz' : 0 < s.size := by omega
 have hg0 : ∀ h : 0 < s.size, (s[0]'h).toNat = byteAt s 0 := fun h => byteAt_get s 0 h
 have ck := fun w => kind_any (byteAt s 0) w
 cases h3 : lowN (byteAt s 0)
 ·have hK : ((kindN (byteAt s 0) : Int) != 1) = true := by
   have : kindN (byteAt s 0) ≠ 1 := fun e => by rw [kind_low.2 e] at h3; cases h3
   simp; omega
  rw [nameS_first h3]
  obtain ⟨m, hm⟩ : ∃ m, byteAt s 0 = m := ⟨_, rfl⟩
  rw [hm] at hg0 hK ck
  generalize kindN m = K at *
  clear h1 h2 h3 hm
  go_enter Tryz.func85, Tryz.ntmps85
  go_wp2_with fail
  refine (ck _).mono ?_
  rintro e w1 ⟨rfl, rfl⟩
  go_wp2
  go_ret
  exact ⟨rfl, B.refl _⟩
 have hK : ((kindN (byteAt s 0) : Int) != 1) = false := by
  have := kind_low.1 h3
  simp; omega
 have hconv := fun w => Lib.run_convert_string_bytes (P := Tryz.prog) w 9 47 5 s Tryz.underlying9 Tryz.underlying47 Tryz.underlying5
 have hcell : ∀ j, j < s.size → (Lib.bytesWorld w 5 s).cell? ⟨w.heap.size, j, none⟩ = some (.int .u8 ((byteAt s j : Nat) : Int)) := fun j hj => Lib.bytesWorld_cell w _ s j hj
 have HB := Lib.hid ((B.refl w).bytes 5 s)
 have hgood := Lib.hid (fun h => nameS_good (s := s) (by omega) (by omega) h3 h)
 have hbad := Lib.hid (show ∀ i, i < s.size → (lowN (byteAt s i) || digN (byteAt s i)) = false → nameS s = false from fun i h1 h2 => nameS_bad h1 h2)
 generalize nameS s = R at *
 have HSZ := Lib.hid (show s.size ≤ 16 by omega)
 generalize hb0 : byteAt s 0 = b0 at hg0 hK ck
 generalize kindN b0 = K at *
 clear h1 h2 h3 hb0
 go_enter Tryz.func85, Tryz.ntmps85
 go_wp2_with fail
 refine (ck _).mono ?_
 rintro e w1 ⟨rfl, rfl⟩
 clear ck
 go_wp2
 clear hg0 hK hE h2B
 generalize Lib.bytesWorld w 5 s = W1 at *
 generalize w.heap.size = H at *
 go_loopw [22] (fun iv wr => ∃ k : Nat, k ≤ s.size ∧ iv = .int .i64 k ∧ (∀ j, j < k → (lowN (byteAt s j) || digN (byteAt s j)) = true) ∧ W1 = wr) (fun iv _ => s.size + 1 - (intOf iv).toNat)
 case atStart => exact ⟨0, Nat.zero_le _, rfl, fun j hj => by omega, rfl⟩
 case round =>
  obtain ⟨k, hk, rfl, hall, rfl⟩ := hrel
  by_cases hl : k < s.size
  ·have hlB : decide ((k : Int) < (s.size : Int)) = true := decide_eq_true (by omega)
   have hlI : (k : Int) < (s.size : Int) := by omega
   have wk1 : IntKind.i64.wrap ((k : Int) + 1) = (k : Int) + 1 := by have := HSZ.out; rw [IntKind.wrap_i64]; omega
   have hc := hcell k hl
   have ck := fun w => kind_any (byteAt s k) w
   have hnext : (lowN (byteAt s k) || digN (byteAt s k)) = true → ∀ j, j < k + 1 → (lowN (byteAt s j) || digN (byteAt s j)) = true := fun h j hj => by
    by_cases c : j = k
    ·subst c; exact h
    ·exact hall j (by omega)
   obtain ⟨m, hm⟩ : ∃ m, byteAt s k = m := ⟨_, rfl⟩
   have hb := hbad.out k hl
   rw [hm] at hc ck hnext hb
   by_cases c1 : kindN m = 1
   ·have hK : ((kindN m : Int) != 1) = false := by simp; omega
    have HA := Lib.hid (And.intro (hnext (by rw [kind_low.2 c1]; rfl)) hl)
    generalize kindN m = K at *
    clear hnext hb hall hm c1 hcell hbad hgood HB hl hk
    go_wp2_with fail
    refine (ck _).mono ?_
    rintro e w1 ⟨rfl, rfl⟩
    clear ck
    go_wp2
    go_roundw
    case rel => exact ⟨k + 1, by have := HA.out.2; omega, by go_num, HA.out.1, trivial⟩
    case measure => have := HA.out.2; simp [intOf]; omega
   by_cases c3 : kindN m = 3
   ·have hK : ((kindN m : Int) != 1) = true := by simp; omega
    have hK3 : ((kindN m : Int) != 3) = false := by simp; omega
    have HA := Lib.hid (And.intro (hnext (by rw [kind_dig.2 c3]; simp)) hl)
    generalize kindN m = K at *
    clear hnext hb hall hm c1 c3 hcell hbad hgood HB hl hk
    go_wp2_with fail
    refine (ck _).mono ?_
    rintro e w1 ⟨rfl, rfl⟩
    clear ck
    go_wp2
    go_roundw
    case rel => exact ⟨k + 1, by have := HA.out.2; omega, by go_num, HA.out.1, trivial⟩
    case measure => have := HA.out.2; simp [intOf]; omega
   ·have hK : ((kindN m : Int) != 1) = true := by simp; omega
    have hK3 : ((kindN m : Int) != 3) = true := by simp; omega
    have e1 : lowN m = false := by
     cases h : lowN m
     ·rfl
     ·exact absurd (kind_low.1 h) c1
    have e3 : digN m = false := by
     cases h : digN m
     ·rfl
     ·exact absurd (kind_dig.1 h) c3
    obtain rfl := hb (by rw [e1, e3]; rfl)
    generalize kindN m = K at *
    clear hnext hb hall hm c1 c3 e1 e3 hcell hbad hgood hl hk
    go_wp2_with fail
    refine (ck _).mono ?_
    rintro e w1 ⟨rfl, rfl⟩
    clear ck
    go_wp2
    go_ret
    exact ⟨rfl, HB.out⟩
  ·have hlB : decide ((k : Int) < (s.size : Int)) = false := decide_eq_false (by omega)
   have HR := Lib.hid (hgood.out (fun i hi => hall i (by omega)))
   clear hall hgood hbad hcell hk
   go_wp2
   go_ret
   exact ⟨by rw [HR.out]; rfl, HB.out⟩
end Go.Proofs.YthlileddhgglnaaGreatDoor
namespace Go.Proofs.YthlileddhgglnaaGreatDoor
open Go.RowKit Go.Maps Go.WideMaps
set_option linter.unusedVariables false
theorem str9 : Keyed Tryz.prog 9 := string_keyed Tryz.underlying9
theorem int_zero (w : World) : (zeroValue 3).run Tryz.prog w = .ok (.int .i64 0) w := by kernel_rfl
def namedL (ns : List ByteArray) (s : ByteArray) : Bool := ns.any fun n => n.toList == s.toList
def NmAt (w : World) (b : Nat) (ns : List ByteArray) : Prop :=
 ∃ D : DataW Unit, w.ownsMap Tryz.prog 9 (plainElem Tryz.prog 3) b ns.length D ∧ Maps.Tidy D ∧ Maps.size D = ns.length ∧
  (∀ s : ByteArray, Maps.has D (.string s.data.toList) = namedL ns s) ∧
  ∀ (i : Nat) n, ns[i]? = some n → D.atKey (.string n.data.toList) (.lit (.int .i64 0)) = .lit (.int .i64 ((i : Nat) : Int))
theorem NmAt.new (w : World) : NmAt (w.alloc (.map #[] 0)) w.heap.size [] :=
 ⟨_, World.ownsMap_made w _ _ _, Maps.tidy_empty, rfl, fun _ => rfl, fun i n h => by simp at h⟩
theorem ownsMap_obj {P : Program} {k : TypeId} {R : Value → Option (DataW Unit × List MemPlace)} {w : World} {b n : Nat} {D : DataW Unit} (h : w.ownsMap P k R b n D) : ∃ es c, w.heap[b]? = some (.map es c) := by
 obtain ⟨es, c, h1, _⟩ := h
 exact ⟨es, c, h1⟩
theorem ownsMap_same {P : Program} {k : TypeId} {R : Value → Option (DataW Unit × List MemPlace)} {w w' : World} {b n : Nat} {D : DataW Unit} (h : w.ownsMap P k R b n D) (hb : w'.heap[b]? = w.heap[b]?) : w'.ownsMap P k R b n D := by
 obtain ⟨es, c, h1, h2⟩ := h
 exact ⟨es, c, hb.trans h1, h2⟩
theorem NmAt.same {w w' : World} {b : Nat} {ns : List ByteArray} (h : NmAt w b ns) (hb : w'.heap[b]? = w.heap[b]?) : NmAt w' b ns :=
 let ⟨D, h1, h2⟩ := h
 ⟨D, ownsMap_same h1 hb, h2⟩
theorem NmAt.obj {w : World} {b : Nat} {ns : List ByteArray} (h : NmAt w b ns) : ∃ es c, w.heap[b]? = some (.map es c) := let ⟨_, h1, _⟩ := h; ownsMap_obj h1
theorem namedL_snoc (ns : List ByteArray) (s x : ByteArray) : namedL (ns ++ [s]) x = (namedL ns x || s.toList == x.toList) := by simp [namedL]
theorem turned_tn {w w' : World} {b base : Nat} (h : w.mapTurned w' b) (hb : base ≤ b) {K : List (Option TypeId)} (hK : none ∈ K) : Tn K base w w' := by
 obtain ⟨es, c, es', c', ho, rfl⟩ := h
 refine ⟨rfl, rfl, rfl, by simp [ChangeMaps.setBlock], fun i hi => ?_⟩
 by_cases e : i = b
 ·subst e
  exact .inr ⟨hb, none, _, hK, ho, rfl⟩
 ·exact .inl (ChangeMaps.heap_setBlock_other ho _ e)
def Tm (b : Nat) (w w' : World) : Prop := ∀ i es c, i ≠ b → w.heap[i]? = some (.map es c) → w'.heap[i]? = some (.map es c)
theorem Tm.trans {b : Nat} {w1 w2 w3 : World} (h : Tm b w1 w2) (k : Tm b w2 w3) : Tm b w1 w3 := fun i es c hi ho => k i es c hi (h i es c hi ho)
theorem Tm.refl (b : Nat) (w : World) : Tm b w w := fun _ _ _ _ h => h
theorem Tn.tm {K : List (Option TypeId)} {base : Nat} {w w' : World} (t : Tn K base w w') (hK : none ∉ K) (b : Nat) : Tm b w w' := fun i es c _ ho => t.objm ho hK
theorem B.tm {w w' : World} (q : B w w') (b : Nat) : Tm b w w' := fun i es c _ ho => (q.below.block i (obj_lt ho)).trans ho
theorem turned_tm {w w' : World} {b : Nat} (h : w.mapTurned w' b) : Tm b w w' := fun i es c hi ho => by
 obtain ⟨es1, c1, es', c', hb, rfl⟩ := h
 exact (ChangeMaps.heap_setBlock_other hb _ hi).trans ho
theorem NmAt.tm {w w' : World} {b b' : Nat} {ns : List ByteArray} (h : NmAt w b ns) (t : Tm b' w w') (hb : b ≠ b') : NmAt w' b ns := by
 obtain ⟨es, c, ho⟩ := h.obj
 exact h.same ((t b es c hb ho).trans ho.symm)
def addN (ns : List ByteArray) (s : ByteArray) : List ByteArray := if (nameS s && !namedL ns s) = true then ns ++ [s] else ns
def kM : List (Option TypeId) := [none]
theorem key9 (s : ByteArray) (h : s.size ≤ maxLen) : keyOf Tryz.prog 9 (.string s) = some (.string s.data.toList) := by
 have := keyOf_string_mk (P := Tryz.prog) (k := 9) Tryz.underlying9 (s := s) h
 simpa using this
set_option maxHeartbeats 1000000 in
theorem lit_ne {s x : ByteArray} (h : (s.toList == x.toList) = false) : Lit.string x.data.toList ≠ Lit.string s.data.toList := by
 intro e
 rw [Lit.string.injEq] at e
 rw [Go.Lib.toList_data, Go.Lib.toList_data, e] at h
 simp at h
theorem names_put {D : DataW Unit} {ns : List ByteArray} {s : ByteArray} (hT : Maps.Tidy D) (hS : Maps.size D = ns.length) (hH : ∀ s : ByteArray, Maps.has D (.string s.data.toList) = namedL ns s)
  (hA : ∀ (i : Nat) n, ns[i]? = some n → D.atKey (.string n.data.toList) (.lit (.int .i64 0)) = .lit (.int .i64 ((i : Nat) : Int))) (hns : namedL ns s = false) :
  let D' := D.put (.string s.data.toList) (.lit (.int .i64 (ns.length : Int)))
  Maps.Tidy D' ∧ Maps.size D' = (ns ++ [s]).length ∧ (∀ x : ByteArray, Maps.has D' (.string x.data.toList) = namedL (ns ++ [s]) x) ∧
   ∀ (i : Nat) n, (ns ++ [s])[i]? = some n → D'.atKey (.string n.data.toList) (.lit (.int .i64 0)) = .lit (.int .i64 ((i : Nat) : Int)) := by
 have hk : WideAt.IsKeyLit (.string s.data.toList) := trivial
 refine ⟨hT.put hk _, ?_, fun x => ?_, fun i n hi => ?_⟩
 ·rw [size_put hT, hH, hns]
  simp [hS]
 ·rw [namedL_snoc]
  cases hx : s.toList == x.toList
  ·rw [has_put_other (lit_ne hx), hH]
   simp
  ·have e : s.data.toList = x.data.toList := by
    rw [← Go.Lib.toList_data, ← Go.Lib.toList_data]
    simpa using hx
   rw [← e, has_put_same hT.isMap hk]
   simp
 ·by_cases hl : i < ns.length
  ·rw [List.getElem?_append_left hl] at hi
   have hx : (s.toList == n.toList) = false := by
    cases hx : s.toList == n.toList
    ·rfl
    ·have : namedL ns s = true := List.any_eq_true.2 ⟨n, List.mem_of_getElem? hi, by simpa using (by simpa using hx : s.toList = n.toList).symm⟩
     rw [hns] at this
     cases this
   rw [atKey_put_other (lit_ne hx)]
   exact hA i n hi
  ·rw [List.getElem?_append_right (by omega)] at hi
   have h0 : i - ns.length = 0 := by
    rcases Nat.eq_zero_or_pos (i - ns.length) with h | h
    ·exact h
    ·rw [List.getElem?_eq_none (by simp; omega)] at hi; cases hi
   rw [h0] at hi
   obtain rfl : s = n := by simpa using hi
   obtain rfl : i = ns.length := by omega
   rw [atKey_put_same hT.isMap hk]
set_option maxRecDepth 100000 in
theorem add_any (w : World) (base b : Nat) (ns : List ByteArray) (s : ByteArray) (hs : s.size ≤ maxLen) (hn : ns.length < 1000) (hb : base ≤ b) (h : NmAt w b ns) :
  Calls Tryz.prog 43 #[.map (some b), .string s] w fun r w' => r = .returned (.bool (nameS s && !namedL ns s)) ∧ NmAt w' b (addN ns s) ∧ Tn kM base w w' ∧ Tm b w w' := by
 unfold addN
 have hkey := key9 s hs
 have h0 := h
 obtain ⟨D, hD, hT, hS, hH, hA⟩ := h
 have hHs := hH s
 cases hns : namedL ns s
 ·rw [hns] at hHs
  cases hok : nameS s
  ·refine Calls.mono (R := fun r w' => r = .returned (.bool false) ∧ NmAt w' b ns ∧ Tn kM base w w' ∧ Tm b w w') ?_ (fun _ _ h => h)
   have HR := Lib.hid h0
   clear h0 hS hH hA hT hns
   go_enter Tryz.func43, Tryz.ntmps43
   go_wp2_with (first
    | (at_lookup; refine wpList_lookup_own_ok_int _ rfl _ _ 105 rfl 9 3 .i64 str9 Tryz.underlying105 Tryz.underlying3 (int_zero _) b _ D rfl hD _ _ rfl hkey ?_; intro c _ _; rw [hHs])
    | (go_at_call 85; refine (name_any _ _).mono ?_; rintro _ w1 ⟨rfl, q1⟩; simp only [hok]))
   go_ret
   exact ⟨rfl, HR.out.same (q1.below.block _ (by obtain ⟨es, c, ho⟩ := HR.out.obj; exact obj_lt ho)), q1.tn _ _, q1.tm b⟩
  ·refine Calls.mono (R := fun r w' => r = .returned (.bool true) ∧ NmAt w' b (ns ++ [s]) ∧ Tn kM base w w' ∧ Tm b w w') ?_ (fun _ _ h => h)
   have HX := Lib.hid (And.intro hT (And.intro hS (And.intro hH (And.intro hA hns))))
   clear h0 hT hH hA hns
   go_enter Tryz.func43, Tryz.ntmps43
   go_wp2_with (first
    | (at_lookup; refine wpList_lookup_own_ok_int _ rfl _ _ 105 rfl 9 3 .i64 str9 Tryz.underlying105 Tryz.underlying3 (int_zero _) b _ D rfl hD _ _ rfl hkey ?_; intro c _ _; rw [hHs])
    | (go_at_call 85; refine (name_any _ _).mono ?_; rintro _ w1 ⟨rfl, q1⟩; simp only [hok]; have hD1 := ownsMap_same hD (q1.below.block _ hD.lt))
    | (at_len; refine wpList_len_own _ rfl _ 105 rfl 9 3 Tryz.underlying105 _ b _ D rfl hD1 ?_; rw [hS])
    | (at_mapUpdate; refine wpList_mapUpdate_in _ rfl _ _ _ 105 rfl 9 3 str9 Tryz.underlying105 _ b _ D rfl hD1 (by unfold maxLen; omega) _ _ _ rfl rfl hkey (.lit (.int .i64 (ns.length : Int))) [] (plainElem_int Tryz.underlying3 (by simp [Lit.wf, IntKind.min, IntKind.max, IntKind.signed, IntKind.bits]; omega)) ?_; intro w2 hD2 ht2))
   go_ret
   obtain ⟨hT, hS, hH, hA, hns⟩ := HX.out
   refine ⟨rfl, ?_, (q1.tn kM base).trans (turned_tn ht2 hb (by decide)), (q1.tm b).trans (turned_tm ht2)⟩
   have hp := names_put hT hS hH hA hns
   exact ⟨_, by simpa using hD2, hp⟩
 ·rw [hns] at hHs
  rw [Bool.not_true, Bool.and_false]
  refine Calls.mono (R := fun r w' => r = .returned (.bool false) ∧ NmAt w' b ns ∧ Tn kM base w w' ∧ Tm b w w') ?_ (fun _ _ h => h)
  have HR := Lib.hid h0
  clear h0 hS hH hA hT hns
  go_enter Tryz.func43, Tryz.ntmps43
  go_wp2_with (first
   | (at_lookup; refine wpList_lookup_own_ok_int _ rfl _ _ 105 rfl 9 3 .i64 str9 Tryz.underlying105 Tryz.underlying3 (int_zero _) b _ D rfl hD _ _ rfl hkey ?_; intro c _ _; rw [hHs]))
  go_ret
  exact ⟨rfl, HR.out, Tn.refl _ _ _, Tm.refl _ _⟩
end Go.Proofs.YthlileddhgglnaaGreatDoor
namespace Go.Proofs.YthlileddhgglnaaGreatDoor
open Go.RowKit Go.Maps Go.WideMaps
set_option linter.unusedVariables false
def thD : List ByteArray → List Nat → ByteArray → DataW Unit
 | n :: ns, b :: bs, s => if n.toList == s.toList then .lit (.int .i64 b) else thD ns bs s
 | _, _, _ => .nil
theorem thD_no : ∀ (ns : List ByteArray) (bs : List Nat) (s : ByteArray), namedL ns s = false → thD ns bs s = .nil
 | [], _, _, _ => by simp [thD]
 | _ :: _, [], _, _ => by simp [thD]
 | n :: ns, b :: bs, s, h => by
  simp only [namedL, List.any_cons, Bool.or_eq_false_iff] at h
  rw [thD, h.1]
  exact thD_no ns bs s h.2
theorem thD_snoc : ∀ (ns : List ByteArray) (bs : List Nat) (n : ByteArray) (b : Nat) (s : ByteArray), ns.length = bs.length → thD (ns ++ [n]) (bs ++ [b]) s = if namedL ns s then thD ns bs s else if n.toList == s.toList then .lit (.int .i64 b) else .nil
 | [], [], n, b, s, _ => by simp [thD, namedL]
 | [], _ :: _, _, _, _, h => by simp at h
 | _ :: _, [], _, _, _, h => by simp at h
 | x :: ns, y :: bs, n, b, s, h => by
  show thD (x :: (ns ++ [n])) (y :: (bs ++ [b])) s = _
  rw [thD]
  cases hx : x.toList == s.toList
  ·simp only [Bool.false_eq_true, if_false]
   rw [thD_snoc ns bs n b s (by simpa using h)]
   simp only [namedL, List.any_cons, hx, Bool.false_or]
   rw [thD, hx]
   simp
  ·simp only [if_true]
   simp only [namedL, List.any_cons, hx, Bool.true_or, if_true]
   rw [thD, hx]
   simp
theorem thD_at : ∀ (ns : List ByteArray) (bs : List Nat) (i : Nat) (n : ByteArray) (b : Nat), ns[i]? = some n → bs[i]? = some b → (∀ j m, j < i → ns[j]? = some m → (m.toList == n.toList) = false) → thD ns bs n = .lit (.int .i64 b)
 | [], _, _, _, _, h, _, _ => by simp at h
 | _ :: _, [], _, _, _, _, h, _ => by simp at h
 | x :: ns, y :: bs, 0, n, b, h, h', _ => by
  obtain rfl : x = n := by simpa using h
  obtain rfl : y = b := by simpa using h'
  rw [thD, beq_self_eq_true]
  simp
 | x :: ns, y :: bs, i + 1, n, b, h, h', hne => by
  have h0 := hne 0 x (by omega) rfl
  rw [thD, h0]
  simp only [Bool.false_eq_true, if_false]
  exact thD_at ns bs i n b (by simpa using h) (by simpa using h') (fun j m hj hm => hne (j + 1) m (by omega) (by simpa using hm))
def ThMap (w : World) (m : Nat) (ns : List ByteArray) (bs : List Nat) : Prop :=
 ∃ D : DataW Unit, w.ownsMap Tryz.prog 9 ptrElem m ns.length D ∧ Maps.IsMap D ∧ (∀ s : ByteArray, D.atKey (.string s.data.toList) .nil = thD ns bs s) ∧ ∀ s : ByteArray, Maps.has D (.string s.data.toList) = namedL ns s
theorem ThMap.same {w w' : World} {b : Nat} {ns : List ByteArray} {bs : List Nat} (h : ThMap w b ns bs) (hb : w'.heap[b]? = w.heap[b]?) : ThMap w' b ns bs :=
 let ⟨D, h1, h2⟩ := h
 ⟨D, ownsMap_same h1 hb, h2⟩
theorem ThMap.obj {w : World} {b : Nat} {ns : List ByteArray} {bs : List Nat} (h : ThMap w b ns bs) : ∃ es c, w.heap[b]? = some (.map es c) := let ⟨_, h1, _⟩ := h; ownsMap_obj h1
theorem ThMap.g {S : Nat → Prop} {w w' : World} {b : Nat} {ns : List ByteArray} {bs : List Nat} (h : ThMap w b ns bs) (q : G S w w') (hb : ¬ S b) : ThMap w' b ns bs := by
 obtain ⟨es, c, ho⟩ := h.obj
 exact h.same ((q.obj hb ho).trans ho.symm)
theorem ThMap.new (w : World) : ThMap (w.alloc (.map #[] 0)) w.heap.size [] [] :=
 ⟨_, World.ownsMap_made w _ _ _, Maps.isMap_empty, fun _ => rfl, fun _ => rfl⟩
theorem th_put {D : DataW Unit} {ns : List ByteArray} {bs : List Nat} {n : ByteArray} {b : Nat} (hM : Maps.IsMap D) (hl : ns.length = bs.length) (hA : ∀ s : ByteArray, D.atKey (.string s.data.toList) .nil = thD ns bs s) (hH : ∀ s : ByteArray, Maps.has D (.string s.data.toList) = namedL ns s) (hn : namedL ns n = false) :
  (∀ s : ByteArray, (D.put (.string n.data.toList) (.lit (.int .i64 b))).atKey (.string s.data.toList) .nil = thD (ns ++ [n]) (bs ++ [b]) s) ∧ ∀ s : ByteArray, Maps.has (D.put (.string n.data.toList) (.lit (.int .i64 b))) (.string s.data.toList) = namedL (ns ++ [n]) s := by
 have hk : WideAt.IsKeyLit (.string n.data.toList) := trivial
 refine ⟨fun s => ?_, fun s => ?_⟩
 ·rw [thD_snoc ns bs n b s hl]
  cases hs : n.toList == s.toList
  ·rw [atKey_put_other (lit_ne hs), hA]
   cases hx : namedL ns s
   ·rw [thD_no ns bs s hx]; simp
   ·simp
  ·have e : n.data.toList = s.data.toList := by
    rw [← Go.Lib.toList_data, ← Go.Lib.toList_data]
    simpa using hs
   have hx : namedL ns s = false := by
    unfold namedL at hn ⊢
    rw [show s.toList = n.toList by simpa using (by simpa using hs : n.toList = s.toList).symm]
    exact hn
   rw [← e, atKey_put_same hM hk, hx]
   simp
 ·rw [namedL_snoc]
  cases hx : n.toList == s.toList
  ·rw [has_put_other (lit_ne hx), hH]
   simp
  ·have e : n.data.toList = s.data.toList := by
    rw [← Go.Lib.toList_data, ← Go.Lib.toList_data]
    simpa using hx
   rw [← e, has_put_same hM hk]
   simp
structure Th where
 i : Nat
 l : List Sec
 b : Nat
 p : Option Value
def Th.cells (x : Th) (v : Value) : Array Value := match x.p with
 | none => #[.int .i64 x.i, v, .int .u32 0, .int .i32 0, .int .u32 0, .pointer none]
 | some p => #[.int .i64 x.i, v, .int .u32 1, .int .i32 0, .int .u32 0, p]
structure ThAt (lo hi : Nat) (E : List Ent) (w : World) (x : Th) : Prop where
 obj : ∃ o m c, w.heap[x.b]? = some (.cells (x.cells (.slice o m c)) 151 (0, 0)) ∧ Held (fun w => IsSecs w (.slice o m c) x.l) lo hi w
 right : rightS x.l = true
 made : ∀ p, x.p = some p → ∃ e ∈ E, e.p = p ∧ e.l = x.l
theorem ThAt.g {S : Nat → Prop} {lo hi : Nat} {E : List Ent} {w w' : World} {x : Th} (h : ThAt lo hi E w x) (q : G S w w') (hS : ∀ i, S i → (i < lo ∨ hi ≤ i) ∧ i ≠ x.b) : ThAt lo hi E w' x := by
 obtain ⟨o, m, c, h1, h2⟩ := h.obj
 exact ⟨⟨o, m, c, q.obj (fun hs => (hS _ hs).2 rfl) h1, q.held h2 (fun i h3 h4 hs => by have := (hS i hs).1; omega)⟩, h.right, h.made⟩
theorem ThAt.moreE {lo hi : Nat} {E E' : List Ent} {w : World} {x : Th} (h : ThAt lo hi E w x) (hE : ∀ e ∈ E, e ∈ E') : ThAt lo hi E' w x :=
 ⟨h.obj, h.right, fun p hp => let ⟨e, h1, h2⟩ := h.made p hp; ⟨e, hE e h1, h2⟩⟩
structure Bp where
 b : Nat
 lo : Nat
 hi : Nat
 c : Nat
 bm : Nat
 base : Nat
 mw : Nat
 mt : Nat
 top : Nat
 wv : Value
 tv : Value
 fv : Value
 d : Dk
 bw : List Nat
 bt : List Nat
def Bp.S (P : Bp) (i : Nat) : Prop := i = P.c ∨ i = P.bm ∨ i ∈ P.bw ++ P.bt
structure BoardM (P : Bp) (w : World) (n : Nat) (E : List Ent) (X : List Th) : Prop where
 obj : w.heap[P.b]? = some (.cells #[P.wv, P.tv, P.fv, .pointer (some ⟨P.c, 0, none⟩), .map (some P.mw), .map (some P.mt)] 137 (0, 0))
 dk : Held (fun w => IsDk w P.wv P.tv P.fv P.d) P.lo P.hi w
 right : rightD P.d = true
 cache : CacheC CTab w P.c P.bm P.base n E
 wm : ThMap w P.mw (P.d.ws.map (·.n)) P.bw
 tm : ThMap w P.mt (P.d.ts.map (·.n)) P.bt
 lohi : P.lo ≤ P.hi
 hibm : P.hi ≤ P.bm
 bamw : P.base ≤ P.mw
 mwmt : P.mw < P.mt
 mtb : P.mt < P.b
 btop : P.b < P.top
 top : P.top ≤ w.heap.size
 bX : X.map (·.b) = P.bw ++ P.bt
 blt : ∀ x ∈ X, P.b < x.b ∧ x.b < P.top
 bap : X.Pairwise (fun x y => x.b ≠ y.b)
 ents : ∀ e ∈ E, P.top ≤ e.b
 things : ∀ x ∈ X, ThAt P.lo P.hi E w x
 xw : ∀ (i : Nat) r, P.d.ws[i]? = some r → ∃ x, X[i]? = some x ∧ x.i = i ∧ x.l = r.l
 xt : ∀ (i : Nat) r, P.d.ts[i]? = some r → ∃ x, X[P.d.ws.length + i]? = some x ∧ x.i = i ∧ x.l = r.l
 wl : P.bw.length = P.d.ws.length
 tl : P.bt.length = P.d.ts.length
 cnt : n = (X.filter (fun x => x.p.isSome)).length
 few : E.length ≤ n
section
variable {P : Bp} {w w' : World} {n : Nat} {E : List Ent} {X : List Th}
theorem BoardM.xlen (h : BoardM P w n E X) : X.length = P.d.ws.length + P.d.ts.length := by
 have := congrArg List.length h.bX
 simp [h.wl, h.tl] at this
 exact this
theorem right_few {d : Dk} (h : rightD d = true) : d.ws.length ≤ 8 ∧ d.ts.length ≤ 4 := by
 unfold rightD at h
 simp only [Bool.and_eq_true, decide_eq_true_eq] at h
 exact ⟨h.1.1.1.1, h.1.1.1.2⟩
theorem BoardM.n12 (h : BoardM P w n E X) : n ≤ 12 := by
 have h1 := h.xlen
 have h2 := right_few h.right
 have h3 := List.length_filter_le (fun x : Th => x.p.isSome) X
 have h4 := h.cnt
 omega
theorem BoardM.inS (h : BoardM P w n E X) : ∀ i, P.S i → i = P.c ∨ i = P.bm ∨ ∃ x ∈ X, x.b = i := fun i hi => by
 rcases hi with h1 | h1 | h1
 ·exact .inl h1
 ·exact .inr (.inl h1)
 ·rw [← h.bX] at h1
  obtain ⟨x, hx, e⟩ := List.mem_map.1 h1
  exact .inr (.inr ⟨x, hx, e⟩)
theorem BoardM.sLow (h : BoardM P w n E X) : ∀ i, P.S i → P.hi ≤ i ∧ i < P.top := fun i hi => by
 have h1 := h.cache.lt
 have h2 := h.cache.lb
 have h3 := h.hibm
 have h4 := h.bamw
 have h5 := h.mwmt
 have h6 := h.mtb
 have h7 := h.btop
 rcases h.inS i hi with rfl | rfl | ⟨x, hx, rfl⟩
 ·omega
 ·omega
 ·have := h.blt x hx; omega
theorem BoardM.keepG {S : Nat → Prop} (h : BoardM P w n E X) (q : G S w w') (hS : ∀ i, S i → i < P.lo) : BoardM P w' n E X := by
 have h1 := h.cache.lt
 have h2 := h.cache.lb
 have h3 := h.hibm
 have h4 := h.bamw
 have h5 := h.mwmt
 have h6 := h.mtb
 have h7 := h.btop
 have h8 := h.lohi
 have no : ∀ i, P.lo ≤ i → ¬ S i := fun i hi hs => by have := hS i hs; omega
 exact ⟨q.obj (no _ (by omega)) h.obj, q.held h.dk (fun i h1 _ => no i h1), h.right, CacheM.g h.cache q (fun i hi => by have := hS i hi; omega),
  h.wm.g q (no _ (by omega)), h.tm.g q (no _ (by omega)), h.lohi, h.hibm, h.bamw, h.mwmt, h.mtb, h.btop, Nat.le_trans h.top q.size, h.bX, h.blt, h.bap, h.ents,
  fun x hx => (h.things x hx).g q (fun i hi => by have := hS i hi; have := h.blt x hx; omega), h.xw, h.xt, h.wl, h.tl, h.cnt, h.few⟩
theorem BoardM.keepB (h : BoardM P w n E X) (q : B w w') : BoardM P w' n E X := h.keepG (q.g (fun _ => False)) (fun _ h => h.elim)
theorem filter_set : ∀ (X : List Th) (k : Nat) (x y : Th), X[k]? = some x → x.p.isSome = false → y.p.isSome = true → ((X.set k y).filter (fun x => x.p.isSome)).length = (X.filter (fun x => x.p.isSome)).length + 1
 | [], _, _, _, h, _, _ => by simp at h
 | z :: X, 0, x, y, h, hx, hy => by
  obtain rfl : z = x := by simpa using h
  rw [List.set_cons_zero, List.filter_cons, List.filter_cons]
  simp [hx, hy]
 | z :: X, k + 1, x, y, h, hx, hy => by
  have ih := filter_set X k x y (by simpa using h) hx hy
  rw [List.set_cons_succ, List.filter_cons, List.filter_cons]
  split
  ·simp [ih]
  ·exact ih
theorem map_b_set : ∀ (X : List Th) (k : Nat) (x y : Th), X[k]? = some x → y.b = x.b → (X.set k y).map (·.b) = X.map (·.b)
 | [], _, _, _, h, _ => by simp at h
 | z :: X, 0, x, y, h, hy => by
  obtain rfl : z = x := by simpa using h
  simp [hy]
 | z :: X, k + 1, x, y, h, hy => by
  have ih := map_b_set X k x y (by simpa using h) hy
  simp [ih]
theorem mem_set_or {X : List Th} {k : Nat} {y z : Th} (h : z ∈ X.set k y) : z = y ∨ ∃ j, j ≠ k ∧ X[j]? = some z := by
 obtain ⟨j, hj⟩ := List.getElem?_of_mem h
 by_cases e : k = j
 ·subst e
  rw [List.getElem?_set] at hj
  simp only [if_true] at hj
  split at hj
  ·exact .inl (Option.some.inj hj).symm
  ·cases hj
 ·rw [List.getElem?_set_ne e] at hj
  exact .inr ⟨j, fun e' => e e'.symm, hj⟩
theorem pair_ne {X : List Th} (h : X.Pairwise (fun x y => x.b ≠ y.b)) : ∀ {i j : Nat} {x y : Th}, X[i]? = some x → X[j]? = some y → i ≠ j → x.b ≠ y.b := by
 induction X with
 | nil => intro i j x y hx; simp at hx
 | cons z X ih =>
  rw [List.pairwise_cons] at h
  intro i j x y hx hy hij
  match i, j with
  | 0, 0 => exact absurd rfl hij
  | 0, j + 1 =>
   obtain rfl : z = x := by simpa using hx
   exact h.1 y (List.mem_of_getElem? (by simpa using hy))
  | i + 1, 0 =>
   obtain rfl : z = y := by simpa using hy
   exact fun e => h.1 x (List.mem_of_getElem? (by simpa using hx)) e.symm
  | i + 1, j + 1 => exact ih h.2 (by simpa using hx) (by simpa using hy) (by omega)
theorem BoardM.made {k : Nat} {x : Th} {e0 : Ent} {E' : List Ent} {o : Option Addr} {m cp : Nat} (h : BoardM P w n E X) (hx : X[k]? = some x) (hxp : x.p = none) (q : G (fun i => i = P.c ∨ i = P.bm ∨ i = x.b) w w')
  (hob : w'.heap[x.b]? = some (.cells #[.int .i64 x.i, .slice o m cp, .int .u32 1, .int .i32 0, .int .u32 0, e0.p] 151 (0, 0))) (hsec : Held (fun w => IsSecs w (.slice o m cp) x.l) P.lo P.hi w)
  (hC : CacheC CTab w' P.c P.bm P.base (n + 1) E') (he : e0 ∈ E') (hel : e0.l = x.l) (hE : E' = E ∨ (∀ e ∈ E, e.l ≠ x.l) ∧ w.heap.size ≤ e0.b ∧ E' = E ++ [e0]) :
  BoardM P w' (n + 1) E' (X.set k { x with p := some e0.p }) := by
 have h1 := h.cache.lt
 have h2 := h.cache.lb
 have h3 := h.hibm
 have h4 := h.bamw
 have h5 := h.mwmt
 have h6 := h.mtb
 have h7 := h.btop
 have h8 := h.lohi
 have hxm := List.mem_of_getElem? hx
 have hxb := h.blt x hxm
 have hEE : ∀ e ∈ E, e ∈ E' := fun e h9 => by
  rcases hE with rfl | ⟨_, _, rfl⟩
  ·exact h9
  ·exact List.mem_append_left _ h9
 have no : ∀ i, (i < P.hi ∨ (P.base ≤ i ∧ i ≤ P.b)) → ¬ (i = P.c ∨ i = P.bm ∨ i = x.b) := fun i hi hs => by
  rcases hs with rfl | rfl | rfl <;> omega
 refine ⟨q.obj (no _ (by omega)) h.obj, q.held h.dk (fun i _ h9 => no i (by omega)), h.right, hC, h.wm.g q (no _ (by omega)), h.tm.g q (no _ (by omega)), h.lohi, h.hibm, h.bamw, h.mwmt, h.mtb, h.btop, Nat.le_trans h.top q.size,
  (map_b_set X k x _ hx (by rfl)).trans h.bX, fun z hz => ?_, ?_, fun e he => ?_, fun z hz => ?_, fun i r hr => ?_, fun i r hr => ?_, h.wl, h.tl, ?_, ?_⟩
 ·rcases mem_set_or hz with rfl | ⟨j, _, hj⟩
  ·exact hxb
  ·exact h.blt z (List.mem_of_getElem? hj)
 ·have e := (map_b_set X k x { x with p := some e0.p } hx (by rfl))
  have hp := h.bap
  have a1 : (X.map (·.b)).Pairwise (fun a b => a ≠ b) := List.pairwise_map.2 hp
  rw [← e] at a1
  exact List.pairwise_map.1 a1
 ·rcases hE with rfl | ⟨_, h9, rfl⟩
  ·exact h.ents e he
  ·rcases List.mem_append.1 he with he | he
   ·exact h.ents e he
   ·obtain rfl := List.mem_singleton.1 he
    exact Nat.le_trans h.top h9
 ·rcases mem_set_or hz with rfl | ⟨j, hj, hz'⟩
  ·exact ⟨⟨o, m, cp, hob, q.held hsec (fun i _ h9 => no i (by omega))⟩, (h.things x hxm).right, fun p hp => ⟨e0, he, Option.some.inj hp, hel⟩⟩
  ·have hzm := List.mem_of_getElem? hz'
   refine ((h.things z hzm).g q (fun i hi => ?_)).moreE hEE
   have hzb := h.blt z hzm
   have hne := pair_ne h.bap hz' hx hj
   rcases hi with rfl | rfl | rfl
   ·omega
   ·omega
   ·exact ⟨by omega, fun e => hne e.symm⟩
 ·obtain ⟨y, hy, hy1, hy2⟩ := h.xw i r hr
  by_cases e : k = i
  ·subst e
   obtain rfl : x = y := Option.some.inj (hx.symm.trans hy)
   have hk : k < X.length := (List.getElem?_eq_some_iff.1 hx).1
   exact ⟨_, List.getElem?_set_self hk, hy1, hy2⟩
  ·exact ⟨y, (List.getElem?_set_ne e).trans hy, hy1, hy2⟩
 ·obtain ⟨y, hy, hy1, hy2⟩ := h.xt i r hr
  by_cases e : k = P.d.ws.length + i
  ·subst e
   obtain rfl : x = y := Option.some.inj (hx.symm.trans hy)
   have hk := (List.getElem?_eq_some_iff.1 hx).1
   exact ⟨_, List.getElem?_set_self hk, hy1, hy2⟩
  ·exact ⟨y, (List.getElem?_set_ne e).trans hy, hy1, hy2⟩
 ·rw [filter_set X k x _ hx (by rw [hxp]; rfl) rfl, ← h.cnt]
 ·have := h.few
  rcases hE with rfl | ⟨_, _, rfl⟩
  ·omega
  ·simp; omega
end
def addSh (L : List (List Sec)) (l : List Sec) : List (List Sec) := if L.any (fun x => decide (x = l)) then L else L ++ [l]
end Go.Proofs.YthlileddhgglnaaGreatDoor
namespace Go.Proofs.YthlileddhgglnaaGreatDoor
open Go.RowKit
set_option maxRecDepth 100000 in
set_option maxHeartbeats 1600000 in
theorem slow11_any (b off : Nat) (cap : Array Value) (R : World → Prop) (w : World)
  (h0 : w.cell? ⟨b, off, none⟩ = some (.int .u32 0)) (h1 : w.cell? ⟨b, off + 1, none⟩ = some (.int .i32 0)) (f1 : w.frozen? ⟨b, off + 1, none⟩ = false)
  (hf : Calls Tryz.prog 106 cap (w.setCell ⟨b, off + 1, none⟩ (.int .i32 1)) fun e w' => e = .returned (.tuple #[]) ∧ R w')
  (hR : ∀ w', R w' → w'.cell? ⟨b, off, none⟩ = some (.int .u32 0) ∧ w'.cell? ⟨b, off + 1, none⟩ = some (.int .i32 1) ∧ w'.frozen? ⟨b, off, none⟩ = false ∧ w'.frozen? ⟨b, off + 1, none⟩ = false) :
  Calls Tryz.prog 123 #[.pointer (some ⟨b, off, none⟩), .func (.func 106) #[] cap] w fun e w' => e = .returned (.tuple #[]) ∧
   ∃ w1, R w1 ∧ w' = (w1.drew.setCell ⟨b, off, none⟩ (.int .u32 1)).setCell ⟨b, off + 1, none⟩ (.int .i32 0) := by
 have hl := run_call_load (P := Tryz.prog) Tryz.func142 (by kernel_rfl) (by kernel_rfl) (by kernel_rfl) .u32 (by kernel_rfl) (w := w.setCell ⟨b, off + 1, none⟩ (.int .i32 1)) (a := ⟨b, off, none⟩) (x := 0) ((World.cell?_setCell_other _ ⟨b, off + 1, none⟩ ⟨b, off, none⟩ _ (by simp)).trans h0)
 have hnot : ∀ (x : Bool) (w : World), (Op.unary .not (.bool x)).run Tryz.prog w = .ok (.bool (!x)) w := fun _ _ => rfl
 have hin : ∀ args w, (callFunc 106 args).run Tryz.prog w = .ok (.enter 106 args) w := enters_of Tryz.func106 (by kernel_rfl) rfl
 go_enter_defers Tryz.func123, Tryz.ntmps123
 go_wp2_with (first | (go_at_call 143; refine (lock_free b (off + 1) _ h1 f1).mono ?_; rintro e w' ⟨rfl, rfl⟩) | (go_at_call 122; go_in))
 refine hf.mono ?_
 rintro e w1 ⟨rfl, hr⟩
 obtain ⟨k0, k1, z0, z1⟩ := hR w1 hr
 go_wp2
 refine leaves_cons (f := 145) (args := #[.pointer (some ⟨b, off, none⟩), .bool true]) (by simp) (by simp [go_sem]) ?_
 refine (store_deferred b off (.int .u32 0) .returning _ k0 z0).mono ?_
 rintro e u' w'' ⟨rfl, rfl, rfl⟩
 refine leaves_cons (f := 144) (args := #[.pointer (some ⟨b, off + 1, none⟩)]) (by simp [settle]) (by simp [go_sem]) ?_
 refine (unlock_deferred b (off + 1) _ _ ?_ (by simp [z1])).mono ?_
 ·refine (World.cell?_setCell_other _ ⟨b, off, none⟩ ⟨b, off + 1, none⟩ _ (by simp)).trans ?_
  rw [World.cell?_drew]
  exact k1
 rintro e u' w'' ⟨rfl, rfl, rfl⟩
 exact ⟨_, results_none rfl _ _ _, rfl, w1, hr, rfl⟩
set_option maxRecDepth 100000 in
set_option maxHeartbeats 1600000 in
theorem do11_first (b off : Nat) (cap : Array Value) (R : World → Prop) (w : World)
  (h0 : w.cell? ⟨b, off, none⟩ = some (.int .u32 0)) (h1 : w.cell? ⟨b, off + 1, none⟩ = some (.int .i32 0)) (f1 : w.frozen? ⟨b, off + 1, none⟩ = false)
  (hf : Calls Tryz.prog 106 cap (w.setCell ⟨b, off + 1, none⟩ (.int .i32 1)) fun e w' => e = .returned (.tuple #[]) ∧ R w')
  (hR : ∀ w', R w' → w'.cell? ⟨b, off, none⟩ = some (.int .u32 0) ∧ w'.cell? ⟨b, off + 1, none⟩ = some (.int .i32 1) ∧ w'.frozen? ⟨b, off, none⟩ = false ∧ w'.frozen? ⟨b, off + 1, none⟩ = false) :
  Calls Tryz.prog 105 #[.pointer (some ⟨b, off, none⟩), .func (.func 106) #[] cap] w fun e w' => e = .returned (.tuple #[]) ∧
   ∃ w1, R w1 ∧ w' = (w1.drew.setCell ⟨b, off, none⟩ (.int .u32 1)).setCell ⟨b, off + 1, none⟩ (.int .i32 0) := by
 have hl := run_call_load (P := Tryz.prog) Tryz.func142 (by kernel_rfl) (by kernel_rfl) (by kernel_rfl) .u32 (by kernel_rfl) h0
 have hnot : ∀ (x : Bool) (w : World), (Op.unary .not (.bool x)).run Tryz.prog w = .ok (.bool (!x)) w := fun _ _ => rfl
 have cS := slow11_any b off cap R w h0 h1 f1 hf hR
 clear hf hR
 go_enter Tryz.func105, Tryz.ntmps105
 go_wp2_with (first | (go_at_call 123; refine cS.mono ?_; rintro e w' ⟨rfl, w1, hw1, rfl⟩) | (go_at_call 122; go_in))
 go_end0
 exact ⟨rfl, w1, hw1, rfl⟩
end Go.Proofs.YthlileddhgglnaaGreatDoor
namespace Go.Proofs.YthlileddhgglnaaGreatDoor
open Go.RowKit
set_option linter.unusedVariables false
section
variable {P : Bp} {n : Nat} {E : List Ent} {X : List Th}
structure Asked (P : Bp) (n : Nat) (E : List Ent) (x : Th) (sl : Value) (w w' : World) (e0 : Ent) (E' : List Ent) : Prop where
 obj : w'.heap[x.b]? = some (.cells #[.int .i64 x.i, sl, .int .u32 0, .int .i32 1, .int .u32 0, e0.p] 151 (0, 0))
 mem : e0 ∈ E'
 l : e0.l = x.l
 E : E' = E ∨ (∀ e ∈ E, e.l ≠ x.l) ∧ w.heap.size ≤ e0.b ∧ E' = E ++ [e0]
 cache : CacheC CTab w' P.c P.bm P.base (n + 1) E'
 g : G (fun i => i = P.c ∨ i = P.bm ∨ i = x.b) w w'
theorem cache_thing {w w' : World} {x : Th} (hC : CacheC CTab w P.c P.bm P.base n E) (hb : P.base ≤ x.b) (hE : ∀ e ∈ E, x.b < e.b) (q : G (fun i => i = x.b) w w') : CacheC CTab w' P.c P.bm P.base n E :=
 CacheM.apartG hC q (fun i hi => by
  subst hi
  have h1 := hC.lt
  have h2 := hC.lb
  refine ⟨by omega, by omega, fun e he => ?_⟩
  have h3 := hE e he
  have h4 := (hC.ents e he).ord
  exact ⟨by omega, by omega⟩)
set_option maxRecDepth 100000 in
set_option maxHeartbeats 1600000 in
theorem asked_any (W0 w : World) (x : Th) (sl : Value) (hW : B W0 w) (hp : Pow10 W0) (hbm : W0.heap.size ≤ P.bm) (hC : CacheC CTab w P.c P.bm P.base n E) (hn : n < 1000000) (hE : E.length < 1000000) (hb : P.base ≤ x.b) (hEb : ∀ e ∈ E, x.b < e.b) (hv : IsSecs w sl x.l) (hr : rightS x.l = true)
  (ho : w.heap[x.b]? = some (.cells #[.int .i64 x.i, sl, .int .u32 0, .int .i32 1, .int .u32 0, .pointer none] 151 (0, 0))) (tB xB : Nat) (ht : w.cell? ⟨tB, 0, none⟩ = some (.pointer (some ⟨P.c, 0, none⟩))) (hx : w.cell? ⟨xB, 0, none⟩ = some (.pointer (some ⟨x.b, 0, none⟩))) :
  Calls Tryz.prog 106 #[.pointer (some ⟨tB, 0, none⟩), .pointer (some ⟨xB, 0, none⟩)] w fun e w' => e = .returned (.tuple #[]) ∧ ∃ e0 E', Asked P n E x sl w w' e0 E' := by
 have hlt := obj_lt ho
 have hcb := hC.lt
 have hbb := hC.lb
 have cT : ∀ w', B w w' → w'.heap.size = w.heap.size → Calls Tryz.prog 107 #[.pointer (some ⟨P.c, 0, none⟩), sl] w' fun e w'' => ∃ (p : Nat) (e0 : Ent) (E' : List Ent), e = .returned (.tuple #[.pointer (some ⟨p, 0, none⟩), .int .i64 0]) ∧ e0.p = .pointer (some ⟨p, 0, none⟩) ∧ e0 ∈ E' ∧ e0.l = x.l ∧
   (E' = E ∨ (∀ e ∈ E, e.l ≠ x.l) ∧ w.heap.size ≤ e0.b ∧ E' = E ++ [e0]) ∧ CacheC CTab w'' P.c P.bm P.base (n + 1) E' ∧ G (CS P.c P.bm) w w'' := fun w' q hs => by
  refine (ctable_yes (BB := W0.heap.size) ofN_code w' sl x.l (CacheM.keepB hC q) hn hE (hv.keepB q) hr (hp.on (hW.trans q).below) hbm).mono ?_
  rintro e w'' ⟨E', e0, rfl, h1, h2, h3, h4, h5⟩
  obtain ⟨p, hpp, _, _⟩ := (h4.ents e0 h1).tab.at_
  exact ⟨p, e0, E', by rw [hpp], hpp, h1, h2, by rw [← hs]; exact h3, h4, (q.g _).trans h5⟩
 have o0 := ho
 have oc1 := obj_cell ho 1
 have noX : ¬ CS P.c P.bm x.b := by rintro (h | h) <;> omega
 have nX : ¬ xB = P.c ∧ ¬ xB = P.bm := by
  refine ⟨fun e => ?_, fun e => ?_⟩
  ·subst e
   rw [obj_cell hC.obj] at hx
   cases hx
  ·subst e
   obtain ⟨D, ⟨es, cl, hm, _⟩, _⟩ := hC.map
   rw [obj_map hm] at hx
   cases hx
 have nT : ¬ tB = P.c ∧ ¬ tB = P.bm := by
  refine ⟨fun e => ?_, fun e => ?_⟩
  ·subst e
   rw [obj_cell hC.obj] at ht
   cases ht
  ·subst e
   obtain ⟨D, ⟨es, cl, hm, _⟩, _⟩ := hC.map
   rw [obj_map hm] at ht
   cases ht
 have ntB : ¬ CS P.c P.bm tB := by rintro (h | h); exact nT.1 h; exact nT.2 h
 have nxB : ¬ CS P.c P.bm xB := by rintro (h | h); exact nX.1 h; exact nX.2 h
 obtain ⟨so, sm, sc, rfl⟩ := hv.form
 have HE := Lib.hid hEb
 have HC := Lib.hid hC
 go_enter Tryz.func106, Tryz.ntmps106
 clear hC hv hr hp hW hbm hE hEb
 go_wp2_with fail
 refine wp_region_noPanic ?_
 refine wp_region_gate (S := fun w' => w'.cell? ⟨xB, 0, none⟩ = some (.pointer (some ⟨x.b, 0, none⟩)) ∧ w'.cell? ⟨tB, 0, none⟩ = some (.pointer (some ⟨P.c, 0, none⟩)) ∧ w'.cell? ⟨x.b, 1, none⟩ = some (.slice so sm sc)) 12 [(0, 0), (1, 0), (2, 0), (3, 3), (4, 3), (5, 0), (6, 2), (7, 3), (8, 3), (9, 3), (10, 3), (11, 3), (12, 4)] [0, 0, 0, 4, 8, 16, 34, 64, 128, 128, 511, 1535, 2559] [0, 0, 0, 4, 8, 16, 34, 64, 128, 128, 1, 1024, 2304] [7169, 8130, 8188, 0, 0, 8160, 0, 0, 0, 0, 0, 0, 0] (by kernel_rfl) (by kernel_rfl) (fun _ _ _ _ _ h => h) ?_ (fun hH => ?_)
 ·exact ⟨(B.refl w).drew.keep hx, (B.refl w).drew.keep ht, (B.refl w).drew.keep oc1⟩
 refine wpSeqG_take (d := 3) (v := ?_) rfl rfl (by kernel_rfl) (fun w hS => ?_) ?_
 rotate_left
 ·go_simp <;> with_reducible rfl
 dsimp only [sZ, sS]
 refine wpSeqG_take (d := 4) (v := ?_) rfl rfl (by kernel_rfl) (fun w hS => ?_) ?_
 rotate_left
 ·go_simp <;> with_reducible rfl
 dsimp only [sZ, sS]
 refine wpSeqG_take (d := 5) (v := ?_) rfl rfl (by kernel_rfl) (fun w hS => ?_) ?_
 rotate_left
 ·go_simp <;> with_reducible rfl
 dsimp only [sZ, sS]
 refine wpSeqG_free (d := 6) (v := ?_) rfl rfl (by kernel_rfl) (fun w => ?_) ?_
 rotate_left
 ·go_simp <;> with_reducible rfl
 dsimp only [sZ, sS]
 refine wpSeqG_free (d := 7) (v := ?_) rfl rfl (by kernel_rfl) (fun w => ?_) ?_
 rotate_left
 ·go_simp <;> with_reducible rfl
 dsimp only [sZ, sS]
 refine wpSeqG_take (d := 8) (v := ?_) rfl rfl (by kernel_rfl) (fun w hS => ?_) ?_
 rotate_left
 ·go_simp <;> with_reducible rfl
 dsimp only [sZ, sS]
 refine wpSeqG_call rfl (by kernel_rfl) (fun K hK => ?_)
 go_simp
 (with_reducible refine (cT _ ((B.refl w).drew) rfl).mono ?_)
 rintro e w1 ⟨p, e0, E', rfl, hpp, hm, hl, hEE, hC1, hg⟩
 have o1 := hg.obj noX o0
 have y5 := obj_cell o1 5
 have f5 := obj_free o1 5
 refine hK.out _ _ ?_ (fun hH => ?_)
 ·exact ⟨hg.keep (p := ⟨xB, 0, none⟩) nxB hx, hg.keep (p := ⟨tB, 0, none⟩) ntB ht, obj_cell o1 1⟩
 clear hK
 refine wpSeqG_free (d := 2) (v := ?_) rfl rfl (by kernel_rfl) (fun w => ?_) ?_
 rotate_left
 ·go_simp <;> with_reducible rfl
 dsimp only [sZ, sS]
 refine wpSeqG_free (d := 10) (v := ?_) rfl rfl (by kernel_rfl) (fun w => ?_) ?_
 rotate_left
 ·go_simp <;> with_reducible rfl
 dsimp only [sZ, sS]
 refine wpSeqG_free (d := 11) (v := ?_) rfl rfl (by kernel_rfl) (fun w => ?_) ?_
 rotate_left
 ·go_simp <;> with_reducible rfl
 dsimp only [sZ, sS]
 refine wpSeqG_free (d := 12) (v := ?_) rfl rfl (by kernel_rfl) (fun w => ?_) ?_
 rotate_left
 ·go_simp <;> with_reducible rfl
 dsimp only [sZ, sS]
 refine wpSeqG_free (d := 13) (v := ?_) rfl rfl (by kernel_rfl) (fun w => ?_) ?_
 rotate_left
 ·go_simp <;> with_reducible rfl
 dsimp only [sZ, sS]
 refine wpSeqG_gate rfl (by kernel_rfl) (fun K hK => ?_)
 go_simp
 refine hK.out _ _ ?_
 clear hK
 refine wpSeqG_done ?_
 refine NoPanic.normal ?_
 all_goals
  have o2 := obj_set o1 5 (.pointer (some ⟨p, 0, none⟩))
  have g2 := one_own w1 x.b 5 (.pointer (some ⟨p, 0, none⟩))
  have hC2 := cache_thing hC1 hb (fun e he => by
   rcases hEE with rfl | ⟨_, h9, rfl⟩
   ·exact HE.out e he
   ·rcases List.mem_append.1 he with he | he
    ·exact HE.out e he
    ·obtain rfl := List.mem_singleton.1 he
     omega) g2
  have HZ := Lib.hid (show Asked P n E x (.slice so sm sc) w (w1.setCell ⟨x.b, 5, none⟩ (.pointer (some ⟨p, 0, none⟩))) e0 E' from ⟨by rw [o2, hpp]; rfl, hm, hl, hEE, hC2, (hg.mono (fun i _ h => by rcases h with h | h; exact .inl h; exact .inr (.inl h))).trans (g2.mono (fun i _ h => .inr (.inr h)))⟩)
  go_wp2
  go_end0
  exact ⟨rfl, e0, E', HZ.out⟩
end
end Go.Proofs.YthlileddhgglnaaGreatDoor
namespace Go.Proofs.YthlileddhgglnaaGreatDoor
open Go.RowKit
set_option linter.unusedVariables false
def Ext (B0 : Nat) (E E' : List Ent) (l : List Sec) (e0 : Ent) : Prop := e0 ∈ E' ∧ e0.l = l ∧ (E' = E ∨ (∀ e ∈ E, e.l ≠ l) ∧ B0 ≤ e0.b ∧ E' = E ++ [e0])
theorem Ext.shapes {B0 : Nat} {E E' : List Ent} {l : List Sec} {e0 : Ent} (h : Ext B0 E E' l e0) : E'.map (·.l) = addSh (E.map (·.l)) l := by
 obtain ⟨h1, rfl, h3⟩ := h
 unfold addSh
 rcases h3 with rfl | ⟨h4, _, rfl⟩
 ·rw [if_pos]
  rw [List.any_eq_true]
  exact ⟨e0.l, List.mem_map.2 ⟨e0, h1, rfl⟩, by simp⟩
 ·rw [if_neg]
  ·simp
  ·rw [List.any_eq_true]
   rintro ⟨y, hy, hd⟩
   obtain ⟨e, he, rfl⟩ := List.mem_map.1 hy
   exact h4 e he (of_decide_eq_true hd)
theorem Ext.more {B0 : Nat} {E E' : List Ent} {l : List Sec} {e0 : Ent} (h : Ext B0 E E' l e0) : ∀ e ∈ E, e ∈ E' := fun e he => by
 rcases h.2.2 with rfl | ⟨_, _, rfl⟩
 ·exact he
 ·exact List.mem_append_left _ he
section
variable {P : Bp} {n : Nat} {E : List Ent} {X : List Th}
theorem BoardM.Sx {w : World} (h : BoardM P w n E X) {x : Th} (hx : x ∈ X) : ∀ i, (i = P.c ∨ i = P.bm ∨ i = x.b) → P.S i := fun i hi => by
 rcases hi with h1 | h1 | rfl
 ·exact .inl h1
 ·exact .inr (.inl h1)
 ·refine .inr (.inr ?_)
  rw [← h.bX]
  exact List.mem_map.2 ⟨x, hx, rfl⟩
set_option maxRecDepth 100000 in
set_option maxHeartbeats 1600000 in
theorem thtab_any (W0 w : World) (hW : B W0 w) (hp : Pow10 W0) (hbm : W0.heap.size ≤ P.bm) (h : BoardM P w n E X) (k : Nat) (x : Th) (hx : X[k]? = some x) :
  Calls Tryz.prog 76 #[.pointer (some ⟨x.b, 0, none⟩), .pointer (some ⟨P.c, 0, none⟩)] w fun r w' => ∃ (p : Nat) (e0 : Ent) (n' : Nat) (E' : List Ent) (X' : List Th), r = .returned (.pointer (some ⟨p, 0, none⟩)) ∧ e0.p = .pointer (some ⟨p, 0, none⟩) ∧
   Ext w.heap.size E E' x.l e0 ∧ BoardM P w' n' E' X' ∧ G P.S w w' := by
 have hxm := List.mem_of_getElem? hx
 have hT := h.things x hxm
 have hxb := h.blt x hxm
 have hn := h.n12
 have hfew := h.few
 have htop := h.top
 have h1 := h.cache.lt
 have h2 := h.cache.lb
 have h4 := h.bamw
 have h5 := h.mwmt
 have h6 := h.mtb
 have qa : B w ((w.alloc (.cells #[.pointer (some ⟨x.b, 0, none⟩)] 138)).alloc (.cells #[.pointer (some ⟨P.c, 0, none⟩)] 133)) := ((B.refl w).alloc _ _).alloc _ _
 have hM := h.keepB qa
 have a0 : ((w.alloc (.cells #[.pointer (some ⟨x.b, 0, none⟩)] 138)).alloc (.cells #[.pointer (some ⟨P.c, 0, none⟩)] 133)).cell? ⟨w.heap.size, 0, none⟩ = some (.pointer (some ⟨x.b, 0, none⟩)) := obj_cell (obj_past (obj_new w _) _) 0
 have a1 : ((w.alloc (.cells #[.pointer (some ⟨x.b, 0, none⟩)] 138)).alloc (.cells #[.pointer (some ⟨P.c, 0, none⟩)] 133)).cell? ⟨w.heap.size + 1, 0, none⟩ = some (.pointer (some ⟨P.c, 0, none⟩)) := by
  have := obj_new (w.alloc (.cells #[.pointer (some ⟨x.b, 0, none⟩)] 138)) (.cells #[.pointer (some ⟨P.c, 0, none⟩)] 133)
  have s1 : (w.alloc (.cells #[.pointer (some ⟨x.b, 0, none⟩)] 138)).heap.size = w.heap.size + 1 := by simp
  rw [s1] at this
  exact obj_cell this 0
 obtain ⟨o, m, c, hob, hsec⟩ := (hM.things x hxm).obj
 have hxlt : x.b < w.heap.size := by omega
 go_enter Tryz.func76, Tryz.ntmps76
 go_wp2_with fail
 generalize (w.alloc (.cells #[.pointer (some ⟨x.b, 0, none⟩)] 138)).alloc (.cells #[.pointer (some ⟨P.c, 0, none⟩)] 133) = w2 at *
 have hin : ∀ args w, (callFunc 106 args).run Tryz.prog w = .ok (.enter 106 args) w := enters_of Tryz.func106 (by kernel_rfl) rfl
 cases hxp : x.p with
 | some p =>
  obtain ⟨e0, he, hep, hel⟩ := hT.made p hxp
  obtain ⟨pb, hpb, _, _⟩ := (h.cache.ents e0 he).tab.at_
  have hpp : p = .pointer (some ⟨pb, 0, none⟩) := hep ▸ hpb
  have ob2 : w2.heap[x.b]? = some (.cells #[.int .i64 x.i, .slice o m c, .int .u32 1, .int .i32 0, .int .u32 0, .pointer (some ⟨pb, 0, none⟩)] 151 (0, 0)) := by
   rw [hob]; unfold Th.cells; rw [hxp, hpp]
  have d0 := obj_cell ob2 2
  have d5 := obj_cell ob2 5
  have HZ := Lib.hid (And.intro (show Ext w.heap.size E E x.l e0 from ⟨he, hel, .inl rfl⟩) (And.intro hM (qa.g P.S)))
  have HP := Lib.hid hpb
  clear hpp hpb hep hel he hM hob hsec hT h ob2 hxp hx hxm
  go_wp2_with (go_at_call 105; refine (do_done x.b 2 _ _ d0).mono ?_; rintro e w3 ⟨rfl, rfl⟩)
  go_ret
  exact ⟨pb, e0, n, E, X, rfl, HP.out, HZ.out.1, HZ.out.2.1, HZ.out.2.2⟩
 | none =>
  have ob2 : w2.heap[x.b]? = some (.cells #[.int .i64 x.i, .slice o m c, .int .u32 0, .int .i32 0, .int .u32 0, .pointer none] 151 (0, 0)) := by
   rw [hob]; unfold Th.cells; rw [hxp]
  have gs := one_own w2 x.b 3 (.int .i32 1)
  have ob3 := obj_set ob2 3 (.int .i32 1)
  have entb : ∀ e ∈ E, x.b < e.b := fun e he => by have := h.ents e he; omega
  have hC3 := cache_thing hM.cache (by omega) entb gs
  have sec3 := (gs.held hsec (fun i _ h9 e => by have := h.hibm; omega)).now
  have nA : ¬ w.heap.size = x.b := by omega
  have nB : ¬ w.heap.size + 1 = x.b := by omega
  have hA := asked_any (P := P) W0 (w2.setCell ⟨x.b, 3, none⟩ (.int .i32 1)) x (.slice o m c) ((hW.trans qa).setCell (p := ⟨x.b, 3, none⟩) (by show W0.heap.size ≤ x.b; omega) _) hp hbm hC3 (by omega) (by omega) (by omega) entb sec3 hT.right (by simpa using ob3) (w.heap.size + 1) w.heap.size (gs.keep nB a1) (gs.keep nA a0)
  have hD := do11_first x.b 2 #[.pointer (some ⟨w.heap.size + 1, 0, none⟩), .pointer (some ⟨w.heap.size, 0, none⟩)] _ w2 (obj_cell ob2 2) (obj_cell ob2 3) (obj_free ob2 3) hA (fun w' ⟨e0, E', h9⟩ => by
   refine ⟨?_, ?_, obj_free h9.obj 2, obj_free h9.obj 3⟩
   ·rw [obj_cell h9.obj]; rfl
   ·rw [obj_cell h9.obj]; rfl)
  have hEnd : ∀ w8 e0 E', Asked P n E x (.slice o m c) (w2.setCell ⟨x.b, 3, none⟩ (.int .i32 1)) w8 e0 E' → ∃ p, e0.p = .pointer (some ⟨p, 0, none⟩) ∧ ((w8.drew.setCell ⟨x.b, 2, none⟩ (.int .u32 1)).setCell ⟨x.b, 3, none⟩ (.int .i32 0)).cell? ⟨x.b, 5, none⟩ = some (.pointer (some ⟨p, 0, none⟩)) ∧
    ((w8.drew.setCell ⟨x.b, 2, none⟩ (.int .u32 1)).setCell ⟨x.b, 3, none⟩ (.int .i32 0)).cell? ⟨w.heap.size, 0, none⟩ = some (.pointer (some ⟨x.b, 0, none⟩)) ∧
    Ext w.heap.size E E' x.l e0 ∧ BoardM P ((w8.drew.setCell ⟨x.b, 2, none⟩ (.int .u32 1)).setCell ⟨x.b, 3, none⟩ (.int .i32 0)) (n + 1) E' (X.set k { x with p := some e0.p }) ∧ G P.S w ((w8.drew.setCell ⟨x.b, 2, none⟩ (.int .u32 1)).setCell ⟨x.b, 3, none⟩ (.int .i32 0)) := by
   intro w8 e0 E' hk
   obtain ⟨pb, hpb, _, _⟩ := (hk.cache.ents e0 hk.mem).tab.at_
   have o8 : w8.drew.heap[x.b]? = _ := hk.obj
   have o9 := obj_set (obj_set o8 2 (.int .u32 1)) 3 (.int .i32 0)
   have g89 : G (fun i => i = x.b) w8 ((w8.drew.setCell ⟨x.b, 2, none⟩ (.int .u32 1)).setCell ⟨x.b, 3, none⟩ (.int .i32 0)) := G.setCell (S := fun i => i = x.b) (p := ⟨x.b, 3, none⟩) (G.setCell (S := fun i => i = x.b) (p := ⟨x.b, 2, none⟩) (G.refl _ _).drew (.inl rfl) _) (.inl rfl) _
   have s3 : (w2.setCell ⟨x.b, 3, none⟩ (.int .i32 1)).heap.size = w2.heap.size := by simp [World.setCell]
   have qs := qa.below.size
   have gall : G (fun i => i = P.c ∨ i = P.bm ∨ i = x.b) w2 ((w8.drew.setCell ⟨x.b, 2, none⟩ (.int .u32 1)).setCell ⟨x.b, 3, none⟩ (.int .i32 0)) := ((gs.mono (fun _ _ h => .inr (.inr h))).trans hk.g).trans (g89.mono (fun _ _ h => .inr (.inr h)))
   have hEb : ∀ e ∈ E', x.b < e.b := fun e he => by
    rcases hk.E with h9 | ⟨_, h9, h10⟩
    ·rw [h9] at he; exact entb e he
    ·rw [h10] at he
     rcases List.mem_append.1 he with he | he
     ·exact entb e he
     ·obtain rfl := List.mem_singleton.1 he
      omega
   have hC9 := cache_thing hk.cache (by omega) hEb g89
   have o9' : ((w8.drew.setCell ⟨x.b, 2, none⟩ (.int .u32 1)).setCell ⟨x.b, 3, none⟩ (.int .i32 0)).heap[x.b]? = some (.cells #[.int .i64 x.i, .slice o m c, .int .u32 1, .int .i32 0, .int .u32 0, e0.p] 151 (0, 0)) := by simpa using o9
   have hE9 : E' = E ∨ (∀ e ∈ E, e.l ≠ x.l) ∧ w2.heap.size ≤ e0.b ∧ E' = E ++ [e0] := by
    rcases hk.E with h9 | ⟨h9, h10, h11⟩
    ·exact .inl h9
    ·exact .inr ⟨h9, by omega, h11⟩
   refine ⟨pb, hpb, ?_, gall.keep (p := ⟨w.heap.size, 0, none⟩) (by rintro (h9 | h9 | h9) <;> simp only at h9 <;> omega) a0, ⟨hk.mem, hk.l, ?_⟩, hM.made hx hxp gall o9' hsec hC9 hk.mem hk.l hE9, (qa.g P.S).trans (gall.mono (fun i _ hi => h.Sx hxm i hi))⟩
   ·rw [obj_cell o9', ← hpb]; rfl
   ·rcases hE9 with h9 | ⟨h9, h10, h11⟩
    ·exact .inl h9
    ·exact .inr ⟨h9, by omega, h11⟩
  have HE := Lib.hid hEnd
  clear hEnd hA hC3 sec3 entb gs ob3 ob2 hxp hM hob hsec hT h hx hxm
  go_wp2_with (go_at_call 105; refine hD.mono ?_; rintro e w9 ⟨rfl, w8, ⟨e0, E', hm⟩, rfl⟩; obtain ⟨pb, hpb, y5, yA, y1, y2, y3⟩ := HE.out w8 e0 E' hm; have Y1 := Lib.hid (And.intro hpb (And.intro y1 (And.intro y2 y3))); clear hpb y1 y2 y3 hm; generalize (w8.drew.setCell ⟨x.b, 2, none⟩ (.int .u32 1)).setCell ⟨x.b, 3, none⟩ (.int .i32 0) = w9 at *)
  go_ret
  exact ⟨pb, e0, n + 1, E', _, rfl, Y1.out.1, Y1.out.2.1, Y1.out.2.2.1, Y1.out.2.2.2⟩
end
end Go.Proofs.YthlileddhgglnaaGreatDoor
namespace Go.Proofs.YthlileddhgglnaaGreatDoor
open Go.RowKit
theorem IsDk.forms {w : World} {wv tv fv : Value} {d : Dk} (h : IsDk w wv tv fv d) : ∃ ao ac bo bc co cc, wv = .slice ao d.ws.length ac ∧ tv = .slice bo d.ts.length bc ∧ fv = .slice co d.fs.length cc := by
 obtain ⟨ao, ac, h1⟩ := h.ws.form
 obtain ⟨bo, bc, h2⟩ := h.ts.form
 obtain ⟨co, cc, h3⟩ := h.fs.form
 exact ⟨ao, ac, bo, bc, co, cc, h1, h2, h3⟩
theorem named_yes {ws : List Wr} {s : ByteArray} {i : Nat} (hi : i < ws.length) (h : ((ws[i]).n.toList == s.toList) = true) : namedW ws s = true := List.any_eq_true.2 ⟨_, List.getElem_mem hi, h⟩
theorem named_no {ws : List Wr} {s : ByteArray} (h : ∀ i (hi : i < ws.length), ((ws[i]).n.toList == s.toList) = false) : namedW ws s = false := by
 refine List.any_eq_false.2 fun x hx => ?_
 obtain ⟨i, hi, rfl⟩ := List.getElem_of_mem hx
 rw [h i hi]
 decide
end Go.Proofs.YthlileddhgglnaaGreatDoor
