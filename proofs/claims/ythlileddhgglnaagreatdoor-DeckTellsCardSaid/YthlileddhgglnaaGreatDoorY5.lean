/-
 Contracts and what they rest on.
-/
import Derived.Test.YthlileddhgglnaaGreatDoorChecked
import Derived.Tactics
import Derived.Tactics2
import Derived.Defers
import Derived.Laws.Pointers
import Derived.Laws.LoneSync
import Derived.RegionTactic
import Derived.RegionCalls
import Derived.WalkKit
import Derived.Lib.ItoaMem
import Derived.Lib.ItoaLen
import Derived.Maps.OwnOps
import Derived.WalkSpells
import Derived.Maps.OwnSet
import Derived.Maps.Views
import Derived.Lib.Mul64
import Derived.Outline
import Derived.Test.YthlileddhgglnaaGreatDoorY2
namespace Go.Proofs.YthlileddhgglnaaGreatDoor
open Go.RowKit
theorem dig_val {d : Nat} (h : d < 10) : (UInt8.ofNat (48 + d)).toNat = 48 + d := by
 rw [UInt8.toNat_ofNat']; omega
def valOf (l : List UInt8) : Nat := l.foldl (fun t b => t * 10 + (b.toNat - 48)) 0
theorem valOf_dec : ∀ (n u : Nat), u ≤ n → valOf (Lib.decDigits u) = u
 | n, u, h => by
  rw [Lib.decDigits]
  by_cases c : u < 10
  ·rw [dif_pos c]
   simp only [valOf, List.foldl_cons, List.foldl_nil, dig_val c]
   omega
  ·rw [dif_neg c]
   match n with
   | 0 => omega
   | n + 1 =>
    have ih := valOf_dec n (u / 10) (by omega)
    unfold valOf at *
    rw [List.foldl_append, ih]
    simp only [List.foldl_cons, List.foldl_nil, dig_val (show u % 10 < 10 by omega)]
    omega
theorem dec_inj {u v : Nat} (h : Lib.decDigits u = Lib.decDigits v) : u = v := by
 rw [← valOf_dec u u (Nat.le_refl _), h, valOf_dec v v (Nat.le_refl _)]
theorem dec_digits : ∀ (n u : Nat), u ≤ n → ∀ b ∈ Lib.decDigits u, 48 ≤ b.toNat ∧ b.toNat ≤ 57
 | n, u, h => by
  rw [Lib.decDigits]
  by_cases c : u < 10
  ·rw [dif_pos c]
   intro b hb
   rw [List.mem_singleton] at hb
   rw [hb, dig_val c]
   omega
  ·rw [dif_neg c]
   match n with
   | 0 => omega
   | n + 1 =>
    have ih := dec_digits n (u / 10) (by omega)
    intro b hb
    rw [List.mem_append, List.mem_singleton] at hb
    rcases hb with hb | hb
    ·exact ih b hb
    ·rw [hb, dig_val (show u % 10 < 10 by omega)]
     omega
theorem itoa_bytes (n : Int) : ∀ b ∈ Lib.itoa n, b ≠ (32 : UInt8) := by
 intro b hb e
 subst e
 unfold Lib.itoa at hb
 split at hb
 ·rw [List.mem_cons] at hb
  rcases hb with hb | hb
  ·exact absurd hb (by decide)
  ·exact absurd (dec_digits _ _ (Nat.le_refl _) _ hb).1 (by decide)
 ·exact absurd (dec_digits _ _ (Nat.le_refl _) _ hb).1 (by decide)
theorem itoa_inj {m n : Int} (h : Lib.itoa m = Lib.itoa n) : m = n := by
 have head : ∀ (u : Nat) (r : List UInt8), Lib.decDigits u ≠ 45 :: r := fun u r e => by
  have := dec_digits u u (Nat.le_refl _) 45 (by rw [e]; exact List.mem_cons_self)
  exact absurd this.1 (by decide)
 unfold Lib.itoa at h
 split at h
 ·split at h
  ·have := dec_inj (List.cons.inj h).2
   omega
  ·exact absurd h.symm (head _ _)
 ·split at h
  ·exact absurd h (head _ _)
  ·have := dec_inj h
   omega
def numText (n : Int) : List UInt8 := Lib.itoa n ++ [32]
def boolText (b : Bool) : List UInt8 := if b then [116, 114, 117, 101] else [102, 97, 108, 115, 101]
def secText (s : Sec) : List UInt8 := boolText s.r ++ (numText s.h ++ (numText s.a0 ++ (numText s.b0 ++ (numText s.a1 ++ numText s.b1))))
def keyText : List Sec → List UInt8
 | [] => []
 | s :: l => secText s ++ keyText l
theorem split_blank : ∀ (x y r s : List UInt8), (∀ b ∈ x, b ≠ 32) → (∀ b ∈ y, b ≠ 32) → x ++ 32 :: r = y ++ 32 :: s → x = y ∧ r = s
 | [], [], r, s, _, _, h => by simpa using h
 | [], y :: ys, r, s, _, hy, h => by
  have := (List.cons.inj h).1
  exact absurd this.symm (hy y List.mem_cons_self)
 | x :: xs, [], r, s, hx, _, h => by
  have := (List.cons.inj h).1
  exact absurd this (hx x List.mem_cons_self)
 | x :: xs, y :: ys, r, s, hx, hy, h => by
  obtain ⟨h1, h2⟩ := List.cons.inj h
  obtain ⟨h3, h4⟩ := split_blank xs ys r s (fun b hb => hx b (List.mem_cons_of_mem _ hb)) (fun b hb => hy b (List.mem_cons_of_mem _ hb)) h2
  exact ⟨by rw [h1, h3], h4⟩
theorem num_split {m n : Int} {r s : List UInt8} (h : numText m ++ r = numText n ++ s) : m = n ∧ r = s := by
 unfold numText at h
 rw [List.append_assoc, List.append_assoc] at h
 obtain ⟨h1, h2⟩ := split_blank _ _ r s (itoa_bytes m) (itoa_bytes n) h
 exact ⟨itoa_inj h1, h2⟩
theorem bool_split {a b : Bool} {r s : List UInt8} (h : boolText a ++ r = boolText b ++ s) : a = b ∧ r = s := by
 cases a <;> cases b <;> simp [boolText] at h ⊢ <;> exact h
theorem sec_split {x y : Sec} {r s : List UInt8} (h : secText x ++ r = secText y ++ s) : x = y ∧ r = s := by
 unfold secText at h
 simp only [List.append_assoc] at h
 obtain ⟨e0, h⟩ := bool_split h
 obtain ⟨e1, h⟩ := num_split h
 obtain ⟨e2, h⟩ := num_split h
 obtain ⟨e3, h⟩ := num_split h
 obtain ⟨e4, h⟩ := num_split h
 obtain ⟨e5, h6⟩ := num_split h
 clear h
 obtain ⟨x0, x1, x2, x3, x4, x5⟩ := x
 obtain ⟨y0, y1, y2, y3, y4, y5⟩ := y
 simp only at e0 e1 e2 e3 e4 e5
 subst e0 e1 e2 e3 e4 e5
 exact ⟨rfl, h6⟩
theorem sec_full (x : Sec) : secText x ≠ [] := by
 unfold secText boolText
 cases x.r <;> simp
theorem key_inj : ∀ (l m : List Sec), keyText l = keyText m → l = m
 | [], [], _ => rfl
 | [], y :: m, h => by
  have : secText y ++ keyText m = [] := h.symm
  exact absurd (List.append_eq_nil_iff.1 this).1 (sec_full y)
 | x :: l, [], h => by
  have : secText x ++ keyText l = [] := h
  exact absurd (List.append_eq_nil_iff.1 this).1 (sec_full x)
 | x :: l, y :: m, h => by
  obtain ⟨h1, h2⟩ := sec_split (show secText x ++ keyText l = secText y ++ keyText m from h)
  rw [h1, key_inj l m h2]
def keyS (l : List Sec) : ByteArray := ⟨(keyText l).toArray⟩
theorem num_len {n : Int} (h : I64 n) : (numText n).length ≤ 22 := by
 unfold I64 at h
 unfold numText
 have := Lib.itoa_length_le n h.1 h.2
 simp; omega
theorem bool_len (b : Bool) : (boolText b).length ≤ 5 := by cases b <;> decide
theorem sec_len {s : Sec} (h : s.I) : (secText s).length ≤ 115 := by
 obtain ⟨h1, h2, h3, h4, h5⟩ := h
 have := num_len h1
 have := num_len h2
 have := num_len h3
 have := num_len h4
 have := num_len h5
 have := bool_len s.r
 unfold secText
 simp only [List.length_append]
 omega
theorem key_len : ∀ (l : List Sec), (∀ s ∈ l, s.I) → (keyText l).length ≤ 115 * l.length
 | [], _ => by simp [keyText]
 | s :: l, h => by
  have h1 := sec_len (h s List.mem_cons_self)
  have h2 := key_len l (fun x hx => h x (List.mem_cons_of_mem _ hx))
  show (secText s ++ keyText l).length ≤ _
  rw [List.length_append, List.length_cons]
  omega
theorem key_append : ∀ (l m : List Sec), keyText (l ++ m) = keyText l ++ keyText m
 | [], _ => rfl
 | s :: l, m => by
  show secText s ++ keyText (l ++ m) = (secText s ++ keyText l) ++ keyText m
  rw [key_append l m, List.append_assoc]
theorem key_take (l : List Sec) (k : Nat) (s : Sec) (h : l[k]? = some s) : keyText (l.take (k + 1)) = keyText (l.take k) ++ secText s := by
 rw [List.take_add_one, h, key_append]
 simp [keyText]
def fieldNo (s : Sec) (k : Nat) : Int := [s.h, s.a0, s.b0, s.a1, s.b1].getD k 0
def numsTo (s : Sec) (j : Nat) : List UInt8 := ([s.h, s.a0, s.b0, s.a1, s.b1].take j).flatMap numText
theorem nums_succ (s : Sec) (j : Nat) (hj : j < 5) : numsTo s (j + 1) = numsTo s j ++ numText (fieldNo s j) := by
 match j, hj with
 | 0, _ => simp [numsTo, fieldNo]
 | 1, _ => simp [numsTo, fieldNo]
 | 2, _ => simp [numsTo, fieldNo]
 | 3, _ => simp [numsTo, fieldNo]
 | 4, _ => simp [numsTo, fieldNo]
theorem nums_all (s : Sec) : boolText s.r ++ numsTo s 5 = secText s := by
 simp [numsTo, secText]
theorem field_I {s : Sec} (h : s.I) (j : Nat) (hj : j < 5) : I64 (fieldNo s j) := by
 obtain ⟨h1, h2, h3, h4, h5⟩ := h
 match j, hj with
 | 0, _ => exact h1
 | 1, _ => exact h2
 | 2, _ => exact h3
 | 3, _ => exact h4
 | 4, _ => exact h5
theorem knums_len {s : Sec} (h : s.I) (j : Nat) (hj : j ≤ 5) : (numsTo s j).length ≤ 22 * j := by
 induction j with
 | zero => simp [numsTo]
 | succ j ih =>
  have h1 := ih (by omega)
  have h2 := num_len (field_I h j (by omega))
  rw [nums_succ s j (by omega), List.length_append]
  omega
end Go.Proofs.YthlileddhgglnaaGreatDoor
namespace Go.Proofs.YthlileddhgglnaaGreatDoor
open Go.RowKit Go.Maps
structure Ent where
 l : List Sec
 b : Nat
 p : Value
 lo : Nat
 hi : Nat
def ptrElem : Value → Option (DataW Unit × List MemPlace)
 | .pointer none => some (.nil, [])
 | .pointer (some ⟨b, 0, none⟩) => some (.lit (.int .i64 b), [])
 | _ => none
theorem ptrElem_at (b : Nat) : ptrElem (.pointer (some ⟨b, 0, none⟩)) = some (.lit (.int .i64 b), []) := rfl
theorem ptrElem_nil {v : Value} {ps : List MemPlace} (h : ptrElem v = some (.nil, ps)) : v = .pointer none := by
 unfold ptrElem at h
 split at h
 ·rfl
 ·cases h
 ·cases h
theorem ptrElem_lit {v : Value} {ps : List MemPlace} {b : Nat} (h : ptrElem v = some (.lit (.int .i64 b), ps)) : v = .pointer (some ⟨b, 0, none⟩) := by
 unfold ptrElem at h
 split at h
 ·cases h
 ·rename_i b'
  simp only [Option.some.injEq, Prod.mk.injEq, DataW.lit.injEq, Lit.int.injEq, true_and] at h
  have : b' = b := by omega
  rw [this]
 ·cases h
def entD (E : List Ent) (l : List Sec) : DataW Unit :=
 match E.find? (fun e => decide (e.l = l)) with
 | some e => .lit (.int .i64 e.b)
 | none => .nil
theorem entD_none {E : List Ent} {l : List Sec} (h : ∀ e ∈ E, e.l ≠ l) : entD E l = .nil := by
 unfold entD
 rw [List.find?_eq_none.2 (fun e he => by simpa using h e he)]
theorem entD_some : ∀ {E : List Ent} {l : List Sec} {e : Ent}, e ∈ E → e.l = l → E.Pairwise (fun a b => a.l ≠ b.l) → entD E l = .lit (.int .i64 e.b)
 | x :: E, l, e, he, hl, hp => by
  unfold entD
  rw [List.pairwise_cons] at hp
  rcases List.mem_cons.1 he with rfl | he'
  ·rw [List.find?_cons_of_pos (by simpa using hl)]
  ·have hx : x.l ≠ l := fun h => hp.1 e he' (h.trans hl.symm)
   rw [List.find?_cons_of_neg (by simpa using hx)]
   exact entD_some he' hl hp.2
theorem entD_snoc (E : List Ent) (x : Ent) (h : ∀ e ∈ E, e.l ≠ x.l) (l : List Sec) : entD (E ++ [x]) l = if l = x.l then .lit (.int .i64 x.b) else entD E l := by
 unfold entD
 rw [List.find?_append]
 by_cases c : l = x.l
 ·subst c
  rw [if_pos rfl, List.find?_eq_none.2 (fun e he => by simpa using h e he)]
  simp
 ·rw [if_neg c]
  have : [x].find? (fun e => decide (e.l = l)) = none := by simp [Ne.symm c]
  rw [this]
  cases E.find? (fun e => decide (e.l = l)) <;> rfl
structure EntAt (T : World → Value → List (Int × Int) → Prop) (base : Nat) (w : World) (e : Ent) : Prop where
 obj : w.heap[e.b]? = some (.cells #[.int .u32 1, .int .i32 0, .int .u32 0, e.p] 212 (0, 0))
 tab : TabN T e.lo e.hi w e.p (slAll e.l)
 right : rightS e.l = true
 low : base ≤ e.b
 ord : e.b < e.lo
theorem EntAt.g {T : World → Value → List (Int × Int) → Prop} {base : Nat} {w w' : World} {e : Ent} {S : Nat → Prop} (h : EntAt T base w e) (q : G S w w') (hS : ∀ i, S i → i < base) : EntAt T base w' e :=
 ⟨q.obj (fun hs => by have := hS _ hs; have := h.low; omega) h.obj, q.tabN h.tab (fun i h1 h2 hs => by have := hS i hs; have := h.low; have := h.ord; omega), h.right, h.low, h.ord⟩
structure CacheM (T : World → Value → List (Int × Int) → Prop) (w : World) (c bm base n m k : Nat) (F : List Sec → DataW Unit) (E : List Ent) : Prop where
 obj : w.heap[c]? = some (.cells #[.int .i64 n, .int .i64 m, .int .i32 0, .int .u32 0, .map (some bm)] 191 (0, 0))
 map : ∃ D, w.ownsMap Tryz.prog 9 ptrElem bm k D ∧ ∀ l, D.atKey (.string (keyText l)) .nil = F l
 lt : bm < c
 lb : c < base
 le : base ≤ w.heap.size
 ents : ∀ e ∈ E, EntAt T base w e
 apart : E.Pairwise fun a b => a.l ≠ b.l ∧ a.hi ≤ b.b
def CacheC (T : World → Value → List (Int × Int) → Prop) (w : World) (c bm base n : Nat) (E : List Ent) : Prop := CacheM T w c bm base n E.length E.length (entD E) E
def CS (c bm : Nat) (i : Nat) : Prop := i = c ∨ i = bm
section
variable {T : World → Value → List (Int × Int) → Prop} {w w' : World} {c bm base n m k : Nat} {F : List Sec → DataW Unit} {E : List Ent}
theorem CacheM.cs (h : CacheM T w c bm base n m k F E) : ∀ i, CS c bm i → i < base := fun i hi => by
 have := h.lt; have := h.lb
 rcases hi with rfl | rfl <;> omega
theorem CacheM.apartG {S : Nat → Prop} (h : CacheM T w c bm base n m k F E) (q : G S w w') (hS : ∀ i, S i → i ≠ c ∧ i ≠ bm ∧ ∀ e ∈ E, i ≠ e.b ∧ (i < e.lo ∨ e.hi ≤ i)) : CacheM T w' c bm base n m k F E := by
 obtain ⟨D, hD, hF⟩ := h.map
 refine ⟨q.obj (fun hs => (hS _ hs).1 rfl) h.obj, ⟨D, ?_, hF⟩, h.lt, h.lb, Nat.le_trans h.le q.size, fun e he => ?_, h.apart⟩
 ·obtain ⟨es, clock, hb, r⟩ := hD
  exact ⟨es, clock, q.obj (fun hs => (hS _ hs).2.1 rfl) hb, r⟩
 ·have he' := h.ents e he
  exact ⟨q.obj (fun hs => ((hS _ hs).2.2 e he).1 rfl) he'.obj, q.tabN he'.tab (fun i h1 h2 hs => by have := ((hS i hs).2.2 e he).2; omega), he'.right, he'.low, he'.ord⟩
theorem CacheM.g {S : Nat → Prop} (h : CacheM T w c bm base n m k F E) (q : G S w w') (hS : ∀ i, S i → i < base ∧ i ≠ c ∧ i ≠ bm) : CacheM T w' c bm base n m k F E :=
 h.apartG q fun i hi => ⟨(hS i hi).2.1, (hS i hi).2.2, fun e he => by
  have := h.ents e he
  have h1 := this.low
  have h2 := this.ord
  have h3 := (hS i hi).1
  exact ⟨by omega, by omega⟩⟩
theorem CacheM.his (h : CacheM T w c bm base n m k F E) : ∀ e ∈ E, e.b < e.lo ∧ e.lo < e.hi ∧ e.hi ≤ w.heap.size := fun e he => by
 have h1 := h.ents e he
 obtain ⟨x, _, y1, y2⟩ := h1.tab.at_
 exact ⟨h1.ord, by omega, h1.tab.held.le⟩
theorem CacheM.keepB (h : CacheM T w c bm base n m k F E) (q : B w w') : CacheM T w' c bm base n m k F E := h.g (q.g (fun _ => False)) (fun _ h => h.elim)
theorem CacheM.noBool (h : CacheM T w c bm base n m k F E) : ∀ i, CS c bm i → ∀ j r, w.cell? ⟨i, j, none⟩ ≠ some (.bool r) := by
 intro i hi j r
 rcases hi with rfl | rfl
 ·rw [obj_cell h.obj]
  match j with
  | 0 => simp
  | 1 => simp
  | 2 => simp
  | 3 => simp
  | 4 => simp
  | j + 5 => simp
 ·obtain ⟨D, ⟨es, clock, hb, _⟩, _⟩ := h.map
  rw [obj_map hb]
  simp
theorem CacheM.secs {v : Value} {l : List Sec} (h : CacheM T w c bm base n m k F E) (hv : IsSecs w v l) (q : G (CS c bm) w w') : IsSecs w' v l := isSecs_keepG hv h.noBool q
theorem one_own (w : World) (c j : Nat) (v : Value) : G (fun i => i = c) w (w.setCell ⟨c, j, none⟩ v) := (G.refl (fun i => i = c) w).setCell (p := ⟨c, j, none⟩) (.inl rfl) v
theorem cs_own (w : World) (c bm j : Nat) (v : Value) : G (CS c bm) w (w.setCell ⟨c, j, none⟩ v) := (G.refl _ w).setCell (.inl (.inl rfl)) v
theorem CacheM.put (h : CacheM T w c bm base n m k F E) {w' : World} {n' m' : Nat} (q : G (fun i => i = c) w w') (ho : w'.heap[c]? = some (.cells #[.int .i64 n', .int .i64 m', .int .i32 0, .int .u32 0, .map (some bm)] 191 (0, 0))) :
  CacheM T w' c bm base n' m' k F E := by
 obtain ⟨D, hD, hF⟩ := h.map
 have h1 := h.lt
 have h2 := h.lb
 refine ⟨ho, ⟨D, ?_, hF⟩, h.lt, h.lb, Nat.le_trans h.le q.size, fun e he => (h.ents e he).g q (fun i hi => by omega), h.apart⟩
 obtain ⟨es, clock, hb, r⟩ := hD
 exact ⟨es, clock, q.obj (by omega) hb, r⟩
theorem CacheM.pairL (h : CacheM T w c bm base n m k F E) : E.Pairwise fun a b => a.l ≠ b.l := h.apart.imp fun h => h.1
end
theorem CacheM.more {T : World → Value → List (Int × Int) → Prop} {w : World} {c bm base n : Nat} {E : List Ent} {x : Ent} (hn : ∀ e ∈ E, e.l ≠ x.l)
  (h : CacheM T w c bm base n (E.length + 1) (E.length + 1) (fun l => if l = x.l then .lit (.int .i64 x.b) else entD E l) E) (hx : EntAt T base w x) (hb : ∀ e ∈ E, e.hi ≤ x.b) : CacheC T w c bm base n (E ++ [x]) := by
 have e1 : (E ++ [x]).length = E.length + 1 := by simp
 unfold CacheC
 rw [e1]
 obtain ⟨D, hD, hF⟩ := h.map
 refine ⟨h.obj, ⟨D, hD, fun l => (hF l).trans (entD_snoc E x hn l).symm⟩, h.lt, h.lb, h.le, fun e he => ?_, ?_⟩
 ·rcases List.mem_append.1 he with he | he
  ·exact h.ents e he
  ·rw [List.mem_singleton] at he
   subst he
   exact hx
 ·rw [List.pairwise_append]
  refine ⟨h.apart, List.pairwise_singleton _ _, fun a ha b hb' => ?_⟩
  rw [List.mem_singleton] at hb'
  subst hb'
  exact ⟨hn a ha, hb a ha⟩
end Go.Proofs.YthlileddhgglnaaGreatDoor
namespace Go.Proofs.YthlileddhgglnaaGreatDoor
open Go.RowKit
theorem race_disable (w : World) : (callFunc 173 #[]).run Tryz.prog w = .ok (.value (.tuple #[])) w := run_call_mark0 Tryz.func173 (by kernel_rfl) (by kernel_rfl) (by kernel_rfl) .disable (by kernel_rfl) w
theorem race_enable (w : World) : (callFunc 175 #[]).run Tryz.prog w = .ok (.value (.tuple #[])) w := run_call_mark0 Tryz.func175 (by kernel_rfl) (by kernel_rfl) (by kernel_rfl) .enable (by kernel_rfl) w
theorem race_acquire (a : Addr) (w : World) : (callFunc 176 #[.pointer (some a)]).run Tryz.prog w = .ok (.value (.tuple #[])) w := run_call_marked Tryz.func176 (by kernel_rfl) (by kernel_rfl) (by kernel_rfl) .acquire (by kernel_rfl) a w
theorem race_merge (a : Addr) (w : World) : (callFunc 178 #[.pointer (some a)]).run Tryz.prog w = .ok (.value (.tuple #[])) w := run_call_marked Tryz.func178 (by kernel_rfl) (by kernel_rfl) (by kernel_rfl) .releaseMerge (by kernel_rfl) a w
set_option maxRecDepth 100000 in
set_option maxHeartbeats 1600000 in
theorem store_deferred (b off : Nat) (x : Value) (u : FrameMode) (w : World) (hc : w.cell? ⟨b, off, none⟩ = some x) (hz : w.frozen? ⟨b, off, none⟩ = false) :
  CallsD Tryz.prog 145 #[.pointer (some ⟨b, off, none⟩), .bool true] u w fun e u' w' => u' = u ∧ (e = .returned (.tuple #[]) ∧ w' = w.drew.setCell ⟨b, off, none⟩ (.int .u32 1)) := by
 have hc' : w.drew.cell? ⟨b, off, none⟩ = some x := by go_simp
 have hz' : w.drew.frozen? ⟨b, off, none⟩ = false := by go_simp
 have hst := run_call_store (P := Tryz.prog) Tryz.func165 (by kernel_rfl) (by kernel_rfl) (by kernel_rfl) (by kernel_rfl) (k := .u32) (y := 1) hc' hz'
 go_enter_d Tryz.func145, Tryz.ntmps145
 go_wp2
 go_region_calls
 all_goals (go_end0; exact ⟨rfl, rfl⟩)
set_option maxRecDepth 100000 in
set_option maxHeartbeats 1600000 in
theorem unlock_deferred (b off : Nat) (u : FrameMode) (w : World) (hc : w.cell? ⟨b, off, none⟩ = some (.int .i32 1)) (hz : w.frozen? ⟨b, off, none⟩ = false) :
  CallsD Tryz.prog 144 #[.pointer (some ⟨b, off, none⟩)] u w fun e u' w' => u' = u ∧ (e = .returned (.tuple #[]) ∧ w' = w.setCell ⟨b, off, none⟩ (.int .i32 0)) := by
 have hd := race_disable
 have he := race_enable
 have hr := race_merge
 have hadd := run_call_add (P := Tryz.prog) Tryz.func179 (by kernel_rfl) (by kernel_rfl) (by kernel_rfl) .i32 (by kernel_rfl) (y := -1) (s := 0) hc hz (by simp [go_sem]; rfl)
 have hcv := run_convert_to_unsafe (P := Tryz.prog) (src := 264) (dst := 214) Tryz.underlying264 Tryz.underlying214 (by kernel_rfl) hc
 go_enter_d Tryz.func144, Tryz.ntmps144
 go_wp2
 go_end0
 go_wp2
 go_end0
 exact ⟨rfl, rfl⟩
set_option maxRecDepth 100000 in
set_option maxHeartbeats 1600000 in
theorem lock_free (b off : Nat) (w : World) (hc : w.cell? ⟨b, off, none⟩ = some (.int .i32 0)) (hz : w.frozen? ⟨b, off, none⟩ = false) :
  Calls Tryz.prog 143 #[.pointer (some ⟨b, off, none⟩)] w fun e w' => e = .returned (.tuple #[]) ∧ w' = w.setCell ⟨b, off, none⟩ (.int .i32 1) := by
 have hd := race_disable
 have he := race_enable
 have ha := race_acquire
 have hcas := run_call_cas_hit (P := Tryz.prog) Tryz.func174 (by kernel_rfl) (by kernel_rfl) (by kernel_rfl) .i32 (by kernel_rfl) (y := 1) hc hz
 have hc' : (w.setCell ⟨b, off, none⟩ (.int .i32 1)).cell? ⟨b, off, none⟩ = some (.int .i32 1) := World.cell?_setCell_same w _ _ hc
 have hcv := run_convert_to_unsafe (P := Tryz.prog) (src := 264) (dst := 214) Tryz.underlying264 Tryz.underlying214 (by kernel_rfl) hc'
 go_enter Tryz.func143, Tryz.ntmps143
 go_wp2
 first | go_end0 | (simp only [Exit.inBlock, Exit.then]; refine bodyPost_ret (results_none rfl _ _ _) rfl ?_) | refine bodyPost_ret (results_none rfl _ _ _) rfl ?_
 go_wp2
 go_end0
 exact ⟨rfl, rfl⟩
theorem add64 {P : Program} (x y : Int) (w : World) : (Op.intArith .add .i64 x y).run P w = .ok (.int .i64 (wrap64 (x + y))) w := by simp [go_sem, IntKind.wrap_i64, wrap64]
set_option maxRecDepth 100000 in
set_option maxHeartbeats 1600000 in
theorem count_any (b off : Nat) (x y : Int) (w : World) (hc : w.cell? ⟨b, off, none⟩ = some (.int .i64 x)) (hz : w.frozen? ⟨b, off, none⟩ = false) :
  Calls Tryz.prog 124 #[.pointer (some ⟨b, off, none⟩), .int .i64 y] w fun e w' => e = .returned (.int .i64 (wrap64 (x + y))) ∧ w' = w.setCell ⟨b, off, none⟩ (.int .i64 (wrap64 (x + y))) := by
 have hadd := run_call_add (P := Tryz.prog) Tryz.func146 (by kernel_rfl) (by kernel_rfl) (by kernel_rfl) .i64 (by kernel_rfl) (y := y) (s := wrap64 (x + y)) hc hz (add64 x y w)
 go_enter Tryz.func124, Tryz.ntmps124
 go_wp2
 go_ret
 exact ⟨rfl, rfl⟩
set_option maxRecDepth 100000 in
set_option maxHeartbeats 1600000 in
theorem load64_any (b off : Nat) (x : Int) (w : World) (hc : w.cell? ⟨b, off, none⟩ = some (.int .i64 x)) :
  Calls Tryz.prog 119 #[.pointer (some ⟨b, off, none⟩)] w fun e w' => e = .returned (.int .i64 x) ∧ w' = w := by
 have hl := run_call_load (P := Tryz.prog) Tryz.func140 (by kernel_rfl) (by kernel_rfl) (by kernel_rfl) .i64 (by kernel_rfl) hc
 go_enter Tryz.func119, Tryz.ntmps119
 go_wp2
 go_ret
 exact ⟨rfl, rfl⟩
end Go.Proofs.YthlileddhgglnaaGreatDoor
namespace Go.Proofs.YthlileddhgglnaaGreatDoor
open Go.RowKit Go.Maps Go.WideMaps
theorem str_law : Keyed Tryz.prog 9 := string_keyed Tryz.underlying9
theorem entry_zero (w : World) : (zeroValue 209).run Tryz.prog w = .ok (.pointer none) w := by kernel_rfl
theorem wpList_lookup_any {H : Type} {P : Program} (w : World) {ops : Array Oper} {rest : List Oper} {o : Oper} {a : Act} {Q : Exit → Act → World → Prop}
  (hg : o.guard = none) (m x : Operand) (t : TypeId) (hop : o.op = Op.lookup t m x false)
  (k e : TypeId) (R : Value → Option (DataW H × List MemPlace)) (K : Keyed P k) (ht : P.underlying t = some (.map k e)) {z : Value} (hz : (zeroValue e).run P w = .ok z w) {zd : DataW H} {zp : List MemPlace} (hzd : R z = some (zd, zp)) (b n : Nat) (D : DataW H)
  (hm : a.eval m = .map (some b)) (hown : w.ownsMap P k R b n D) (key : Value) (kl : Lit) (hx : a.eval x = key) (hkey : keyOf P k key = some kl)
  (hK : ∀ (v : Value) (ps : List MemPlace), R v = some (D.atKey kl zd, ps) → wpList P ops Q rest (a.put o.dst v) w) :
  wpList P ops Q (o :: rest) a w := by
 refine wpList_plain hg fun K' hK' => ?_
 obtain ⟨v, ps, hrun, hv⟩ := hown.lookup K ht hz hzd hkey
 unfold Oper.wp
 simp [execOp, hop, hm, hx, hrun, Result.andThen]
 exact hK' _ _ (hK v ps hv)
theorem key_of (l : List Sec) (hl : (keyText l).length ≤ 1150) : keyOf Tryz.prog 9 (.string (keyS l)) = some (.string (keyText l)) := by
 have := keyOf_string_mk (P := Tryz.prog) (k := 9) Tryz.underlying9 (s := keyS l) (by show (keyText l).toArray.size ≤ maxLen; unfold maxLen; simp; omega)
 simpa [keyS] using this
section
variable {T : World → Value → List (Int × Int) → Prop} {c bm base n : Nat} {E : List Ent}
set_option maxRecDepth 100000 in
set_option maxHeartbeats 1600000 in
theorem entry_hit (w : World) (l : List Sec) (hl : (keyText l).length ≤ 1150) (hC : CacheC T w c bm base n E) (e0 : Ent) (he : e0 ∈ E) (hel : e0.l = l) :
  Calls Tryz.prog 125 #[.pointer (some ⟨c, 0, none⟩), .string (keyS l)] w fun e w' => e = .returned (.pointer (some ⟨e0.b, 0, none⟩)) ∧ CacheC T w' c bm base n E ∧ G (CS c bm) w w' := by
 have hkey := key_of l hl
 have q1 := cs_own w c bm 2 (.int .i32 1)
 have p1 : G (fun i => i = c) w (w.setCell ⟨c, 2, none⟩ (.int .i32 1)) := one_own _ _ _ _
 have c2 : w.cell? ⟨c, 2, none⟩ = some (.int .i32 0) := by rw [obj_cell hC.obj]; rfl
 have f2 := obj_free hC.obj 2
 have o1 := obj_set hC.obj 2 (.int .i32 1)
 have hlt := hC.lt
 obtain ⟨D, hD, hF⟩ := hC.map
 have hat := (hF l).trans (entD_some he hel hC.pairL)
 have hD1 := hD.setCell (a := ⟨c, 2, none⟩) (by show bm ≠ c; omega) (.int .i32 1)
 have HC := Lib.hid hC
 clear hC hF hD
 have c4 : (w.setCell ⟨c, 2, none⟩ (.int .i32 1)).cell? ⟨c, 3 + 1, none⟩ = some (.map (some bm)) := by rw [obj_cell o1]; rfl
 have k2 : (w.setCell ⟨c, 2, none⟩ (.int .i32 1)).cell? ⟨c, 2, none⟩ = some (.int .i32 1) := by rw [obj_cell o1]; rfl
 have g2 := obj_free o1 2
 have cL := lock_free c 2 w c2 f2
 have cU := fun u => unlock_deferred c 2 u _ k2 g2
 generalize w.setCell ⟨c, 2, none⟩ (.int .i32 1) = w1 at *
 go_enter_defers Tryz.func125, Tryz.ntmps125
 go_wp2_with (first
  | (go_at_call 143; refine cL.mono ?_; rintro e w1 ⟨rfl, rfl⟩)
  | (at_lookup; refine wpList_lookup_any _ rfl _ _ 186 rfl 9 209 ptrElem str_law Tryz.underlying186 (entry_zero _) (zd := .nil) (zp := []) rfl bm _ D rfl hD1 _ _ rfl hkey ?_; intro pv ps hpv; rw [hat] at hpv; obtain rfl := ptrElem_lit hpv))
 refine leaves_cons (f := 144) (args := #[.pointer (some ⟨c, 2, none⟩)]) (by simp) (by simp [go_sem]) ?_
 refine (cU .returning).mono ?_
 rintro e u' w'' ⟨rfl, rfl, rfl⟩
 have q2 := q1.trans (cs_own _ c bm 2 (.int .i32 0))
 have o2 := obj_set o1 2 (.int .i32 0)
 exact ⟨_, results_tmp rfl _ _ _, rfl, CacheM.put HC.out (p1.trans (one_own _ c 2 _)) o2, q2⟩
set_option maxRecDepth 100000 in
set_option maxHeartbeats 1600000 in
theorem entry_new (w : World) (l : List Sec) (hl : (keyText l).length ≤ 1150) (hC : CacheC T w c bm base n E) (hn : ∀ e ∈ E, e.l ≠ l) (hk : E.length < 1000000) :
  Calls Tryz.prog 125 #[.pointer (some ⟨c, 0, none⟩), .string (keyS l)] w fun e w' => ∃ b, e = .returned (.pointer (some ⟨b, 0, none⟩)) ∧ w.heap.size ≤ b ∧
   w'.heap[b]? = some (.cells #[.int .u32 0, .int .i32 0, .int .u32 0, .pointer none] 212 (0, 0)) ∧
   CacheM T w' c bm base n E.length (E.length + 1) (fun l' => if l' = l then .lit (.int .i64 b) else entD E l') E ∧ G (CS c bm) w w' := by
 have hkey := key_of l hl
 have q1 := cs_own w c bm 2 (.int .i32 1)
 have p1 : G (fun i => i = c) w (w.setCell ⟨c, 2, none⟩ (.int .i32 1)) := one_own _ _ _ _
 have c2 : w.cell? ⟨c, 2, none⟩ = some (.int .i32 0) := by rw [obj_cell hC.obj]; rfl
 have f2 := obj_free hC.obj 2
 have o1 := obj_set hC.obj 2 (.int .i32 1)
 have hlt := hC.lt
 obtain ⟨D, hD, hF⟩ := hC.map
 have hat := (hF l).trans (entD_none hn)
 have hD1 := hD.setCell (a := ⟨c, 2, none⟩) (by show bm ≠ c; omega) (.int .i32 1)
 have HC := Lib.hid hC
 have HF := Lib.hid hF
 clear hC hF hD
 have cL := lock_free c 2 w c2 f2
 generalize w.setCell ⟨c, 2, none⟩ (.int .i32 1) = w1 at *
 have c4 : w1.cell? ⟨c, 3 + 1, none⟩ = some (.map (some bm)) := by rw [obj_cell o1]; rfl
 have b4 : ∀ o, (w1.alloc o).cell? ⟨c, 4, none⟩ = some (.map (some bm)) := fun o => by rw [obj_cell (obj_past o1 o)]; rfl
 go_enter_defers Tryz.func125, Tryz.ntmps125
 go_wp2_with (first
  | (go_at_call 143; refine cL.mono ?_; rintro e w1 ⟨rfl, rfl⟩)
  | (at_lookup; refine wpList_lookup_any _ rfl _ _ 186 rfl 9 209 ptrElem str_law Tryz.underlying186 (entry_zero _) (zd := .nil) (zp := []) rfl bm _ D rfl hD1 _ _ rfl hkey ?_; intro pv ps hpv; rw [hat] at hpv; obtain rfl := ptrElem_nil hpv)
  | (at_mapUpdate; refine wpList_mapUpdate_in _ rfl _ _ _ 186 rfl 9 209 str_law Tryz.underlying186 ptrElem bm _ D rfl (hD1.alloc _) (by unfold maxLen; omega) _ _ _ rfl rfl hkey _ [] (ptrElem_at _) ?_; intro w2 hD2 ht2))
 have gA := ht2.grown
 have qA := (q1.alloc (.cells #[.int .u32 0, .int .i32 0, .int .u32 0, .pointer none] 212)).grown gA (fun k hk => .inl (.inr (Option.some.inj hk).symm))
 have q3 := qA.trans (cs_own w2 c bm 2 (.int .i32 0))
 have o2 : w2.heap[c]? = _ := (gA.block c (by have := obj_lt o1; simp; omega) (fun e => by have := Option.some.inj e; omega)).trans (obj_past o1 _)
 have n2 : w2.heap[w1.heap.size]? = _ := (gA.block w1.heap.size (by simp) (fun e => by have := Option.some.inj e; have := obj_lt o1; omega)).trans (obj_new w1 _)
 have o3 := obj_set o2 2 (.int .i32 0)
 have k2 : w2.cell? ⟨c, 2, none⟩ = some (.int .i32 1) := by rw [obj_cell o2]; rfl
 have D3 := hD2.setCell (a := ⟨c, 2, none⟩) (by show bm ≠ c; omega) (.int .i32 0)
 have hsz : w.heap.size ≤ w1.heap.size := q1.size
 have hb1 : w1.heap.size ≠ c := by have := obj_lt o1; omega
 refine leaves_cons (f := 144) (args := #[.pointer (some ⟨c, 2, none⟩)]) (by simp) (by simp [go_sem]) ?_
 refine (unlock_deferred c 2 .returning _ k2 (obj_free o2 2)).mono ?_
 rintro e u' w'' ⟨rfl, rfl, rfl⟩
 refine ⟨_, results_tmp rfl _ _ _, w1.heap.size, rfl, hsz, obj_other n2 hb1 _, ⟨o3, ⟨_, D3, fun l' => ?_⟩, HC.out.lt, HC.out.lb, Nat.le_trans HC.out.le q3.size, fun e he => (HC.out.ents e he).g q3 HC.out.cs, HC.out.apart⟩, q3⟩
 by_cases cl : l' = l
 ·subst cl
  rw [if_pos rfl, atKey_put_same hD1.isMap (by simp [WideAt.IsKeyLit])]
 ·rw [if_neg cl, atKey_put_other (fun e => cl (key_inj _ _ (Lit.string.inj e)))]
  exact HF.out l'
end
end Go.Proofs.YthlileddhgglnaaGreatDoor
namespace Go.Proofs.YthlileddhgglnaaGreatDoor
open Go.RowKit
theorem in_any (v a b : Int) (w : World) :
  Calls Tryz.prog 91 #[.int .i64 v, .int .i64 a, .int .i64 b] w fun e w' => e = .returned (.bool (inB v a b)) ∧ w = w' := by
 unfold inB
 have hb : decide (a ≤ v) = true ∨ decide (a ≤ v) = false := by cases decide (a ≤ v) <;> simp
 rcases hb with hb | hb
 all_goals
  rw [hb]
  go_enter Tryz.func91, Tryz.ntmps91
  go_wp2
  go_ret
  exact ⟨rfl, rfl⟩
set_option maxRecDepth 100000 in
set_option maxHeartbeats 2000000 in
theorem r3right_row (a : Addr) (cap : Nat) (l : List Sec) (h2 : l.length ≤ cap) (h3 : cap ≤ maxLen) (w : World) (h4 : ∀ i s, l[i]? = some s → s.I ∧ SecAt w (a.add (i * 6)) s) :
  Calls Tryz.prog 52 #[.slice (some a) l.length cap] w fun e w' => e = .returned (.bool (rightS l)) ∧ Q w w' := by
 unfold maxLen at h3
 have h5 : l.length ≤ 2 ^ 63 - 1 := Nat.le_trans h2 h3
 clear h2 h3
 by_cases n1 : l.length < 1
 ·rw [rightS_short l n1]
  have n1B : decide ((l.length : Int) < 1) = true := decide_eq_true (by omega)
  clear h4
  go_enter Tryz.func52, Tryz.ntmps52
  go_wp2
  go_ret
  exact ⟨rfl, Q.refl w⟩
 have n1B : decide ((l.length : Int) < 1) = false := decide_eq_false (by omega)
 by_cases n2 : 4 < l.length
 ·rw [rightS_long l n2]
  have n2B : decide ((4 : Int) < (l.length : Int)) = true := decide_eq_true (by omega)
  clear h4
  go_enter Tryz.func52, Tryz.ntmps52
  go_wp2
  go_ret
  exact ⟨rfl, Q.refl w⟩
 have n2B : decide ((4 : Int) < (l.length : Int)) = false := decide_eq_false (by omega)
 go_enter Tryz.func52, Tryz.ntmps52
 go_wp2
 go_loopw [3, 4] (fun hh i wr => ∃ (k : Nat), k ≤ l.length ∧ i = .int .i64 k ∧ hh = .int .i64 (hsumI l k) ∧ okTo l k = true ∧ Q w wr) (fun _ i _ => l.length - (intOf i).toNat)
 case atStart => exact ⟨0, Nat.zero_le _, rfl, rfl, rfl, Q.refl w⟩
 case round =>
  obtain ⟨k, hk, rfl, rfl, hok, hq⟩ := hrel
  obtain ⟨t1, t2⟩ := hsum_small l k hok
  have t3 : hsumI l k ≤ 240000 := by omega
  clear t2
  by_cases hl : k < l.length
  ·have hlB : decide (k < l.length) = true := decide_eq_true hl
   have hg := List.getElem?_eq_getElem hl
   have hs := (h4 k _ hg).2.keep hq
   have hsu := hsumI_succ l k _ hg
   have hoku := okTo_succ l k _ hg hok
   have hbad := rightS_bad l k _ hg
   clear h4
   generalize l[k] = s at *
   generalize hsumI l k = t at *
   obtain ⟨f0, f1, f2, f3, f4, f5⟩ := hs
   obtain ⟨m, hm1⟩ : ∃ m, s.h.tmod 100 = m := ⟨_, rfl⟩
   have hsec := secOk_eq s m hm1
   have HS := Lib.hid hsu
   have HM := Lib.hid hg
   clear hsu hg
   have c1 := fun w => in_any s.a0 0 20000 w
   have c2 := fun w => in_any s.a1 1 20000 w
   have c3 := fun w => in_any s.b0 0 20000 w
   have c4 := fun w => in_any s.b1 1 20000 w
   have k1 : decide (s.h < 1) = true ∨ decide (s.h < 1) = false := by cases decide (s.h < 1) <;> simp
   rcases k1 with k1 | k1
   ·have HB := Lib.hid (hbad (by rw [hsec]; simp [k1]))
    clear hbad hsec hoku
    go_wp2
    go_ret
    exact ⟨by rw [HB.out]; rfl, hq.alloc _ _⟩
   ·have k2 : decide (60000 < s.h) = true ∨ decide (60000 < s.h) = false := by cases decide (60000 < s.h) <;> simp
    rcases k2 with k2 | k2
    ·have HB := Lib.hid (hbad (by rw [hsec]; simp [k1, k2]))
     clear hbad hsec hoku
     go_wp2
     go_ret
     exact ⟨by rw [HB.out]; rfl, hq.alloc _ _⟩
    ·have k3 : (m != 0) = true ∨ (m != 0) = false := by cases (m != 0) <;> simp
     rcases k3 with k3 | k3
     ·have HB := Lib.hid (hbad (by rw [hsec]; simp [k1, k2, k3]))
      clear hbad hsec hoku
      go_wp2
      go_ret
      exact ⟨by rw [HB.out]; rfl, hq.alloc _ _⟩
     ·have k4 : inB s.a0 0 20000 = true ∨ inB s.a0 0 20000 = false := by cases inB s.a0 0 20000 <;> simp
      rcases k4 with k4 | k4
      ·rw [k4] at c1
       have k5 : inB s.a1 1 20000 = true ∨ inB s.a1 1 20000 = false := by cases inB s.a1 1 20000 <;> simp
       rcases k5 with k5 | k5
       ·rw [k5] at c2
        have k6 : s.r = true ∨ s.r = false := by cases s.r <;> simp
        rcases k6 with k6 | k6
        ·have k7 : (s.b0 != 0) = true ∨ (s.b0 != 0) = false := by cases (s.b0 != 0) <;> simp
         rcases k7 with k7 | k7
         ·have HB := Lib.hid (hbad (by rw [hsec]; simp [k1, k2, k3, k4, k5, k6, k7]))
          clear hbad hsec hoku
          go_wp2_with fail
          refine (c1 _).mono ?_
          rintro e w1 ⟨rfl, rfl⟩
          go_wp2_with fail
          refine (c2 _).mono ?_
          rintro e w1 ⟨rfl, rfl⟩
          go_wp2
          go_ret
          exact ⟨by rw [HB.out]; rfl, hq.alloc _ _⟩
         ·have k8 : (s.b1 != 0) = true ∨ (s.b1 != 0) = false := by cases (s.b1 != 0) <;> simp
          rcases k8 with k8 | k8
          ·have HB := Lib.hid (hbad (by rw [hsec]; simp [k1, k2, k3, k4, k5, k6, k7, k8]))
           clear hbad hsec hoku
           go_wp2_with fail
           refine (c1 _).mono ?_
           rintro e w1 ⟨rfl, rfl⟩
           go_wp2_with fail
           refine (c2 _).mono ?_
           rintro e w1 ⟨rfl, rfl⟩
           go_wp2
           go_ret
           exact ⟨by rw [HB.out]; rfl, hq.alloc _ _⟩
          ·replace hoku := hoku (by rw [hsec]; simp [k1, k2, k3, k4, k5, k6, k7, k8])
           obtain ⟨z1, z2⟩ := secOk_h s (by rw [hsec]; simp [k1, k2, k3, k4, k5, k6, k7, k8])
           clear hbad hsec
           have HO := Lib.hid hoku
           clear hoku
           go_wp2_with fail
           refine (c1 _).mono ?_
           rintro e w1 ⟨rfl, rfl⟩
           go_wp2_with fail
           refine (c2 _).mono ?_
           rintro e w1 ⟨rfl, rfl⟩
           go_wp2
           go_roundw
           case rel => exact ⟨k + 1, by omega, by go_num, by rw [HS.out], HO.out, hq.alloc _ _⟩
           case measure => simp [intOf]; omega
        ·have k9 : inB s.b0 0 20000 = true ∨ inB s.b0 0 20000 = false := by cases inB s.b0 0 20000 <;> simp
         rcases k9 with k9 | k9
         ·rw [k9] at c3
          have ka : inB s.b1 1 20000 = true ∨ inB s.b1 1 20000 = false := by cases inB s.b1 1 20000 <;> simp
          rcases ka with ka | ka
          ·rw [ka] at c4
           replace hoku := hoku (by rw [hsec]; simp [k1, k2, k3, k4, k5, k6, k9, ka])
           obtain ⟨z1, z2⟩ := secOk_h s (by rw [hsec]; simp [k1, k2, k3, k4, k5, k6, k9, ka])
           clear hbad hsec
           have HO := Lib.hid hoku
           clear hoku
           go_wp2_with fail
           refine (c1 _).mono ?_
           rintro e w1 ⟨rfl, rfl⟩
           go_wp2_with fail
           refine (c2 _).mono ?_
           rintro e w1 ⟨rfl, rfl⟩
           go_wp2_with fail
           refine (c3 _).mono ?_
           rintro e w1 ⟨rfl, rfl⟩
           go_wp2_with fail
           refine (c4 _).mono ?_
           rintro e w1 ⟨rfl, rfl⟩
           go_wp2
           go_roundw
           case rel => exact ⟨k + 1, by omega, by go_num, by rw [HS.out], HO.out, hq.alloc _ _⟩
           case measure => simp [intOf]; omega
          ·rw [ka] at c4
           have HB := Lib.hid (hbad (by rw [hsec]; simp [k1, k2, k3, k4, k5, k6, k9, ka]))
           clear hbad hsec hoku
           go_wp2_with fail
           refine (c1 _).mono ?_
           rintro e w1 ⟨rfl, rfl⟩
           go_wp2_with fail
           refine (c2 _).mono ?_
           rintro e w1 ⟨rfl, rfl⟩
           go_wp2_with fail
           refine (c3 _).mono ?_
           rintro e w1 ⟨rfl, rfl⟩
           go_wp2_with fail
           refine (c4 _).mono ?_
           rintro e w1 ⟨rfl, rfl⟩
           go_wp2
           go_ret
           exact ⟨by rw [HB.out]; rfl, hq.alloc _ _⟩
         ·rw [k9] at c3
          have HB := Lib.hid (hbad (by rw [hsec]; simp [k1, k2, k3, k4, k5, k6, k9]))
          clear hbad hsec hoku
          go_wp2_with fail
          refine (c1 _).mono ?_
          rintro e w1 ⟨rfl, rfl⟩
          go_wp2_with fail
          refine (c2 _).mono ?_
          rintro e w1 ⟨rfl, rfl⟩
          go_wp2_with fail
          refine (c3 _).mono ?_
          rintro e w1 ⟨rfl, rfl⟩
          go_wp2
          go_ret
          exact ⟨by rw [HB.out]; rfl, hq.alloc _ _⟩
       ·rw [k5] at c2
        have HB := Lib.hid (hbad (by rw [hsec]; simp [k1, k2, k3, k4, k5]))
        clear hbad hsec hoku
        go_wp2_with fail
        refine (c1 _).mono ?_
        rintro e w1 ⟨rfl, rfl⟩
        go_wp2_with fail
        refine (c2 _).mono ?_
        rintro e w1 ⟨rfl, rfl⟩
        go_wp2
        go_ret
        exact ⟨by rw [HB.out]; rfl, hq.alloc _ _⟩
      ·rw [k4] at c1
       have HB := Lib.hid (hbad (by rw [hsec]; simp [k1, k2, k3, k4]))
       clear hbad hsec hoku
       go_wp2_with fail
       refine (c1 _).mono ?_
       rintro e w1 ⟨rfl, rfl⟩
       go_wp2
       go_ret
       exact ⟨by rw [HB.out]; rfl, hq.alloc _ _⟩
  ·have hlB : decide (k < l.length) = false := decide_eq_false hl
   obtain rfl : k = l.length := by omega
   have HE := Lib.hid (rightS_end l (by omega) (by omega) hok)
   clear h4 hok
   go_wp2
   go_ret
   exact ⟨by rw [HE.out]; rfl, hq⟩
theorem r3right_any (v : Value) (l : List Sec) (w : World) (hv : IsSecs w v l) :
  Calls Tryz.prog 52 #[v] w fun e w' => e = .returned (.bool (rightS l)) ∧ Q w w' := by
 rcases hv with ⟨rfl, rfl⟩ | ⟨a, cap, rfl, h2, h3, h4⟩
 ·rw [rightS_short [] (by simp)]
  go_enter Tryz.func52, Tryz.ntmps52
  go_wp2
  go_ret
  exact ⟨rfl, Q.refl w⟩
 ·exact r3right_row a cap l h2 h3 w h4
end Go.Proofs.YthlileddhgglnaaGreatDoor
namespace Go.Proofs.YthlileddhgglnaaGreatDoor
open Go.RowKit
theorem amount_any (a : Int) (ha : I64 a) (w : World) :
  Calls Tryz.prog 160 #[.int .i64 a] w fun e w' => e = .returned (.int .u64 (a.natAbs : Int)) ∧ w = w' := by
 unfold I64 at ha
 obtain ⟨h1, h2⟩ := ha
 by_cases hn : a < 0
 ·have e : IntKind.u64.wrap (-IntKind.u64.wrap a) = (a.natAbs : Int) := by rw [wrapU, wrapU]; omega
  go_enter Tryz.func160, Tryz.ntmps160
  go_wp2
  go_ret
  exact ⟨rfl, rfl⟩
 ·have e : IntKind.u64.wrap a = (a.natAbs : Int) := by rw [wrapU]; omega
  go_enter Tryz.func160, Tryz.ntmps160
  go_wp2
  go_ret
  exact ⟨rfl, rfl⟩
def hi64 (x y : Nat) : Nat := x * y / 18446744073709551616
def lo64 (x y : Nat) : Nat := x * y % 18446744073709551616
theorem low_or (p m : Nat) (hp : p < 4294967296) : bits .or .u64 (p : Int) ((m * 4294967296 % 18446744073709551616 : Nat) : Int) = ((p + m * 4294967296 % 18446744073709551616 : Nat) : Int) := by
 rw [bits_or_u64_nat _ _ (by omega) (Nat.mod_lt _ (by omega)), Nat.or_comm, or_join 32 _ _ (by omega) (by omega)]
 omega
theorem times_nums (x y : Nat) (hx : x < 18446744073709551616) (hy : y < 18446744073709551616) :
  ∃ a0 a1 b0 b1 P Z R S P0 P1 Z0 Z1 R0 R1 ML LO : Nat,
   bits .and .u64 (x : Int) 4294967295 = (a0 : Int) ∧ (x : Int) / 4294967296 = (a1 : Int) ∧ bits .and .u64 (y : Int) 4294967295 = (b0 : Int) ∧ (y : Int) / 4294967296 = (b1 : Int) ∧
   IntKind.u64.wrap ((a0 : Int) * (b0 : Int)) = (P : Int) ∧ IntKind.u64.wrap ((a1 : Int) * (b0 : Int)) = (Z : Int) ∧ IntKind.u64.wrap ((a0 : Int) * (b1 : Int)) = (R : Int) ∧ IntKind.u64.wrap ((a1 : Int) * (b1 : Int)) = (S : Int) ∧
   bits .and .u64 (P : Int) 4294967295 = (P0 : Int) ∧ (P : Int) / 4294967296 = (P1 : Int) ∧ bits .and .u64 (Z : Int) 4294967295 = (Z0 : Int) ∧ (Z : Int) / 4294967296 = (Z1 : Int) ∧ bits .and .u64 (R : Int) 4294967295 = (R0 : Int) ∧ (R : Int) / 4294967296 = (R1 : Int) ∧
   (P0 < 4294967296 ∧ P1 < 4294967296 ∧ Z0 < 4294967296 ∧ Z1 < 4294967296 ∧ R0 < 4294967296 ∧ R1 < 4294967296 ∧ S ≤ 18446744065119617025) ∧
   IntKind.u64.wrap (((P1 : Int) + (Z0 : Int) + (R0 : Int)) * 4294967296) = (ML : Int) ∧ bits .or .u64 (P0 : Int) (ML : Int) = (LO : Int) ∧
   IntKind.u64.wrap ((S : Int) + (Z1 : Int) + (R1 : Int) + ((P1 : Int) + (Z0 : Int) + (R0 : Int)) / 4294967296) = (hi64 x y : Int) ∧ LO = lo64 x y := by
 have e : x * y = (x / 4294967296) * (y / 4294967296) * (4294967296 * 4294967296) + ((x / 4294967296) * (y % 4294967296) + (x % 4294967296) * (y / 4294967296)) * 4294967296 + (x % 4294967296) * (y % 4294967296) := by
  rw [← Lib.split_mul, Nat.div_add_mod' x 4294967296, Nat.div_add_mod' y 4294967296]
 have ha := Lib.half_mul_le (a := x / 4294967296) (b := y / 4294967296) (by omega) (by omega)
 have hb := Lib.half_mul_le (a := x / 4294967296) (b := y % 4294967296) (by omega) (by omega)
 have hc := Lib.half_mul_le (a := x % 4294967296) (b := y / 4294967296) (by omega) (by omega)
 have hd := Lib.half_mul_le (a := x % 4294967296) (b := y % 4294967296) (by omega) (by omega)
 have m0 := maskN x hx
 have m1 := maskN y hy
 have d0 : (x : Int) / 4294967296 = ((x / 4294967296 : Nat) : Int) := by omega
 have d1 : (y : Int) / 4294967296 = ((y / 4294967296 : Nat) : Int) := by omega
 unfold hi64 lo64
 rw [e]
 clear e
 generalize x / 4294967296 = a1 at *
 generalize x % 4294967296 = a0 at *
 generalize y / 4294967296 = b1 at *
 generalize y % 4294967296 = b0 at *
 refine ⟨a0, a1, b0, b1, a0 * b0, a1 * b0, a0 * b1, a1 * b1, a0 * b0 % 4294967296, a0 * b0 / 4294967296, a1 * b0 % 4294967296, a1 * b0 / 4294967296, a0 * b1 % 4294967296, a0 * b1 / 4294967296,
  (a0 * b0 / 4294967296 + a1 * b0 % 4294967296 + a0 * b1 % 4294967296) * 4294967296 % 18446744073709551616, a0 * b0 % 4294967296 + (a0 * b0 / 4294967296 + a1 * b0 % 4294967296 + a0 * b1 % 4294967296) * 4294967296 % 18446744073709551616,
  m0, d0, m1, d1, ?_, ?_, ?_, ?_, ?_, ?_, ?_, ?_, ?_, ?_, ?_, ?_, ?_, ?_, ?_⟩
 ·rw [← Int.natCast_mul]; exact wrapN _ (by omega)
 ·rw [← Int.natCast_mul]; exact wrapN _ (by omega)
 ·rw [← Int.natCast_mul]; exact wrapN _ (by omega)
 ·rw [← Int.natCast_mul]; exact wrapN _ (by omega)
 all_goals
  generalize a0 * b0 = P at *
  generalize a1 * b0 = Z at *
  generalize a0 * b1 = R at *
  generalize a1 * b1 = S at *
 ·exact maskN _ (by omega)
 ·omega
 ·exact maskN _ (by omega)
 ·omega
 ·exact maskN _ (by omega)
 ·omega
 ·omega
 ·rw [← wrapM]; congr 1
 ·exact low_or _ _ (by omega)
 ·rw [wrapU]; omega
 ·omega
theorem times_any (x y : Nat) (hx : x < 18446744073709551616) (hy : y < 18446744073709551616) (w : World) :
  Calls Tryz.prog 159 #[.int .u64 x, .int .u64 y] w fun e w' => e = .returned (.agg #[.int .u64 (hi64 x y), .int .u64 (lo64 x y)]) ∧ Q w w' := by
 obtain ⟨a0, a1, b0, b1, P, Z, R, S, P0, P1, Z0, Z1, R0, R1, ML, LO, e1, e2, e3, e4, e5, e6, e7, e8, e9, e10, e11, e12, e13, e14, ⟨u1, u2, u3, u4, u5, u6, u7⟩, e15, e16, e17, e18⟩ := times_nums x y hx hy
 subst e18
 go_enter Tryz.func159, Tryz.ntmps159
 go_wp2
 refine bodyPost_ret (v := .agg #[.int .u64 (hi64 x y), .int .u64 (lo64 x y)]) (by simp [results, Tryz.results159, go_sem]) rfl ⟨rfl, ?_⟩
 exact (Q.refl w).alloc _ _
theorem long_fits (hi lo : Nat) (neg : Bool) (hlo : lo < 18446744073709551616) : I64 (sg neg (hi * 18446744073709551616 + lo)) ↔ (hi = 0 ∧ (lo < 9223372036854775808 ∨ (lo = 9223372036854775808 ∧ neg = true))) := by
 cases neg
 ·rw [sg_fits_pos]; simp; omega
 ·rw [sg_fits_neg]; simp; omega
theorem rsigned_any (hi lo : Nat) (neg : Bool) (hlo : lo < 18446744073709551616) (w : World) :
  Calls Tryz.prog 162 #[.agg #[.int .u64 hi, .int .u64 lo], .bool neg] w fun e w' => e = .returned (.tuple #[.int .i64 (qv (sg neg (hi * 18446744073709551616 + lo))), .bool (decide (I64 (sg neg (hi * 18446744073709551616 + lo))))]) ∧ Q w w' := by
 have hf := long_fits hi lo neg hlo
 by_cases h : I64 (sg neg (hi * 18446744073709551616 + lo))
 ·rw [qv_yes h, decide_eq_true h]
  obtain ⟨rfl, h'⟩ := hf.1 h
  rw [Nat.zero_mul, Nat.zero_add]
  have b1 : decide ((9223372036854775808 : Int) < (lo : Int)) = false := decide_eq_false (by omega)
  clear hf h
  cases neg
  ·have b2 : ((lo : Int) == 9223372036854775808) = false := by rw [beq_eq_false_iff_ne]; simp at h'; omega
   have e : IntKind.i64.wrap (lo : Int) = sg false lo := by rw [IntKind.wrap_i64]; unfold sg; simp at h' ⊢; omega
   clear h'
   go_enter Tryz.func162, Tryz.ntmps162
   go_wp2
   go_ret2
   exact ⟨rfl, (Q.refl w).alloc _ _⟩
  ·have e : IntKind.i64.wrap (IntKind.u64.wrap (-(lo : Int))) = sg true lo := by rw [IntKind.wrap_i64, wrapU]; unfold sg; simp at h' ⊢; omega
   have b2 : ((lo : Int) == 9223372036854775808) = true ∨ ((lo : Int) == 9223372036854775808) = false := by cases (lo : Int) == 9223372036854775808 <;> simp
   clear h'
   rcases b2 with b2 | b2
   all_goals
    go_enter Tryz.func162, Tryz.ntmps162
    go_wp2
    go_ret2
    exact ⟨rfl, (Q.refl w).alloc _ _⟩
 ·rw [qv_no h, decide_eq_false h]
  have h' : ¬ (hi = 0 ∧ (lo < 9223372036854775808 ∨ (lo = 9223372036854775808 ∧ neg = true))) := fun c => h (hf.2 c)
  clear hf h
  by_cases h0 : hi = 0
  ·subst h0
   by_cases h1 : 9223372036854775808 < lo
   ·have b1 : decide ((9223372036854775808 : Int) < (lo : Int)) = true := decide_eq_true (by omega)
    clear h' h1
    go_enter Tryz.func162, Tryz.ntmps162
    go_wp2
    go_ret2
    exact ⟨rfl, (Q.refl w).alloc _ _⟩
   ·have h2 : lo = 9223372036854775808 := by
     by_cases c : lo < 9223372036854775808
     ·exact absurd ⟨rfl, Or.inl c⟩ h'
     ·omega
    have h3 : neg = false := by
     cases neg
     ·rfl
     ·exact absurd ⟨rfl, Or.inr ⟨h2, rfl⟩⟩ h'
    have b1 : decide ((9223372036854775808 : Int) < (lo : Int)) = false := decide_eq_false (by omega)
    have b2 : ((lo : Int) == 9223372036854775808) = true := by rw [beq_iff_eq]; omega
    subst h3
    clear h' h1 h2
    go_enter Tryz.func162, Tryz.ntmps162
    go_wp2
    go_ret2
    exact ⟨rfl, (Q.refl w).alloc _ _⟩
  ·have b0 : ((hi : Int) != 0) = true := by simpa using h0
   clear h' h0
   go_enter Tryz.func162, Tryz.ntmps162
   go_wp2
   go_ret2
   exact ⟨rfl, (Q.refl w).alloc _ _⟩
theorem told_any (v : Int) (c : Prop) [Decidable c] (w : World) :
  Calls Tryz.prog 161 #[.int .i64 v, .bool (decide c)] w fun e w' => e = .returned (.tuple #[.int .i64 (if c then v else 0), .int .i64 (if c then 0 else 21)]) ∧ w = w' := by
 by_cases h : c
 ·rw [decide_eq_true h, if_pos h, if_pos h]
  clear h
  go_enter Tryz.func161, Tryz.ntmps161
  go_wp2
  go_ret2
  exact ⟨rfl, rfl⟩
 ·rw [decide_eq_false h, if_neg h, if_neg h]
  clear h
  go_enter Tryz.func161, Tryz.ntmps161
  go_wp2
  go_ret2
  exact ⟨rfl, rfl⟩
theorem told_qv (v : Int) (w : World) :
  Calls Tryz.prog 161 #[.int .i64 (qv v), .bool (decide (I64 v))] w fun e w' => e = .returned (.tuple #[.int .i64 (qv v), .int .i64 (qe v)]) ∧ w = w' := by
 refine (told_any (qv v) (I64 v) w).mono fun e w' h => ⟨?_, h.2⟩
 rw [h.1]
 by_cases c : I64 v
 ·rw [if_pos c, if_pos c, qe_yes c]
 ·rw [if_neg c, if_neg c, qv_no c, qe_no c]
theorem halves (x y : Nat) : hi64 x y * 18446744073709551616 + lo64 x y = x * y := Nat.div_add_mod' _ _
theorem lo64_lt (x y : Nat) : lo64 x y < 18446744073709551616 := Nat.mod_lt _ (by omega)
end Go.Proofs.YthlileddhgglnaaGreatDoor
