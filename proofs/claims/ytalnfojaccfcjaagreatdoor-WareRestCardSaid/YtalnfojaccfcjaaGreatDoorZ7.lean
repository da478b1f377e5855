/-
 Contracts and what they rest on.
-/
import Derived.Laws.Strings2
import Derived.Laws.Slices
import Derived.KernelRfl
import Derived.Test.YtalnfojaccfcjaaGreatDoorChecked
import Derived.Lib.Hide
import Derived.Lib.ItoaLen
import Derived.Test.YtalnfojaccfcjaaGreatDoorZ1
import Derived.Test.YtalnfojaccfcjaaGreatDoorZ2
import Derived.Test.YtalnfojaccfcjaaGreatDoorZ3
import Derived.Test.YtalnfojaccfcjaaGreatDoorZ4
import Derived.Test.YtalnfojaccfcjaaGreatDoorZ5
import Derived.Test.YtalnfojaccfcjaaGreatDoorZ6
namespace Go.Proofs.YtalnfojaccfcjaaGreatDoor
open Go.RowKit
def partW (w : List UInt8) : Prop := w ≠ [] ∧ ∀ c ∈ w, partN c.toNat = true
def placeT : Nat → List (List UInt8) → List Wd
 | _, [] => []
 | p, w :: ws => (p, w) :: placeT (p + w.length + 1) ws
theorem placeT_texts : ∀ (p : Nat) (ws : List (List UInt8)), (placeT p ws).map Prod.snd = ws
 | _, [] => rfl
 | p, w :: ws => by show w :: (placeT _ ws).map Prod.snd = _; rw [placeT_texts]
theorem scan_app : ∀ (w rest : List UInt8) (p : Nat) (out : List (List Wd)) (line : List Wd) (v : List UInt8), (∀ c ∈ w, partN c.toNat = true) → scan (w ++ rest) p out line v false = scan rest (p + w.length) out line (v ++ w) false
 | [], rest, p, out, line, v, _ => by simp
 | c :: w, rest, p, out, line, v, h => by
  have hc := h c List.mem_cons_self
  show scan (c :: (w ++ rest)) p out line v false = _
  rw [scan, if_neg (part_cases hc).1, if_neg (by decide), if_pos hc, scan_app w rest (p + 1) out line (v ++ [c]) fun x hx => h x (List.mem_cons_of_mem _ hx)]
  rw [List.append_assoc, List.length_cons, Nat.add_assoc, Nat.add_comm 1]
  rfl
theorem scan_blank (rest : List UInt8) (q : Nat) (out : List (List Wd)) (line : List Wd) (v : List UInt8) : scan (32 :: rest) q out line v false = scan rest (q + 1) out (flushW line q v) [] false := by
 rw [scan, if_neg (by decide), if_neg (by decide), if_neg (by decide), if_neg (by decide), if_pos (by decide)]
theorem scan_lf (rest : List UInt8) (q : Nat) (out : List (List Wd)) (line : List Wd) (v : List UInt8) : scan (10 :: rest) q out line v false = scan rest (q + 1) (flushL out (flushW line q v)) [] [] false := by
 rw [scan, if_pos (by decide)]
theorem flush_at {line : List Wd} {p : Nat} {w : List UInt8} (h : w ≠ []) : flushW line (p + w.length) w = line ++ [(p, w)] := by
 unfold flushW
 rw [if_neg h, Nat.add_sub_cancel]
theorem scan_line : ∀ (ws : List (List UInt8)) (rest : List UInt8) (p : Nat) (out : List (List Wd)) (line : List Wd), ws ≠ [] → (∀ w ∈ ws, partW w) →
  scan (lineT ws ++ rest) p out line [] false = scan rest (p + (lineT ws).length) (out ++ [line ++ placeT p ws]) [] [] false
 | [], _, _, _, _, h, _ => absurd rfl h
 | [w], rest, p, out, line, _, h => by
  obtain ⟨h1, h2⟩ := h w List.mem_cons_self
  show scan (w ++ [10] ++ rest) p out line [] false = _
  rw [List.append_assoc, scan_app w _ p out line [] h2, List.nil_append]
  show scan (10 :: rest) _ _ _ _ _ = _
  rw [scan_lf, flush_at h1, flushL_some (by simp)]
  show scan rest (p + w.length + 1) _ _ _ _ = scan rest (p + (w ++ [10]).length) _ _ _ _
  rw [List.length_append, Nat.add_assoc]
  rfl
 | w :: x :: ws, rest, p, out, line, _, h => by
  obtain ⟨h1, h2⟩ := h w List.mem_cons_self
  show scan (w ++ 32 :: lineT (x :: ws) ++ rest) p out line [] false = _
  rw [List.append_assoc, scan_app w _ p out line [] h2, List.nil_append]
  show scan (32 :: (lineT (x :: ws) ++ rest)) _ _ _ _ _ = _
  rw [scan_blank, flush_at h1, scan_line (x :: ws) rest (p + w.length + 1) out (line ++ [(p, w)]) (by simp) fun y hy => h y (List.mem_cons_of_mem _ hy)]
  have e : p + w.length + 1 + (lineT (x :: ws)).length = p + (lineT (w :: x :: ws)).length := by
   show _ = p + (w ++ 32 :: lineT (x :: ws)).length
   rw [List.length_append, List.length_cons]
   omega
  rw [e, List.append_assoc]
  rfl
def placeL : Nat → List (List (List UInt8)) → List (List Wd)
 | _, [] => []
 | p, l :: L => placeT p l :: placeL (p + (lineT l).length) L
theorem scan_lines : ∀ (L : List (List (List UInt8))) (rest : List UInt8) (p : Nat) (out : List (List Wd)), (∀ l ∈ L, l ≠ [] ∧ ∀ w ∈ l, partW w) →
  scan (L.flatMap lineT ++ rest) p out [] [] false = scan rest (p + (L.flatMap lineT).length) (out ++ placeL p L) [] [] false
 | [], rest, p, out, _ => by simp [placeL]
 | l :: L, rest, p, out, h => by
  obtain ⟨h1, h2⟩ := h l List.mem_cons_self
  show scan (lineT l ++ L.flatMap lineT ++ rest) p out [] [] false = _
  rw [List.append_assoc, scan_line l _ p out [] h1 h2, scan_lines L rest _ _ fun x hx => h x (List.mem_cons_of_mem _ hx)]
  have e : p + (lineT l).length + (L.flatMap lineT).length = p + ((l :: L).flatMap lineT).length := by
   show _ = p + (lineT l ++ L.flatMap lineT).length
   rw [List.length_append]
   omega
  rw [e, List.nil_append, List.append_assoc]
  rfl
theorem lines_said {L : List (List (List UInt8))} (h : ∀ l ∈ L, l ≠ [] ∧ ∀ w ∈ l, partW w) (hl : (L.flatMap lineT).length ≤ 65536) : linesB (L.flatMap lineT) = (placeL 0 L, 0, 0) := by
 have := scan_lines L [] 0 [] h
 rw [List.append_nil, List.nil_append] at this
 unfold linesB
 rw [if_neg (by omega), this]
 rfl
theorem placeL_texts : ∀ (p : Nat) (L : List (List (List UInt8))), (placeL p L).map (List.map Prod.snd) = L
 | _, [] => rfl
 | p, l :: L => by show (placeT p l).map Prod.snd :: (placeL _ L).map _ = _; rw [placeT_texts, placeL_texts]
theorem placeL_append : ∀ (p : Nat) (L M : List (List (List UInt8))), placeL p (L ++ M) = placeL p L ++ placeL (p + (L.flatMap lineT).length) M
 | p, [], M => by simp [placeL]
 | p, l :: L, M => by
  show placeT p l :: placeL _ (L ++ M) = placeT p l :: (placeL _ L ++ _)
  rw [placeL_append]
  have e : p + (lineT l).length + (L.flatMap lineT).length = p + ((l :: L).flatMap lineT).length := by
   show _ = p + (lineT l ++ L.flatMap lineT).length
   rw [List.length_append]
   omega
  rw [e]
end Go.Proofs.YtalnfojaccfcjaaGreatDoor
namespace Go.Proofs.YtalnfojaccfcjaaGreatDoor
open Go.RowKit
def digG (t : Nat) (b : UInt8) : Nat := t * 10 + (b.toNat - 48)
theorem valTo_lst (l : List UInt8) : ∀ k, k ≤ l.length → valTo (strB l) k = (l.take k).foldl digG 0
 | 0, _ => by rw [List.take_zero]; rfl
 | k + 1, h => by
  have hg : l[k]? = some l[k] := List.getElem?_eq_getElem (by omega)
  have e : byteAt (strB l) k = (l[k]).toNat := by
   unfold byteAt strB
   rw [List.getD_eq_getElem?_getD]
   show (l[k]?.getD 0).toNat = _
   rw [hg]
   rfl
  rw [List.take_add_one, List.foldl_append, ← valTo_lst l k (by omega), hg]
  show valTo (strB l) k * 10 + (byteAt (strB l) k - 48) = _
  rw [e]
  rfl
theorem digit_vl {d : Nat} (h : d < 10) : (UInt8.ofNat (48 + d)).toNat = 48 + d := by
 rw [UInt8.toNat_ofNat']; omega
theorem dec_vl : ∀ (n u : Nat), u ≤ n → (Lib.decDigits u).foldl digG 0 = u
 | n, u, h => by
  rw [Lib.decDigits]
  by_cases c : u < 10
  ·rw [dif_pos c]
   simp only [digG, List.foldl_cons, List.foldl_nil, digit_vl c]
   omega
  ·rw [dif_neg c]
   match n with
   | 0 => omega
   | n + 1 =>
    have ih := dec_vl n (u / 10) (by omega)
    rw [List.foldl_append, ih]
    simp only [digG, List.foldl_cons, List.foldl_nil, digit_vl (show u % 10 < 10 by omega)]
    omega
theorem dec_dgs : ∀ (n u : Nat), u ≤ n → ∀ b ∈ Lib.decDigits u, 48 ≤ b.toNat ∧ b.toNat ≤ 57
 | n, u, h => by
  rw [Lib.decDigits]
  by_cases c : u < 10
  ·rw [dif_pos c]
   intro b hb
   rw [List.mem_singleton] at hb
   rw [hb, digit_vl c]
   omega
  ·rw [dif_neg c]
   match n with
   | 0 => omega
   | n + 1 =>
    have ih := dec_dgs n (u / 10) (by omega)
    intro b hb
    rw [List.mem_append, List.mem_singleton] at hb
    rcases hb with hb | hb
    ·exact ih b hb
    ·rw [hb, digit_vl (show u % 10 < 10 by omega)]
     omega
theorem dec_hd : ∀ (n u : Nat), u ≤ n → 0 < u → ∃ b l, Lib.decDigits u = b :: l ∧ b.toNat ≠ 48
 | n, u, h, h0 => by
  rw [Lib.decDigits]
  by_cases c : u < 10
  ·rw [dif_pos c]
   exact ⟨_, _, rfl, by rw [digit_vl c]; omega⟩
  ·rw [dif_neg c]
   match n with
   | 0 => omega
   | n + 1 =>
    obtain ⟨b, l, e, hb⟩ := dec_hd n (u / 10) (by omega) (by omega)
    rw [e]
    exact ⟨b, _, rfl, hb⟩
theorem dec_lng (n : Nat) : 1 ≤ (Lib.decDigits n).length := by
 rw [Lib.decDigits]
 split <;> simp
theorem byteAt_lst (l : List UInt8) (i : Nat) (b : UInt8) (h : l[i]? = some b) : byteAt (strB l) i = b.toNat := by
 unfold byteAt strB
 rw [List.getD_eq_getElem?_getD]
 show (l[i]?.getD 0).toNat = _
 rw [h]
 rfl
theorem digs_num {n : Nat} (h : n ≤ 1000000000000) : numOk (strB (Lib.decDigits n)) = true ∧ numV (strB (Lib.decDigits n)) = n := by
 have hv : valTo (strB (Lib.decDigits n)) (strB (Lib.decDigits n)).size = n := by rw [strB_size, valTo_lst _ _ (Nat.le_refl _), List.take_length, dec_vl n n (Nat.le_refl _)]
 have := num_yes (s := strB (Lib.decDigits n)) ⟨by rw [strB_size]; exact dec_lng n, fun ⟨h2, h48⟩ => by
   rcases Nat.eq_zero_or_pos n with h0 | h0
   ·rw [strB_size, h0, Lib.decDigits] at h2; simp at h2
   ·obtain ⟨b, l, e, hb⟩ := dec_hd n n (Nat.le_refl _) h0
    rw [byteAt_lst _ 0 b (by rw [e]; rfl)] at h48
    exact hb h48, fun i hi => by
   rw [strB_size] at hi
   rw [byteAt_lst _ i _ (List.getElem?_eq_getElem hi), digN_iff]
   exact dec_dgs n n (Nat.le_refl _) _ (List.getElem_mem hi), by rw [hv]; exact h⟩
 rw [hv] at this
 exact this
end Go.Proofs.YtalnfojaccfcjaaGreatDoor
namespace Go.Proofs.YtalnfojaccfcjaaGreatDoor
open Go.RowKit
theorem strB_list (n : ByteArray) : strB n.data.toList = n := rfl
theorem dec_ok {x : Int} (h0 : 0 ≤ x) (h1 : x ≤ 1000000000000) : numOk (strB (decI x)) = true ∧ ((numV (strB (decI x)) : Nat) : Int) = x := by
 obtain ⟨a, b⟩ := digs_num (n := x.toNat) (by omega)
 refine ⟨a, ?_⟩
 unfold decI
 rw [b]
 omega
theorem three_said {x y z : Int} {m0 m1 m2 : Nat} (p q r : Nat) (hx : 1 ≤ x ∧ x ≤ m0) (hy : 1 ≤ y ∧ y ≤ m1) (hz : 0 ≤ z ∧ z ≤ m2) (b0 : m0 ≤ 1000000000000) (b1 : m1 ≤ 1000000000000) (b2 : m2 ≤ 1000000000000) :
  ∃ X Y Z : Nat, threeW m0 m1 m2 (p, decI x) (q, decI y) (r, decI z) = .ok (X, Y, Z) ∧ (X : Int) = x ∧ (Y : Int) = y ∧ (Z : Int) = z := by
 obtain ⟨x1, x2⟩ := dec_ok (x := x) (by omega) (by omega)
 obtain ⟨y1, y2⟩ := dec_ok (x := y) (by omega) (by omega)
 obtain ⟨z1, z2⟩ := dec_ok (x := z) (by omega) (by omega)
 refine ⟨_, _, _, ?_, x2, y2, z2⟩
 unfold threeW
 rw [if_neg (by simp only [x1]; simp; omega), if_neg (by simp only [y1]; simp; omega), if_neg (by simp only [z1]; simp; omega)]
theorem rec_said {had : List Wr} {most m0 m1 m2 : Nat} (k : List UInt8) (w : Wr) (p : Nat) (hl : had.length < most) (hn : nameS w.n = true) (ha : namedW had w.n = false) (hx : 1 ≤ w.x ∧ w.x ≤ m0) (hy : 1 ≤ w.y ∧ w.y ≤ m1) (hz : 0 ≤ w.z ∧ w.z ≤ m2)
  (b0 : m0 ≤ 1000000000000) (b1 : m1 ≤ 1000000000000) (b2 : m2 ≤ 1000000000000) :
  recW had most m0 m1 m2 (placeT p [k, w.n.data.toList, decI w.x, decI w.y, decI w.z]) = .ok { w with l := [] } := by
 simp only [placeT]
 rw [recW, if_neg (by omega), if_neg (show ¬ (nameS (strB w.n.data.toList) = false ∨ namedW had (strB w.n.data.toList) = true) from by rw [strB_list, hn, ha]; simp)]
 obtain ⟨X, Y, Z, e, x1, y1, z1⟩ := three_said (p + k.length + 1 + w.n.data.toList.length + 1) (p + k.length + 1 + w.n.data.toList.length + 1 + (decI w.x).length + 1) (p + k.length + 1 + w.n.data.toList.length + 1 + (decI w.x).length + 1 + (decI w.y).length + 1) hx hy hz b0 b1 b2
 rw [e]
 simp only
 rw [x1, y1, z1, strB_list]
theorem nums_said : ∀ (xs : List Int) (p : Nat), (∀ x ∈ xs, 0 ≤ x ∧ x ≤ 1000000000000) → ∃ ns : List Nat, numsW (placeT p (xs.map decI)) = .ok ns ∧ ns.map (fun n => ((n : Nat) : Int)) = xs
 | [], _, _ => ⟨[], rfl, rfl⟩
 | x :: xs, p, h => by
  obtain ⟨h0, h1⟩ := h x List.mem_cons_self
  obtain ⟨a, b⟩ := dec_ok h0 h1
  obtain ⟨ns, e, f⟩ := nums_said xs (p + (decI x).length + 1) fun y hy => h y (List.mem_cons_of_mem _ hy)
  refine ⟨numV (strB (decI x)) :: ns, ?_, ?_⟩
  ·show numsW ((p, decI x) :: placeT _ (xs.map decI)) = _
   rw [numsW, a, e]
   rfl
  ·rw [List.map_cons, f, b]
theorem sec_said (s : Sec) (p : Nat) (h : secOk s = true) : secW (placeT p (secL s)) = .ok s := by
 obtain ⟨h1, h2, h3, h4, h5, h6, h7, h8, h9, h10, h11⟩ := secOk_all h
 obtain ⟨r, hh, a0, b0, a1, b1⟩ := s
 simp only at h1 h2 h3 h4 h5 h6 h7 h8 h9 h10 h11
 cases r
 ·obtain ⟨ns, e, f⟩ := nums_said [hh, a0, b0, a1, b1] (p + kBox.length + 1) (fun x hx => by simp at hx; rcases hx with rfl | rfl | rfl | rfl | rfl <;> omega)
  show secW ((p, kBox) :: placeT (p + kBox.length + 1) ([hh, a0, b0, a1, b1].map decI)) = _
  have hl : (placeT (p + kBox.length + 1) ([hh, a0, b0, a1, b1].map decI)).length = 5 := rfl
  rw [secW, if_pos (show ((p, kBox) : Wd).2 = kBox from rfl), if_neg (by rw [hl]; decide), e]
  match ns, f with
  | [n0, n1, n2, n3, n4], f =>
   simp only [List.map_cons, List.map_nil, List.cons.injEq, and_true] at f
   obtain ⟨f0, f1, f2, f3, f4⟩ := f
   simp only
   rw [f0, f1, f2, f3, f4]
 ·obtain ⟨rfl, rfl⟩ := h11 rfl
  obtain ⟨ns, e, f⟩ := nums_said [hh, a0, a1] (p + kRound.length + 1) (fun x hx => by simp at hx; rcases hx with rfl | rfl | rfl <;> omega)
  show secW ((p, kRound) :: placeT (p + kRound.length + 1) ([hh, a0, a1].map decI)) = _
  have hl : (placeT (p + kRound.length + 1) ([hh, a0, a1].map decI)).length = 3 := rfl
  rw [secW, if_neg (show ¬ ((p, kRound) : Wd).2 = kBox from by show ¬ kRound = kBox; decide), if_neg (by rw [hl]; decide), e]
  match ns, f with
  | [n0, n1, n2], f =>
   simp only [List.map_cons, List.map_nil, List.cons.injEq, and_true] at f
   obtain ⟨f0, f1, f2⟩ := f
   simp only
   rw [f0, f1, f2]
def addS (d : Dk) (o : Nat) (l : List Sec) : Dk := l.foldl (fun d s => d.add o s) d
theorem secs_said : ∀ (l : List Sec) (p : Nat) (L : List (List Wd)) (d : Dk) (o f : Nat), o ≠ 0 → (∀ s ∈ l, secOk s = true) → parseD (placeL p (l.map secL) ++ L) d o f = parseD L (addS d o l) o f
 | [], _, _, _, _, _, _, _ => rfl
 | s :: l, p, L, d, o, f, ho, h => by
  have hs := sec_said s p (h s List.mem_cons_self)
  have ih := fun p d => secs_said l p L d o f ho fun x hx => h x (List.mem_cons_of_mem _ hx)
  show parseD (placeT p (secL s) :: (placeL _ (l.map secL) ++ L)) d o f = _
  have hk : ∃ k x, placeT p (secL s) = k :: x ∧ (k.2 = kRound ∨ k.2 = kBox) := by
   unfold secL
   split
   ·exact ⟨_, _, rfl, .inl rfl⟩
   ·exact ⟨_, _, rfl, .inr rfl⟩
  obtain ⟨k, x, e, hk⟩ := hk
  rw [e] at hs ⊢
  rw [parseD, if_pos hk, if_neg ho, hs]
  exact ih _ _
theorem moreW_last : ∀ (ws : List Wr) (w : Wr) (s : Sec), moreW (ws ++ [w]) s = ws ++ [moreR w s]
 | [], _, _ => rfl
 | [x], w, s => rfl
 | x :: y :: ws, w, s => by
  show x :: moreW (y :: (ws ++ [w])) s = x :: (y :: ws ++ [moreR w s])
  rw [show y :: (ws ++ [w]) = y :: ws ++ [w] from rfl, moreW_last (y :: ws) w s]
theorem lastL_last : ∀ (ws : List Wr) (w : Wr), lastL (ws ++ [w]) = w.l
 | [], _ => rfl
 | [x], w => rfl
 | x :: y :: ws, w => by
  show lastL (y :: (ws ++ [w])) = _
  exact lastL_last (y :: ws) w
theorem addS_ware : ∀ (l : List Sec) (d : Dk) (ws : List Wr) (w : Wr), d.ws = ws ++ [w] → addS d 1 l = { d with ws := ws ++ [{ w with l := w.l ++ l }] }
 | [], d, ws, w, h => by
  show d = _
  obtain ⟨a, b, c⟩ := d
  simp only at h
  subst h
  simp
 | s :: l, d, ws, w, h => by
  show addS (d.add 1 s) 1 l = _
  have e : (d.add 1 s).ws = ws ++ [moreR w s] := by show moreW d.ws s = _; rw [h, moreW_last]
  rw [addS_ware l (d.add 1 s) ws (moreR w s) e]
  show ({ ws := ws ++ [{ (moreR w s) with l := (w.l ++ [s]) ++ l }], ts := d.ts, fs := d.fs } : Dk) = _
  rw [List.append_assoc]
  rfl
theorem addS_tip : ∀ (l : List Sec) (d : Dk) (ts : List Wr) (w : Wr), d.ts = ts ++ [w] → addS d 2 l = { d with ts := ts ++ [{ w with l := w.l ++ l }] }
 | [], d, ts, w, h => by
  show d = _
  obtain ⟨a, b, c⟩ := d
  simp only at h
  subst h
  simp
 | s :: l, d, ts, w, h => by
  show addS (d.add 2 s) 2 l = _
  have e : (d.add 2 s).ts = ts ++ [moreR w s] := by show moreW d.ts s = _; rw [h, moreW_last]
  rw [addS_tip l (d.add 2 s) ts (moreR w s) e]
  show ({ ws := d.ws, ts := ts ++ [{ (moreR w s) with l := (w.l ++ [s]) ++ l }], fs := d.fs } : Dk) = _
  rw [List.append_assoc]
  rfl
theorem ware_said (w : Wr) (p : Nat) (L : List (List Wd)) (d : Dk) (o f : Nat) (hw : wareOk w = true) (hl : d.ws.length < 8) (ha : namedW d.ws w.n = false) (ho : wholeD d o = true) :
  parseD (placeL p (recL kWare w) ++ L) d o f = parseD L { d with ws := d.ws ++ [w] } 1 p ∧ wholeD { d with ws := d.ws ++ [w] } 1 = true := by
 unfold wareOk at hw
 simp only [Bool.and_eq_true, inB_iff] at hw
 obtain ⟨⟨⟨⟨h1, h2⟩, h3⟩, h4⟩, h5⟩ := hw
 obtain ⟨_, _, hsec⟩ := right_all h5
 constructor
 ·show parseD (placeT p [kWare, w.n.data.toList, decI w.x, decI w.y, decI w.z] :: (placeL _ (w.l.map secL) ++ L)) d o f = _
  have hr := rec_said (had := d.ws) (most := 8) (m0 := 8) (m1 := 12) (m2 := 1000000) kWare w p hl h1 ha h2 h3 h4 (by decide) (by decide) (by decide)
  generalize hx : placeT p [kWare, w.n.data.toList, decI w.x, decI w.y, decI w.z] = X at hr ⊢
  have hk : ∃ x, X = (p, kWare) :: x := ⟨_, hx.symm⟩
  obtain ⟨x, rfl⟩ := hk
  rw [parseD, if_neg (show ¬ (kWare = kRound ∨ kWare = kBox) by decide), ho, if_neg (by decide), if_pos rfl, hr]
  show parseD (placeL _ (w.l.map secL) ++ L) { d with ws := d.ws ++ [{ w with l := [] }] } 1 p = _
  rw [secs_said w.l _ L _ 1 p (by decide) hsec, addS_ware w.l _ d.ws { w with l := [] } rfl]
  simp
 ·unfold wholeD
  rw [if_pos rfl]
  show rightS (lastL (d.ws ++ [w])) = true
  rw [lastL_last, h5]
theorem tip_said (w : Wr) (p : Nat) (L : List (List Wd)) (d : Dk) (o f : Nat) (hw : tipOk w = true) (hl : d.ts.length < 4) (ha : namedW d.ts w.n = false) (ho : wholeD d o = true) :
  parseD (placeL p (recL kTip w) ++ L) d o f = parseD L { d with ts := d.ts ++ [w] } 2 p ∧ wholeD { d with ts := d.ts ++ [w] } 2 = true := by
 unfold tipOk at hw
 simp only [Bool.and_eq_true, inB_iff] at hw
 obtain ⟨⟨⟨⟨h1, h5⟩, h2⟩, h3⟩, h4⟩ := hw
 obtain ⟨_, _, hsec⟩ := right_all h5
 constructor
 ·show parseD (placeT p [kTip, w.n.data.toList, decI w.x, decI w.y, decI w.z] :: (placeL _ (w.l.map secL) ++ L)) d o f = _
  have hr := rec_said (had := d.ts) (most := 4) (m0 := 20000000) (m1 := 60000) (m2 := 10000) kTip w p hl h1 ha h2 h3 h4 (by decide) (by decide) (by decide)
  generalize hx : placeT p [kTip, w.n.data.toList, decI w.x, decI w.y, decI w.z] = X at hr ⊢
  have hk : ∃ x, X = (p, kTip) :: x := ⟨_, hx.symm⟩
  obtain ⟨x, rfl⟩ := hk
  rw [parseD, if_neg (show ¬ (kTip = kRound ∨ kTip = kBox) by decide), ho, if_neg (by decide), if_neg (show ¬ kTip = kWare by decide), if_pos rfl, hr]
  show parseD (placeL _ (w.l.map secL) ++ L) { d with ts := d.ts ++ [{ w with l := [] }] } 2 p = _
  rw [secs_said w.l _ L _ 2 p (by decide) hsec, addS_tip w.l _ d.ts { w with l := [] } rfl]
  simp
 ·unfold wholeD
  rw [if_neg (by decide), if_pos rfl]
  show rightS (lastL (d.ts ++ [w])) = true
  rw [lastL_last, h5]
end Go.Proofs.YtalnfojaccfcjaaGreatDoor
namespace Go.Proofs.YtalnfojaccfcjaaGreatDoor
open Go.RowKit
def dotAt (l : List UInt8) : Nat := (l.takeWhile fun c => decide (c.toNat ≠ 46)).length
theorem dot_le (l : List UInt8) : dotAt l ≤ l.length := by
 unfold dotAt
 exact (List.takeWhile_sublist _).length_le
theorem dot_is (l : List UInt8) : ∀ k, (∀ j c, j < k → l[j]? = some c → c.toNat ≠ 46) → k ≤ l.length → (l.length ≤ k ∨ ∃ c, l[k]? = some c ∧ c.toNat = 46) → dotAt l = k := by
 induction l with
 | nil => intro k _ hk _; simp at hk; subst hk; rfl
 | cons x l ih =>
  intro k h hk he
  unfold dotAt
  match k with
  | 0 =>
   rcases he with he | ⟨c, hc, h46⟩
   ·simp at he
   ·simp at hc; subst hc
    rw [List.takeWhile_cons, if_neg (by simp [h46])]
    rfl
  | k + 1 =>
   have hx := h 0 x (by omega) rfl
   rw [List.takeWhile_cons, if_pos (by simp [hx])]
   have := ih k (fun j c hj hc => h (j + 1) c (by omega) (by simpa using hc)) (by simpa using hk) (by
    rcases he with he | ⟨c, hc, h46⟩
    ·exact .inl (by simpa using he)
    ·exact .inr ⟨c, by simpa using hc, h46⟩)
   unfold dotAt at this
   rw [List.length_cons, this]
theorem take_dot (l : List UInt8) : l.takeWhile (fun c => decide (c.toNat ≠ 46)) = l.take (dotAt l) := by
 unfold dotAt
 exact (List.takeWhile_eq_take_findIdx_not ..) |>.trans (by
  congr 1
  rw [List.takeWhile_eq_take_findIdx_not, List.length_take]
  have := List.findIdx_le_length (p := fun c : UInt8 => !decide (c.toNat ≠ 46)) (xs := l)
  omega)
theorem strB_sub (l : List UInt8) (a b : Nat) : (strB l).extract a b = strB ((l.drop a).take (b - a)) := by
 apply ByteArray.ext
 apply Array.ext'
 rw [Go.Lib.extract_data]
 rfl
theorem well_long {l : List UInt8} {k : Nat} {r : UInt8} (hk : dotAt l = k) (hr : l[k + 1]? = some r) : wellL l = if nameS (strB (l.take k)) = true ∧ 65 ≤ r.toNat ∧ r.toNat ≤ 72 ∧ numOk (strB (l.drop (k + 2))) = true ∧ 1 ≤ numV (strB (l.drop (k + 2))) ∧ numV (strB (l.drop (k + 2))) ≤ 12 then some (l.take k, r.toNat - 65, numV (strB (l.drop (k + 2))) - 1) else none := by
 unfold wellL
 simp only
 rw [take_dot, List.length_take, Nat.min_eq_left (dot_le l), hk]
 have e : l.drop (k + 1) = r :: l.drop (k + 2) := by
  obtain ⟨h, rfl⟩ := List.getElem?_eq_some_iff.1 hr
  rw [List.drop_eq_getElem_cons h]
 rw [e]
end Go.Proofs.YtalnfojaccfcjaaGreatDoor
namespace Go.Proofs.YtalnfojaccfcjaaGreatDoor
open Go.RowKit
def ApartW (ok : Wr → Bool) (ws : List Wr) : Prop := ∀ i w, ws[i]? = some w → ok w = true ∧ namedW (ws.take i) w.n = false
theorem apartW_iff {ok : Wr → Bool} {ws : List Wr} : apartW ok ws = true ↔ ApartW ok ws := by
 unfold apartW ApartW
 rw [List.all_eq_true]
 constructor
 ·intro h i w hw
  have := h i (List.mem_range.2 (List.getElem?_eq_some_iff.1 hw).1)
  rw [hw] at this
  simpa using this
 ·intro h i hi
  have hi' := List.mem_range.1 hi
  have hw : ws[i]? = some ws[i] := List.getElem?_eq_getElem hi'
  rw [hw]
  have := h i _ hw
  simpa using this
theorem wares_said : ∀ (ws : List Wr) (p : Nat) (L : List (List Wd)) (d : Dk) (o f : Nat), ApartW wareOk (d.ws ++ ws) → (d.ws ++ ws).length ≤ 8 → wholeD d o = true →
  ∃ o' f', parseD (placeL p (ws.flatMap (recL kWare)) ++ L) d o f = parseD L { d with ws := d.ws ++ ws } o' f' ∧ wholeD { d with ws := d.ws ++ ws } o' = true
 | [], p, L, d, o, f, _, _, ho => ⟨o, f, by simp [placeL], by simpa using ho⟩
 | w :: ws, p, L, d, o, f, ha, hl, ho => by
  have hw := ha d.ws.length w (by rw [List.getElem?_append_right (Nat.le_refl _)]; simp)
  rw [List.take_left] at hw
  have hll : d.ws.length < 8 := by rw [List.length_append, List.length_cons] at hl; omega
  show ∃ o' f', parseD (placeL p (recL kWare w ++ ws.flatMap (recL kWare)) ++ L) d o f = _ ∧ _
  rw [placeL_append, List.append_assoc]
  obtain ⟨e1, e2⟩ := ware_said w p (placeL (p + ((recL kWare w).flatMap lineT).length) (ws.flatMap (recL kWare)) ++ L) d o f hw.1 hll hw.2 ho
  rw [e1]
  have e3 : d.ws ++ [w] ++ ws = d.ws ++ w :: ws := by simp
  obtain ⟨o', f', e4, e5⟩ := wares_said ws (p + ((recL kWare w).flatMap lineT).length) L { d with ws := d.ws ++ [w] } 1 p (by rw [e3]; exact ha) (by rw [e3]; exact hl) e2
  simp only [e3] at e4 e5
  exact ⟨o', f', e4, e5⟩
theorem tips_said : ∀ (ws : List Wr) (p : Nat) (L : List (List Wd)) (d : Dk) (o f : Nat), ApartW tipOk (d.ts ++ ws) → (d.ts ++ ws).length ≤ 4 → wholeD d o = true →
  ∃ o' f', parseD (placeL p (ws.flatMap (recL kTip)) ++ L) d o f = parseD L { d with ts := d.ts ++ ws } o' f' ∧ wholeD { d with ts := d.ts ++ ws } o' = true
 | [], p, L, d, o, f, _, _, ho => ⟨o, f, by simp [placeL], by simpa using ho⟩
 | w :: ws, p, L, d, o, f, ha, hl, ho => by
  have hw := ha d.ts.length w (by rw [List.getElem?_append_right (Nat.le_refl _)]; simp)
  rw [List.take_left] at hw
  have hll : d.ts.length < 4 := by rw [List.length_append, List.length_cons] at hl; omega
  show ∃ o' f', parseD (placeL p (recL kTip w ++ ws.flatMap (recL kTip)) ++ L) d o f = _ ∧ _
  rw [placeL_append, List.append_assoc]
  obtain ⟨e1, e2⟩ := tip_said w p (placeL (p + ((recL kTip w).flatMap lineT).length) (ws.flatMap (recL kTip)) ++ L) d o f hw.1 hll hw.2 ho
  rw [e1]
  have e3 : d.ts ++ [w] ++ ws = d.ts ++ w :: ws := by simp
  obtain ⟨o', f', e4, e5⟩ := tips_said ws (p + ((recL kTip w).flatMap lineT).length) L { d with ts := d.ts ++ [w] } 2 p (by rw [e3]; exact ha) (by rw [e3]; exact hl) e2
  simp only [e3] at e4 e5
  exact ⟨o', f', e4, e5⟩
theorem has_ware : ∀ (ws : List Wr) (k : Int) (n : ByteArray) (r c : Int), (indexW ws k n r c).isSome = true → ∃ w ∈ ws, w.n = n ∧ 0 ≤ r ∧ r < w.x ∧ 0 ≤ c ∧ c < w.y
 | [], _, _, _, _, h => by cases h
 | w :: ws, k, n, r, c, h => by
  unfold indexW at h
  cases hn : (w.n.toList == n.toList)
  ·rw [hn, if_neg (by decide)] at h
   obtain ⟨x, hx, h2⟩ := has_ware ws _ n r c h
   exact ⟨x, List.mem_cons_of_mem _ hx, h2⟩
  ·rw [hn, if_pos rfl] at h
   have e : w.n = n := by
    have := beq_iff_eq.1 hn
    rw [toList_data, toList_data] at this
    apply ByteArray.ext
    exact Array.ext' this
   split at h
   ·rename_i hh
    exact ⟨w, List.mem_cons_self, e, hh⟩
   ·cases h
theorem name_byte {n : ByteArray} (h : nameS n = true) : ∀ c ∈ n.data.toList, c.toNat ≠ 46 ∧ partN c.toNat = true := by
 intro c hc
 unfold nameS at h
 simp only [Bool.and_eq_true, List.all_eq_true, List.mem_range] at h
 obtain ⟨i, hi⟩ := List.getElem?_of_mem hc
 have hlt := (List.getElem?_eq_some_iff.1 hi).1
 have := h.2 i hlt
 rw [show byteAt n i = c.toNat from byteAt_lst n.data.toList i c hi] at this
 constructor
 ·intro e
  rw [e] at this
  exact absurd this (by decide)
 ·unfold partN
  rcases Bool.or_eq_true_iff.1 this with h1 | h1 <;> rw [h1] <;> simp
theorem well_said {n : ByteArray} {r c : Int} (hn : nameS n = true) (hr : 0 ≤ r ∧ r < 8) (hc : 0 ≤ c ∧ c < 12) : wellL (wellT n r c) = some (n.data.toList, r.toNat, c.toNat) := by
 have hw : wellT n r c = n.data.toList ++ (46 :: UInt8.ofNat (65 + r.toNat) :: decI (c + 1)) := by
  unfold wellT
  rw [if_pos ⟨hn, hr.1, hr.2, hc.1, hc.2⟩]
  simp
 have hdot : dotAt (wellT n r c) = n.data.toList.length := by
  refine dot_is _ _ (fun j x hj hx => ?_) (by rw [hw]; simp) (.inr ⟨46, ?_, rfl⟩)
  ·rw [hw, List.getElem?_append_left hj] at hx
   exact (name_byte hn x (List.mem_of_getElem? hx)).1
  ·rw [hw, List.getElem?_append_right (Nat.le_refl _)]
   simp
 have hg : (wellT n r c)[n.data.toList.length + 1]? = some (UInt8.ofNat (65 + r.toNat)) := by
  rw [hw, List.getElem?_append_right (by omega)]
  simp
 rw [well_long hdot hg]
 have e1 : (wellT n r c).take n.data.toList.length = n.data.toList := by rw [hw, List.take_left]
 have e2 : (wellT n r c).drop (n.data.toList.length + 2) = decI (c + 1) := by
  rw [hw, List.drop_append]
  simp
 have e3 : (UInt8.ofNat (65 + r.toNat)).toNat = 65 + r.toNat := by rw [UInt8.toNat_ofNat']; omega
 obtain ⟨d1, d2⟩ := dec_ok (x := c + 1) (by omega) (by omega)
 rw [e1, e2, e3, if_pos ⟨hn, by omega, by omega, d1, by omega, by omega⟩]
 congr 2
 congr 1
 ·omega
 ·omega
theorem fill_said {d : Dk} (f : Fl) (p : Nat) (hr : ∀ w ∈ d.ws, wareOk w = true) (hh : hasW d.ws f.n f.r f.c = true) (hv : 0 ≤ f.v ∧ f.v ≤ 20000000) (hf : filledW d.fs f.n f.r f.c = false) : fillW d (placeT p (fillL f)) = .ok f := by
 obtain ⟨w, hw, en, h1, h2, h3, h4⟩ := has_ware d.ws 0 f.n f.r f.c hh
 have hok := hr w hw
 unfold wareOk at hok
 simp only [Bool.and_eq_true, inB_iff] at hok
 obtain ⟨⟨⟨⟨g1, g2⟩, g3⟩, _⟩, _⟩ := hok
 rw [en] at g1
 have hwl := well_said (n := f.n) (r := f.r) (c := f.c) g1 ⟨h1, by omega⟩ ⟨h3, by omega⟩
 obtain ⟨d1, d2⟩ := dec_ok (x := f.v) hv.1 (by omega)
 have er : ((f.r.toNat : Nat) : Int) = f.r := by omega
 have ec : ((f.c.toNat : Nat) : Int) = f.c := by omega
 show fillW d [(p, kFill), (p + kFill.length + 1, wellT f.n f.r f.c), (p + kFill.length + 1 + (wellT f.n f.r f.c).length + 1, decI f.v)] = _
 unfold fillW
 simp only
 rw [hwl]
 simp only
 rw [er, ec, strB_list, hh, hf, d1, if_neg (by simp), if_neg (by simp; omega), d2]
theorem fills_said : ∀ (fs : List Fl) (p : Nat) (L : List (List Wd)) (d : Dk) (o f : Nat), (∀ w ∈ d.ws, wareOk w = true) → (∀ i x, (d.fs ++ fs)[i]? = some x → hasW d.ws x.n x.r x.c = true ∧ (0 ≤ x.v ∧ x.v ≤ 20000000) ∧ filledW ((d.fs ++ fs).take i) x.n x.r x.c = false) → wholeD d o = true →
  ∃ o' f', parseD (placeL p (fs.map fillL) ++ L) d o f = parseD L { d with fs := d.fs ++ fs } o' f' ∧ wholeD { d with fs := d.fs ++ fs } o' = true
 | [], p, L, d, o, f, _, _, ho => ⟨o, f, by simp [placeL], by simpa using ho⟩
 | x :: fs, p, L, d, o, f, hr, ha, ho => by
  obtain ⟨h1, h2, h3⟩ := ha d.fs.length x (by rw [List.getElem?_append_right (Nat.le_refl _)]; simp)
  rw [List.take_left] at h3
  have hx := fill_said x p hr h1 h2 h3
  show ∃ o' f', parseD (placeT p (fillL x) :: (placeL _ (fs.map fillL) ++ L)) d o f = _ ∧ _
  have hk : ∃ y, placeT p (fillL x) = (p, kFill) :: y := ⟨_, rfl⟩
  obtain ⟨y, ey⟩ := hk
  rw [ey] at hx ⊢
  rw [parseD, if_neg (show ¬ (kFill = kRound ∨ kFill = kBox) by decide), ho, if_neg (by decide), if_neg (show ¬ kFill = kWare by decide), if_neg (show ¬ kFill = kTip by decide), if_pos rfl, hx]
  have e3 : d.fs ++ [x] ++ fs = d.fs ++ x :: fs := by simp
  obtain ⟨o', f', e4, e5⟩ := fills_said fs (p + (lineT (fillL x)).length) L { d with fs := d.fs ++ [x] } 0 p hr (by rw [e3]; exact ha) rfl
  simp only [e3] at e4 e5
  exact ⟨o', f', e4, e5⟩
def BehindT (L : List (List Wd)) : Prop := L = [] ∨ ∃ k x M, L = (k :: x) :: M ∧ k.2 ≠ kRound ∧ k.2 ≠ kBox ∧ k.2 ≠ kWare ∧ k.2 ≠ kTip ∧ k.2 ≠ kFill
theorem behind_end {L : List (List Wd)} {d : Dk} {o f : Nat} (h : BehindT L) (ho : wholeD d o = true) : parseD L d o f = (d, L, 0, 0) := by
 rcases h with rfl | ⟨k, x, M, rfl, h1, h2, h3, h4, h5⟩
 ·rw [parseD, if_pos ho]
 ·rw [parseD, if_neg (by rintro (h | h); exact h1 h; exact h2 h), ho, if_neg (by decide), if_neg h3, if_neg h4, if_neg h5]
theorem deck_said {d : Dk} (h : rightD d = true) (p : Nat) {L : List (List Wd)} (hL : BehindT L) : parseD (placeL p (deckL d) ++ L) dk0 0 0 = (d, L, 0, 0) := by
 unfold rightD at h
 simp only [Bool.and_eq_true, decide_eq_true_eq] at h
 obtain ⟨⟨⟨⟨h1, h2⟩, h3⟩, h4⟩, h5⟩ := h
 rw [apartW_iff] at h3 h4
 unfold deckL
 rw [placeL_append, placeL_append, List.append_assoc, List.append_assoc]
 obtain ⟨o1, f1, e1, w1⟩ := wares_said d.ws p (placeL (p + ((d.ws.flatMap (recL kWare)).flatMap lineT).length) (d.ts.flatMap (recL kTip)) ++ (placeL (p + ((d.ws.flatMap (recL kWare) ++ d.ts.flatMap (recL kTip)).flatMap lineT).length) (d.fs.map fillL) ++ L)) dk0 0 0 (by simpa [dk0] using h3) (by simpa [dk0] using h1) rfl
 rw [e1]
 obtain ⟨o2, f2, e2, w2⟩ := tips_said d.ts (p + ((d.ws.flatMap (recL kWare)).flatMap lineT).length) (placeL (p + ((d.ws.flatMap (recL kWare) ++ d.ts.flatMap (recL kTip)).flatMap lineT).length) (d.fs.map fillL) ++ L) { dk0 with ws := dk0.ws ++ d.ws } o1 f1 (by simpa [dk0] using h4) (by simpa [dk0] using h2) w1
 rw [e2]
 have hwr : ∀ w ∈ d.ws, wareOk w = true := fun w hw => by
  obtain ⟨i, hi⟩ := List.getElem?_of_mem hw
  exact (h3 i w hi).1
 have hfs : ∀ i x, d.fs[i]? = some x → hasW d.ws x.n x.r x.c = true ∧ (0 ≤ x.v ∧ x.v ≤ 20000000) ∧ filledW (d.fs.take i) x.n x.r x.c = false := fun i x hx => by
  unfold fillsOk at h5
  rw [List.all_eq_true] at h5
  have := h5 i (List.mem_range.2 (List.getElem?_eq_some_iff.1 hx).1)
  rw [hx] at this
  simp only [Bool.and_eq_true, inB_iff, Bool.not_eq_true'] at this
  exact ⟨this.1.1, this.1.2, this.2⟩
 obtain ⟨o3, f3, e3, w3⟩ := fills_said d.fs (p + ((d.ws.flatMap (recL kWare) ++ d.ts.flatMap (recL kTip)).flatMap lineT).length) L { dk0 with ws := dk0.ws ++ d.ws, ts := dk0.ts ++ d.ts } o2 f2 (by simpa [dk0] using hwr) (by simpa [dk0] using hfs) w2
 have e : ({ dk0 with ws := dk0.ws ++ d.ws, ts := dk0.ts ++ d.ts, fs := dk0.fs ++ d.fs } : Dk) = d := by simp [dk0]
 refine e3.trans ?_
 have w3' := w3
 rw [show ({ ({ dk0 with ws := dk0.ws ++ d.ws, ts := dk0.ts ++ d.ts } : Dk) with fs := ({ dk0 with ws := dk0.ws ++ d.ws, ts := dk0.ts ++ d.ts } : Dk).fs ++ d.fs } : Dk) = d from e] at w3' ⊢
 exact behind_end hL w3'
end Go.Proofs.YtalnfojaccfcjaaGreatDoor
namespace Go.Proofs.YtalnfojaccfcjaaGreatDoor
open Go.RowKit
set_option linter.unusedVariables false
theorem at_name : ∀ (ws : List Wr) (k : Int) (n : ByteArray) (r c : Int), atW ws k = some (n, r, c) → ∃ v ∈ ws, v.n = n
 | [], k, n, r, c, h => by cases h
 | w :: ws, k, n, r, c, h => by
  rw [atW] at h
  by_cases h0 : k < 0
  ·rw [if_pos h0] at h; cases h
  ·rw [if_neg h0] at h
   by_cases h1 : k < w.x * w.y
   ·rw [if_pos h1] at h
    simp only [Option.some.injEq, Prod.mk.injEq] at h
    exact ⟨w, List.mem_cons_self .., h.1⟩
   ·rw [if_neg h1] at h
    obtain ⟨v, hv, e⟩ := at_name ws _ n r c h
    exact ⟨v, List.mem_cons_of_mem _ hv, e⟩
def namesApart : List Wr → Prop
 | [] => True
 | w :: ws => (∀ v ∈ ws, (w.n.toList == v.n.toList) = false) ∧ namesApart ws
theorem at_index : ∀ (ws : List Wr) (K k : Int) (n : ByteArray) (r c : Int), (∀ x ∈ ws, wareB x) → namesApart ws → atW ws k = some (n, r, c) → indexW ws K n r c = some (K + k)
 | [], K, k, n, r, c, _, _, h => by cases h
 | w :: ws, K, k, n, r, c, hb, ha, h => by
  obtain ⟨b1, b2, b3, b4⟩ := hb w (List.mem_cons_self ..)
  rw [atW] at h
  by_cases h0 : k < 0
  ·rw [if_pos h0] at h; cases h
  ·rw [if_neg h0] at h
   by_cases h1 : k < w.x * w.y
   ·rw [if_pos h1] at h
    simp only [Option.some.injEq, Prod.mk.injEq] at h
    obtain ⟨rfl, rfl, rfl⟩ := h
    have e1 := Int.emod_nonneg k (by omega : w.y ≠ 0)
    have e2 := Int.emod_lt_of_pos k (by omega : 0 < w.y)
    have e3 := Int.ediv_nonneg (by omega : 0 ≤ k) (by omega : 0 ≤ w.y)
    have e4 : k / w.y < w.x := Int.ediv_lt_of_lt_mul (by omega) (by rw [Int.mul_comm] at h1; rw [Int.mul_comm]; exact h1)
    have e5 := Int.mul_ediv_add_emod k w.y
    rw [indexW, if_pos (by simp), if_pos ⟨e3, e4, e1, e2⟩]
    congr 1
    rw [Int.mul_comm (k / w.y) w.y]
    omega
   ·rw [if_neg h1] at h
    obtain ⟨v, hv, e⟩ := at_name ws _ n r c h
    have hne := ha.1 v hv
    rw [e] at hne
    rw [indexW, if_neg (by rw [hne]; decide)]
    have := at_index ws (K + w.x * w.y) (k - w.x * w.y) n r c (fun x hx => hb x (List.mem_cons_of_mem _ hx)) ha.2 h
    rw [this]
    congr 1
    omega
theorem fills_mem (ws : List Wr) : ∀ (l : List Nat) (i : Nat) (f : Fl), f ∈ fillsF ws i l → ∃ k : Nat, i ≤ k ∧ atW ws (k : Int) = some (f.n, f.r, f.c) ∧ 60000 ≤ f.v ∧ f.v < 260000
 | [], i, f, h => by simp [fillsF] at h
 | x :: l, i, f, h => by
  have up : ∀ f, f ∈ fillsF ws (i + 1) l → ∃ k : Nat, i ≤ k ∧ atW ws (k : Int) = some (f.n, f.r, f.c) ∧ 60000 ≤ f.v ∧ f.v < 260000 := fun f hf => by
   obtain ⟨k, h1, h2⟩ := fills_mem ws l (i + 1) f hf
   exact ⟨k, by omega, h2⟩
  unfold fillsF at h
  cases hat : atW ws (i : Int) with
  | none => rw [hat] at h; exact up f h
  | some p =>
   obtain ⟨n, r, c⟩ := p
   rw [hat] at h
   dsimp only at h
   by_cases hx : 0 < x % 6
   ·rw [if_pos hx] at h
    rcases List.mem_cons.1 h with rfl | h
    ·exact ⟨i, Nat.le_refl _, hat, by simp only; omega, by simp only; omega⟩
    ·exact up f h
   ·rw [if_neg hx] at h
    exact up f h
theorem index_same : ∀ (ws : List Wr) (K : Int) (n m : ByteArray) (r c : Int), n.toList = m.toList → indexW ws K n r c = indexW ws K m r c
 | [], _, _, _, _, _, _ => rfl
 | w :: ws, K, n, m, r, c, h => by rw [indexW, indexW, h, index_same ws _ n m r c h]
theorem fills_apart (ws : List Wr) (hb : ∀ x ∈ ws, wareB x) (ha : namesApart ws) : ∀ (l : List Nat) (i : Nat), (∀ j f, (fillsF ws i l)[j]? = some f → filledW ((fillsF ws i l).take j) f.n f.r f.c = false)
 | [], i => fun j f h => by simp [fillsF] at h
 | x :: l, i => by
  have ih := fills_apart ws hb ha l (i + 1)
  have hm := fills_mem ws l (i + 1)
  unfold fillsF
  cases hat : atW ws (i : Int) with
  | none => exact ih
  | some p =>
   obtain ⟨n, r, c⟩ := p
   dsimp only
   by_cases hx : 0 < x % 6
   ·rw [if_pos hx]
    intro j f hj
    cases j with
    | zero => rfl
    | succ j =>
     have hj' : (fillsF ws (i + 1) l)[j]? = some f := by simpa using hj
     have h1 := ih j f hj'
     obtain ⟨k, hk, hak, _⟩ := hm f (List.mem_of_getElem? hj')
     rw [List.take_succ_cons]
     unfold filledW at h1 ⊢
     rw [List.any_cons, h1, Bool.or_false]
     cases hh : ((n.toList == f.n.toList) && decide (r = f.r) && decide (c = f.c))
     ·rfl
     ·exfalso
      simp only [Bool.and_eq_true, decide_eq_true_eq, beq_iff_eq] at hh
      obtain ⟨⟨e1, rfl⟩, rfl⟩ := hh
      have i1 := at_index ws 0 _ _ _ _ hb ha hat
      have i2 := at_index ws 0 _ _ _ _ hb ha hak
      rw [index_same ws 0 n f.n _ _ e1] at i1
      rw [i1] at i2
      simp only [Option.some.injEq] at i2
      omega
   ·rw [if_neg hx]
    exact ih
theorem seat_names (a b c d : Int) : namesApart (wares7 a b c d) := by
 unfold wares7 namesApart namesApart namesApart
 refine ⟨fun v hv => ?_, fun v hv => by simp at hv, trivial⟩
 rcases List.mem_singleton.1 hv with rfl
 unfold namePlate nameTube
 rw [toList_data, toList_data]
 rfl
theorem seat_wares {a b c d : Int} (ha : 0 ≤ a ∧ a ≤ 255) (hb : 0 ≤ b ∧ b ≤ 255) (hc : 0 ≤ c ∧ c ≤ 255) (hd : 0 ≤ d ∧ d ≤ 255) : ∀ x ∈ wares7 a b c d, wareB x := by
 intro x hx
 unfold wares7 at hx
 simp only [List.mem_cons, List.not_mem_nil, or_false] at hx
 rcases hx with rfl | rfl
 ·unfold wareB; simp only; omega
 ·unfold wareB; simp only; omega
theorem nameS_plate : nameS namePlate = true := by kernel_rfl
theorem nameS_tube : nameS nameTube = true := by kernel_rfl
theorem nameS_t1 : nameS nameT1 = true := by kernel_rfl
theorem nameS_t2 : nameS nameT2 = true := by kernel_rfl
theorem seat_right {a b c d : Int} (ha : 0 ≤ a ∧ a ≤ 255) (hb : 0 ≤ b ∧ b ≤ 255) (hc : 0 ≤ c ∧ c ≤ 255) (hd : 0 ≤ d ∧ d ≤ 255) (l : List Nat) : rightD (seatD a b c d l) = true := by
 have hw := seat_wares ha hb hc hd
 have hn := seat_names a b c d
 have hf : fillsOk (wares7 a b c d) (fillsF (wares7 a b c d) 0 l) = true := by
  unfold fillsOk
  rw [List.all_eq_true]
  intro i hi
  have hlt := List.mem_range.1 hi
  have hF := List.getElem?_eq_getElem hlt
  rw [hF]
  generalize (fillsF (wares7 a b c d) 0 l)[i] = f at hF
  obtain ⟨k, _, hk, v1, v2⟩ := fills_mem _ l 0 f (List.mem_of_getElem? hF)
  have hi2 := at_index _ 0 _ _ _ _ hw hn hk
  have hap := fills_apart _ hw hn l 0 i f hF
  simp only [Bool.and_eq_true, inB_iff, Bool.not_eq_true']
  refine ⟨⟨?_, by omega, by omega⟩, hap⟩
  unfold hasW
  rw [hi2]
  rfl
 unfold rightD seatD
 simp only [Bool.and_eq_true, decide_eq_true_eq]
 refine ⟨⟨⟨⟨by unfold wares7; simp, ?_⟩, ?_⟩, ?_⟩, hf⟩
 ·unfold tips7; split <;> simp
 ·rw [apartW_iff]
  intro i w hw'
  unfold wares7 at hw' ⊢
  match i with
  | 0 =>
   obtain rfl : _ = w := by simpa using hw'
   refine ⟨?_, rfl⟩
   unfold wareOk
   simp only [nameS_plate, shape_right, Bool.and_true, Bool.true_and, Bool.and_eq_true, inB_iff]
   omega
  | 1 =>
   obtain rfl : _ = w := by simpa using hw'
   refine ⟨?_, ?_⟩
   ·unfold wareOk
    simp only [nameS_tube, shape_right, Bool.and_true, Bool.true_and, Bool.and_eq_true, inB_iff]
    omega
   ·unfold namedW namePlate nameTube
    simp only [List.take_succ_cons, List.take_zero, List.any_cons, List.any_nil, Bool.or_false]
    rw [toList_data, toList_data]
    rfl
  | n + 2 => simp at hw'
 ·rw [apartW_iff]
  intro i w hw'
  have ok1 : tipOk ⟨nameT1, cap7 c, filt7 d, err7 d, outerOf (c % 3).toNat⟩ = true := by
   unfold tipOk
   simp only [nameS_t1, outer_right, Bool.and_true, Bool.true_and, Bool.and_eq_true, inB_iff]
   unfold cap7 filt7 err7
   refine ⟨⟨?_, ?_⟩, ?_⟩ <;> (repeat' split) <;> omega
  have ok2 : tipOk ⟨nameT2, 50000, 40000, d % 30, outerOf (d % 3).toNat⟩ = true := by
   unfold tipOk
   simp only [nameS_t2, outer_right, Bool.and_true, Bool.true_and, Bool.and_eq_true, inB_iff]
   omega
  unfold tips7 at hw' ⊢
  match i with
  | 0 =>
   obtain rfl : _ = w := by simpa using hw'
   exact ⟨ok1, rfl⟩
  | 1 =>
   by_cases h5 : d % 5 = 0
   ·rw [if_pos h5] at hw'; simp at hw'
   ·rw [if_neg h5] at hw' ⊢
    obtain rfl : _ = w := by simpa using hw'
    refine ⟨ok2, ?_⟩
    unfold namedW nameT1 nameT2
    simp only [List.take_succ_cons, List.take_zero, List.any_cons, List.any_nil, Bool.or_false]
    rw [toList_data, toList_data]
    rfl
  | n + 2 =>
   by_cases h5 : d % 5 = 0
   ·rw [if_pos h5] at hw'; simp at hw'
   ·rw [if_neg h5] at hw'; simp at hw'
end Go.Proofs.YtalnfojaccfcjaaGreatDoor
namespace Go.Proofs.YtalnfojaccfcjaaGreatDoor
open Go.RowKit
theorem wpSeq_pass {P : Program} {ops : Array Oper} {Q : Exit → Act → World → Prop} {S : World → Prop} {l : List (Nat × Nat)} {t : List Value} {df : List _} {w : World} {i d : Nat} {o : Oper}
  (ho : ops.toList[i]? = some o) (hd : o.dst = some d) (hw : Region.wanted o (yielded ops t.toArray) = false)
  (h : wpSeq P ops Q S l { tmps := (t.set d undef).toArray, defers := df } w) : wpSeq P ops Q S ((i, 1) :: l) { tmps := t.toArray, defers := df } w := by
 refine ⟨o, by rw [← Array.getElem?_toList]; exact ho, ?_⟩
 rw [if_neg (by decide), if_pos rfl]
 refine ⟨hw, ?_⟩
 have e : Act.put { tmps := t.toArray, defers := df } o.dst undef = { tmps := (t.set d undef).toArray, defers := df } := by
  rw [hd]; simp [Act.put]
 rw [e]
 exact h
end Go.Proofs.YtalnfojaccfcjaaGreatDoor
namespace Go.Proofs.YtalnfojaccfcjaaGreatDoor
open Go.RowKit
def decS (n : Nat) : ByteArray := ⟨(Lib.decDigits n).toArray⟩
theorem decS_small : ∀ n : Nat, n < 10 → ({ data := #[48, 49, 50, 51, 52, 53, 54, 55, 56, 57] } : ByteArray).extract n (n + 1) = decS n := by
 intro n hn
 have e : decS n = ⟨#[UInt8.ofNat (48 + n)]⟩ := by unfold decS; rw [Lib.decDigits, dif_pos hn]
 rw [e]
 have : n = 0 ∨ n = 1 ∨ n = 2 ∨ n = 3 ∨ n = 4 ∨ n = 5 ∨ n = 6 ∨ n = 7 ∨ n = 8 ∨ n = 9 := by omega
 rcases this with rfl | rfl | rfl | rfl | rfl | rfl | rfl | rfl | rfl | rfl <;> rfl
theorem decS_app {n q r : Nat} (h : 10 ≤ n) (hq : q = n / 10) (hr : r = n % 10) : decS q ++ decS r = decS n := by
 apply ByteArray.ext
 rw [ByteArray.data_append]
 have e1 : Lib.decDigits n = Lib.decDigits (n / 10) ++ [UInt8.ofNat (48 + n % 10)] := by rw [Lib.decDigits.eq_def n, dif_neg (by omega)]
 have e2 : Lib.decDigits (n % 10) = [UInt8.ofNat (48 + n % 10)] := by rw [Lib.decDigits.eq_def (n % 10), dif_pos (by omega)]
 unfold decS
 subst hq hr
 rw [e1, e2]
 simp
theorem decS_size {n : Nat} (h : n ≤ 10000000000000) : (decS n).size ≤ 20 := by
 have e : (decS n).size = (Lib.decDigits n).length := by simp [decS, ByteArray.size]
 rw [e, Lib.decDigits_length]
 exact Lib.nDigits_le20 n (by omega)
theorem slice_digit {n : Nat} (c : n < 10) (w : World) : (Instr.slice 9 (.string { data := #[48, 49, 50, 51, 52, 53, 54, 55, 56, 57] }) (some (.int .i64 (n : Int))) (some (.int .i64 ((n : Int) + 1))) none).run Tryz.prog w = .ok (.string (decS n)) w := by
 have hs : ({ data := #[48, 49, 50, 51, 52, 53, 54, 55, 56, 57] } : ByteArray).size = 10 := rfl
 rw [run_slice_string w 9 _ .i64 .i64 (n : Int) ((n : Int) + 1) Tryz.underlying9 (by omega) (by omega) (by rw [hs]; omega), ← decS_small n c]
 rw [show ((n : Int) + 1).toNat = n + 1 by omega, Int.toNat_natCast]
theorem r8dec_any : ∀ (f n : Nat), n ≤ f → n ≤ 10000000000000 → ∀ w : World, Calls Tryz.prog 66 #[.int .i64 (n : Int)] w fun e w' => e = .returned (.string (decS n)) ∧ w = w' := by
 intro f
 induction f with
 | zero =>
  intro n hf hn w
  obtain rfl : n = 0 := by omega
  have e := decS_small 0 (by decide)
  go_enter Tryz.func66, Tryz.ntmps66
  go_wp2
  go_ret
  exact ⟨by rw [← e]; rfl, rfl⟩
 | succ f ih =>
  intro n hf hn w
  by_cases c : n < 10
  ·have e := slice_digit c
   have cB : decide ((n : Int) < 10) = true := decide_eq_true (by omega)
   have wk : IntKind.i64.wrap ((n : Int) + 1) = (n : Int) + 1 := by rw [IntKind.wrap_i64]; omega
   clear ih hf hn c
   go_enter Tryz.func66, Tryz.ntmps66
   go_wp2
   go_ret
   exact ⟨rfl, rfl⟩
  ·obtain ⟨q, hq⟩ : ∃ q, q = n / 10 := ⟨_, rfl⟩
   obtain ⟨r, hr⟩ : ∃ r, r = n % 10 := ⟨_, rfl⟩
   have e := Lib.hid (decS_app (by omega) hq hr)
   have cB : decide ((n : Int) < 10) = false := decide_eq_false (by omega)
   have tq : (n : Int).tdiv 10 = (q : Int) := by rw [Int.tdiv_eq_ediv_of_nonneg (by omega)]; omega
   have tr : (n : Int).tmod 10 = (r : Int) := by rw [Int.tmod_eq_emod_of_nonneg (by omega)]; omega
   have wq : IntKind.i64.wrap (q : Int) = (q : Int) := by rw [IntKind.wrap_i64]; omega
   have wr : IntKind.i64.wrap (r : Int) = (r : Int) := by rw [IntKind.wrap_i64]; omega
   have hsz : ¬ 9223372036854775807 < (decS q).size + (decS r).size := by
    have := decS_size (n := q) (by omega)
    have := decS_size (n := r) (by omega)
    omega
   have c1 := ih q (by omega) (by omega)
   have c2 := ih r (by omega) (by omega)
   clear ih hf hn hq hr
   go_enter Tryz.func66, Tryz.ntmps66
   go_wp2_with fail
   refine (c1 _).mono ?_
   rintro e1 w1 ⟨rfl, rfl⟩
   go_wp2_with fail
   refine (c2 _).mono ?_
   rintro e1 w1 ⟨rfl, rfl⟩
   go_wp2_with fail
   go_ret
   exact ⟨by rw [← e.out]; rfl, rfl⟩
end Go.Proofs.YtalnfojaccfcjaaGreatDoor
namespace Go.Proofs.YtalnfojaccfcjaaGreatDoor
open Go.RowKit
theorem strB_app (a b : List UInt8) : strB a ++ strB b = strB (a ++ b) := by
 apply ByteArray.ext
 rw [ByteArray.data_append]
 simp [strB]
theorem decS_strB (n : Nat) : decS n = strB (decI n) := by unfold decS decI strB; rw [Int.toNat_natCast]
theorem take_flat {α β : Type} {l : List α} {f : α → List β} {i : Nat} {x : α} (h : l[i]? = some x) : (l.take (i + 1)).flatMap f = (l.take i).flatMap f ++ f x := by
 rw [List.take_add_one, h]
 simp
end Go.Proofs.YtalnfojaccfcjaaGreatDoor
