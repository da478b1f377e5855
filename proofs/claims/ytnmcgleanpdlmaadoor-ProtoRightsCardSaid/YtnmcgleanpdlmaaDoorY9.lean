/-
  The words of lines that were said word by word. No program is named here; A deck that is right comes back from its text. No program is named here; A well's text, taken apart. No program is named here; A deck that is right comes back from its lines, and what stands behind them is left. No program is named here; The statements' decks are right ones; each number has its well, each well its number; What decks and steps say: their lines are words, and are read back. No program is named here; Contract of the document's number of wells; The statements' steps of pieces: right ones. No program is named here but for the deck's own texts; How long the statements' sources are. No program is named here; Right steps come back from their lines. No program is named here; How long right steps' text is at most. No program is named here; Wells in rows that the call owns: made, set, one by one. No program is named here; The block of an own row that is not empty. No program is named here; Arguments opened: a slice of steps.
-/
import Derived.Test.YtnmcgleanpdlmaaDoorChecked
import Derived.Lib.Hide
import Derived.KernelRfl
import Derived.Deep.QuietTactic
import Derived.BigQuiet
import Derived.Laws.Strings2
import Derived.Laws.Slices
import Derived.ProofKit
import Derived.OpenShut
import Derived.Deep.Slices
import Derived.ChangeArms
import Derived.Test.YtnmcgleanpdlmaaDoorY1
import Derived.Test.YtnmcgleanpdlmaaDoorY2
import Derived.Test.YtnmcgleanpdlmaaDoorY3
import Derived.Test.YtnmcgleanpdlmaaDoorY4
import Derived.Test.YtnmcgleanpdlmaaDoorY5
import Derived.Test.YtnmcgleanpdlmaaDoorY6
import Derived.Test.YtnmcgleanpdlmaaDoorY7
import Derived.Test.YtnmcgleanpdlmaaDoorY8
namespace Go.Proofs.YtnmcgleanpdlmaaDoor
open Go.RowKit
def partW (w : List UInt8) : Prop := w ≠ [] ∧ ∀ c ∈ w, partN c.toNat = true
/-- Where the words of a line stand. -/
def placeT : Nat → List (List UInt8) → List Wd
  | _, [] => []
  | p, w :: ws => (p, w) :: placeT (p + w.length + 1) ws
theorem placeT_texts : ∀ (p : Nat) (ws : List (List UInt8)), (placeT p ws).map Prod.snd = ws
  | _, [] => rfl
  | p, w :: ws => by show w :: (placeT _ ws).map Prod.snd = _; rw [placeT_texts]
theorem scan_app : ∀ (w rest : List UInt8) (p : Nat) (out : List (List Wd)) (line : List Wd) (v : List UInt8), (∀ c ∈ w, partN c.toNat = true) → scan (w ++ rest) p out line v false = scan rest (p + w.length) out line (v ++ w) false
  | [], rest, p, out, line, v, _ => by simp
  | c :: w, rest, p, out, line, v, h => by
    have hc := h c List.mem_cons_self
    show scan (c :: (w ++ rest)) p out line v false = _
    rw [scan, if_neg (part_cases hc).1, if_neg (by decide), if_pos hc, scan_app w rest (p + 1) out line (v ++ [c]) fun x hx => h x (List.mem_cons_of_mem _ hx)]
    rw [List.append_assoc, List.length_cons, Nat.add_assoc, Nat.add_comm 1]
    rfl
theorem scan_blank (rest : List UInt8) (q : Nat) (out : List (List Wd)) (line : List Wd) (v : List UInt8) : scan (32 :: rest) q out line v false = scan rest (q + 1) out (flushW line q v) [] false := by
  rw [scan, if_neg (by decide), if_neg (by decide), if_neg (by decide), if_neg (by decide), if_pos (by decide)]
theorem scan_lf (rest : List UInt8) (q : Nat) (out : List (List Wd)) (line : List Wd) (v : List UInt8) : scan (10 :: rest) q out line v false = scan rest (q + 1) (flushL out (flushW line q v)) [] [] false := by
  rw [scan, if_pos (by decide)]
theorem flush_at {line : List Wd} {p : Nat} {w : List UInt8} (h : w ≠ []) : flushW line (p + w.length) w = line ++ [(p, w)] := by
  unfold flushW
  rw [if_neg h, Nat.add_sub_cancel]
theorem scan_line : ∀ (ws : List (List UInt8)) (rest : List UInt8) (p : Nat) (out : List (List Wd)) (line : List Wd), ws ≠ [] → (∀ w ∈ ws, partW w) →
    scan (lineT ws ++ rest) p out line [] false = scan rest (p + (lineT ws).length) (out ++ [line ++ placeT p ws]) [] [] false
  | [], _, _, _, _, h, _ => absurd rfl h
  | [w], rest, p, out, line, _, h => by
    obtain ⟨h1, h2⟩ := h w List.mem_cons_self
    show scan (w ++ [10] ++ rest) p out line [] false = _
    rw [List.append_assoc, scan_app w _ p out line [] h2, List.nil_append]
    show scan (10 :: rest) _ _ _ _ _ = _
    rw [scan_lf, flush_at h1, flushL_some (by simp)]
    show scan rest (p + w.length + 1) _ _ _ _ = scan rest (p + (w ++ [10]).length) _ _ _ _
    rw [List.length_append, Nat.add_assoc]
    rfl
  | w :: x :: ws, rest, p, out, line, _, h => by
    obtain ⟨h1, h2⟩ := h w List.mem_cons_self
    show scan (w ++ 32 :: lineT (x :: ws) ++ rest) p out line [] false = _
    rw [List.append_assoc, scan_app w _ p out line [] h2, List.nil_append]
    show scan (32 :: (lineT (x :: ws) ++ rest)) _ _ _ _ _ = _
    rw [scan_blank, flush_at h1, scan_line (x :: ws) rest (p + w.length + 1) out (line ++ [(p, w)]) (by simp) fun y hy => h y (List.mem_cons_of_mem _ hy)]
    have e : p + w.length + 1 + (lineT (x :: ws)).length = p + (lineT (w :: x :: ws)).length := by
      show _ = p + (w ++ 32 :: lineT (x :: ws)).length
      rw [List.length_append, List.length_cons]
      omega
    rw [e, List.append_assoc]
    rfl
/-- Where the words of lines stand. -/
def placeL : Nat → List (List (List UInt8)) → List (List Wd)
  | _, [] => []
  | p, l :: L => placeT p l :: placeL (p + (lineT l).length) L
theorem scan_lines : ∀ (L : List (List (List UInt8))) (rest : List UInt8) (p : Nat) (out : List (List Wd)), (∀ l ∈ L, l ≠ [] ∧ ∀ w ∈ l, partW w) →
    scan (L.flatMap lineT ++ rest) p out [] [] false = scan rest (p + (L.flatMap lineT).length) (out ++ placeL p L) [] [] false
  | [], rest, p, out, _ => by simp [placeL]
  | l :: L, rest, p, out, h => by
    obtain ⟨h1, h2⟩ := h l List.mem_cons_self
    show scan (lineT l ++ L.flatMap lineT ++ rest) p out [] [] false = _
    rw [List.append_assoc, scan_line l _ p out [] h1 h2, scan_lines L rest _ _ fun x hx => h x (List.mem_cons_of_mem _ hx)]
    have e : p + (lineT l).length + (L.flatMap lineT).length = p + ((l :: L).flatMap lineT).length := by
      show _ = p + (lineT l ++ L.flatMap lineT).length
      rw [List.length_append]
      omega
    rw [e, List.nil_append, List.append_assoc]
    rfl
theorem lines_said {L : List (List (List UInt8))} (h : ∀ l ∈ L, l ≠ [] ∧ ∀ w ∈ l, partW w) (hl : (L.flatMap lineT).length ≤ 65536) : linesB (L.flatMap lineT) = (placeL 0 L, 0, 0) := by
  have := scan_lines L [] 0 [] h
  rw [List.append_nil, List.nil_append] at this
  unfold linesB
  rw [if_neg (by omega), this]
  rfl
theorem placeL_texts : ∀ (p : Nat) (L : List (List (List UInt8))), (placeL p L).map (List.map Prod.snd) = L
  | _, [] => rfl
  | p, l :: L => by show (placeT p l).map Prod.snd :: (placeL _ L).map _ = _; rw [placeT_texts, placeL_texts]
end Go.Proofs.YtnmcgleanpdlmaaDoor

namespace Go.Proofs.YtnmcgleanpdlmaaDoor
open Go.RowKit
theorem strB_list (n : ByteArray) : strB n.data.toList = n := rfl
theorem dec_ok {x : Int} (h0 : 0 ≤ x) (h1 : x ≤ 1000000000000) : numOk (strB (decI x)) = true ∧ ((numV (strB (decI x)) : Nat) : Int) = x := by
  obtain ⟨a, b⟩ := digs_num (n := x.toNat) (by omega)
  refine ⟨a, ?_⟩
  unfold decI
  rw [b]
  omega
/-- The sections of one, read one by one. -/
def addS (d : Dk) (o : Nat) (l : List Sec) : Dk := l.foldl (fun d s => d.add o s) d
end Go.Proofs.YtnmcgleanpdlmaaDoor

namespace Go.Proofs.YtnmcgleanpdlmaaDoor
open Go.RowKit
/-- How far a name goes in a text. -/
def dotAt (l : List UInt8) : Nat := (l.takeWhile fun c => decide (c.toNat ≠ 46)).length
theorem dot_le (l : List UInt8) : dotAt l ≤ l.length := by
  unfold dotAt
  exact (List.takeWhile_sublist _).length_le
theorem dot_is (l : List UInt8) : ∀ k, (∀ j c, j < k → l[j]? = some c → c.toNat ≠ 46) → k ≤ l.length → (l.length ≤ k ∨ ∃ c, l[k]? = some c ∧ c.toNat = 46) → dotAt l = k := by
  induction l with
  | nil => intro k _ hk _; simp at hk; subst hk; rfl
  | cons x l ih =>
    intro k h hk he
    unfold dotAt
    match k with
    | 0 =>
      rcases he with he | ⟨c, hc, h46⟩
      · simp at he
      · simp at hc; subst hc
        rw [List.takeWhile_cons, if_neg (by simp [h46])]
        rfl
    | k + 1 =>
      have hx := h 0 x (by omega) rfl
      rw [List.takeWhile_cons, if_pos (by simp [hx])]
      have := ih k (fun j c hj hc => h (j + 1) c (by omega) (by simpa using hc)) (by simpa using hk) (by
        rcases he with he | ⟨c, hc, h46⟩
        · exact .inl (by simpa using he)
        · exact .inr ⟨c, by simpa using hc, h46⟩)
      unfold dotAt at this
      rw [List.length_cons, this]
theorem take_dot (l : List UInt8) : l.takeWhile (fun c => decide (c.toNat ≠ 46)) = l.take (dotAt l) := by
  unfold dotAt
  exact (List.takeWhile_eq_take_findIdx_not ..) |>.trans (by
    congr 1
    rw [List.takeWhile_eq_take_findIdx_not, List.length_take]
    have := List.findIdx_le_length (p := fun c : UInt8 => !decide (c.toNat ≠ 46)) (xs := l)
    omega)
theorem strB_sub (l : List UInt8) (a b : Nat) : (strB l).extract a b = strB ((l.drop a).take (b - a)) := by
  apply ByteArray.ext
  apply Array.ext'
  rw [Go.Lib.extract_data]
  rfl
theorem well_long {l : List UInt8} {k : Nat} {r : UInt8} (hk : dotAt l = k) (hr : l[k + 1]? = some r) : wellL l = if nameS (strB (l.take k)) = true ∧ 65 ≤ r.toNat ∧ r.toNat ≤ 72 ∧ numOk (strB (l.drop (k + 2))) = true ∧ 1 ≤ numV (strB (l.drop (k + 2))) ∧ numV (strB (l.drop (k + 2))) ≤ 12 then some (l.take k, r.toNat - 65, numV (strB (l.drop (k + 2))) - 1) else none := by
  unfold wellL
  simp only
  rw [take_dot, List.length_take, Nat.min_eq_left (dot_le l), hk]
  have e : l.drop (k + 1) = r :: l.drop (k + 2) := by
    obtain ⟨h, rfl⟩ := List.getElem?_eq_some_iff.1 hr
    rw [List.drop_eq_getElem_cons h]
  rw [e]
/-- What a well's text tells. -/
def WellRes (l : List UInt8) (w : World) (e : Ending) (w' : World) : Prop :=
  (∃ n r c, wellL l = some (n, r, c) ∧ e = .returned (.tuple #[.agg #[.string (strB n), .int .i64 ((r : Nat) : Int), .int .i64 ((c : Nat) : Int)], .bool true]) ∧ B w w') ∨
  (wellL l = none ∧ e = .returned (.tuple #[.agg #[.string ⟨#[]⟩, .int .i64 0, .int .i64 0], .bool false]) ∧ B w w')
end Go.Proofs.YtnmcgleanpdlmaaDoor

namespace Go.Proofs.YtnmcgleanpdlmaaDoor
open Go.RowKit
theorem name_byte {n : ByteArray} (h : nameS n = true) : ∀ c ∈ n.data.toList, c.toNat ≠ 46 ∧ partN c.toNat = true := by
  intro c hc
  unfold nameS at h
  simp only [Bool.and_eq_true, List.all_eq_true, List.mem_range] at h
  obtain ⟨i, hi⟩ := List.getElem?_of_mem hc
  have hlt := (List.getElem?_eq_some_iff.1 hi).1
  have := h.2 i hlt
  rw [show byteAt n i = c.toNat from byteAt_lst n.data.toList i c hi] at this
  constructor
  · intro e
    rw [e] at this
    exact absurd this (by decide)
  · unfold partN
    rcases Bool.or_eq_true_iff.1 this with h1 | h1 <;> rw [h1] <;> simp
theorem well_said {n : ByteArray} {r c : Int} (hn : nameS n = true) (hr : 0 ≤ r ∧ r < 8) (hc : 0 ≤ c ∧ c < 12) : wellL (wellT n r c) = some (n.data.toList, r.toNat, c.toNat) := by
  have hw : wellT n r c = n.data.toList ++ (46 :: UInt8.ofNat (65 + r.toNat) :: decI (c + 1)) := by
    unfold wellT
    rw [if_pos ⟨hn, hr.1, hr.2, hc.1, hc.2⟩]
    simp
  have hdot : dotAt (wellT n r c) = n.data.toList.length := by
    refine dot_is _ _ (fun j x hj hx => ?_) (by rw [hw]; simp) (.inr ⟨46, ?_, rfl⟩)
    · rw [hw, List.getElem?_append_left hj] at hx
      exact (name_byte hn x (List.mem_of_getElem? hx)).1
    · rw [hw, List.getElem?_append_right (Nat.le_refl _)]
      simp
  have hg : (wellT n r c)[n.data.toList.length + 1]? = some (UInt8.ofNat (65 + r.toNat)) := by
    rw [hw, List.getElem?_append_right (by omega)]
    simp
  rw [well_long hdot hg]
  have e1 : (wellT n r c).take n.data.toList.length = n.data.toList := by rw [hw, List.take_left]
  have e2 : (wellT n r c).drop (n.data.toList.length + 2) = decI (c + 1) := by
    rw [hw, List.drop_append]
    simp
  have e3 : (UInt8.ofNat (65 + r.toNat)).toNat = 65 + r.toNat := by rw [UInt8.toNat_ofNat']; omega
  obtain ⟨d1, d2⟩ := dec_ok (x := c + 1) (by omega) (by omega)
  rw [e1, e2, e3, if_pos ⟨hn, by omega, by omega, d1, by omega, by omega⟩]
  congr 2
  congr 1
  · omega
  · omega
end Go.Proofs.YtnmcgleanpdlmaaDoor

namespace Go.Proofs.YtnmcgleanpdlmaaDoor
open Go.RowKit
set_option linter.unusedVariables false
theorem seat_wares {a b c d : Int} (ha : 0 ≤ a ∧ a ≤ 255) (hb : 0 ≤ b ∧ b ≤ 255) (hc : 0 ≤ c ∧ c ≤ 255) (hd : 0 ≤ d ∧ d ≤ 255) : ∀ x ∈ wares7 a b c d, wareB x := by
  intro x hx
  unfold wares7 at hx
  simp only [List.mem_cons, List.not_mem_nil, or_false] at hx
  rcases hx with rfl | rfl
  · unfold wareB; simp only; omega
  · unfold wareB; simp only; omega
theorem nameS_plate : nameS namePlate = true := by kernel_rfl
theorem nameS_tube : nameS nameTube = true := by kernel_rfl
end Go.Proofs.YtnmcgleanpdlmaaDoor

namespace Go.Proofs.YtnmcgleanpdlmaaDoor
open Go.RowKit
set_option linter.unusedVariables false
theorem part_low {c : Nat} (h : lowN c = true) : partN c = true := by unfold partN; rw [h]; rfl
theorem part_dig {c : Nat} (h : digN c = true) : partN c = true := by unfold partN; rw [h]; simp
theorem part_cap {c : Nat} (h : 65 ≤ c ∧ c ≤ 90) : partN c = true := by unfold partN capN; simp; omega
theorem part_dec (x : Int) : partW (decI x) := by
  unfold decI
  refine ⟨fun e => ?_, fun c hc => ?_⟩
  · have := dec_lng x.toNat
    rw [e] at this
    simp at this
  · have := dec_dgs x.toNat x.toNat (Nat.le_refl _) c hc
    exact part_dig (by unfold digN; simp; omega)
theorem part_name {n : ByteArray} (h : nameS n = true) : partW n.data.toList := by
  unfold nameS at h
  simp only [Bool.and_eq_true, decide_eq_true_eq, List.all_eq_true, Bool.or_eq_true] at h
  obtain ⟨⟨⟨h1, _⟩, _⟩, h4⟩ := h
  have e : n.data.toList.length = n.size := Array.length_toList
  refine ⟨fun h0 => by rw [h0] at e; simp at e; omega, fun c hc => ?_⟩
  obtain ⟨i, hi, rfl⟩ := List.getElem_of_mem hc
  have hi' : i < n.size := by omega
  have h5 := h4 i (List.mem_range.2 hi')
  have hb : (n.data.toList[i]).toNat = byteAt n i := by
    rw [← byteAt_get n i hi']
    congr 1
  rw [hb]
  rcases h5 with h5 | h5
  · exact part_low h5
  · exact part_dig h5
theorem part_well {n : ByteArray} {r c : Int} (h : (wellT n r c).isEmpty = false) : partW (wellT n r c) := by
  unfold wellT at h ⊢
  split at h
  · rename_i hk
    rw [if_pos hk]
    obtain ⟨hn, h0, h8, _, _⟩ := hk
    have k1 := part_name hn
    have k2 := part_dec (c + 1)
    refine ⟨by simp, fun x hx => ?_⟩
    simp only [List.mem_append, List.mem_cons, List.not_mem_nil, or_false] at hx
    rcases hx with (hx | rfl | rfl) | hx
    · exact k1.2 x hx
    · rfl
    · refine part_cap ?_
      have e : (UInt8.ofNat (65 + r.toNat)).toNat = 65 + r.toNat := by rw [UInt8.toNat_ofNat']; omega
      rw [e]
      omega
    · exact k2.2 x hx
  · simp at h
theorem part_const {l : List UInt8} (h : (!l.isEmpty && l.all fun c => partN c.toNat) = true) : partW l := by
  simp only [Bool.and_eq_true, List.all_eq_true] at h
  refine ⟨fun e => by rw [e] at h; simp at h, h.2⟩
/-- So are right steps'. -/
theorem step_words {s : Sp} (h : stepOk s = true) : stepL s ≠ [] ∧ ∀ w ∈ stepL s, partW w := by
  unfold stepOk at h
  simp only [Bool.and_eq_true] at h
  obtain ⟨hw, hk⟩ := h
  have hws : ∀ p ∈ s.w, partW p.t := fun p hp => by
    unfold wellsOk at hw
    rw [List.all_eq_true] at hw
    have := hw p hp
    exact part_well (by simpa [Wp.t] using this)
  have hkind : partW (kindW s.k) := by
    unfold kindW
    repeat' split
    all_goals exact part_const (by decide)
  unfold stepL
  refine ⟨by simp, fun w hw => ?_⟩
  rcases List.mem_cons.1 hw with rfl | hw
  · exact hkind
  unfold stepW at hw
  by_cases k0 : s.k = 0
  · rw [if_pos k0] at hw
    obtain rfl := List.mem_singleton.1 hw
    unfold stepK at hk
    rw [if_pos k0] at hk
    simp only [Bool.and_eq_true] at hk
    exact part_name hk.1.1.1
  rw [if_neg k0] at hw
  have hm : ∀ (l : List Wp), (∀ p ∈ l, p ∈ s.w) → ∀ w ∈ l.map Wp.t, partW w := fun l hl w hw => by
    obtain ⟨p, hp, rfl⟩ := List.mem_map.1 hw
    exact hws p (hl p hp)
  by_cases k1 : s.k = 1
  · rw [if_pos k1] at hw
    obtain rfl := List.mem_singleton.1 hw
    split <;> exact part_const (by decide)
  rw [if_neg k1] at hw
  by_cases k6 : s.k = 6
  · rw [if_pos k6] at hw
    rcases List.mem_cons.1 hw with rfl | hw
    · exact part_dec _
    · exact hm s.w (fun _ h => h) w hw
  rw [if_neg k6] at hw
  by_cases k2 : s.k = 2
  · rw [if_pos k2] at hw
    rcases List.mem_append.1 hw with hw | hw
    · exact hm s.w (fun _ h => h) w hw
    · obtain rfl := List.mem_singleton.1 hw
      exact part_dec _
  rw [if_neg k2] at hw
  by_cases k5 : s.k = 5
  · rw [if_pos k5] at hw
    rcases List.mem_append.1 hw with hw | hw
    · exact hm s.w (fun _ h => h) w hw
    · simp only [List.mem_cons, List.not_mem_nil, or_false] at hw
      rcases hw with rfl | rfl <;> exact part_dec _
  rw [if_neg k5] at hw
  rcases List.mem_append.1 hw with hw | hw
  · rcases List.mem_append.1 hw with hw | hw
    · exact hm _ (fun p hp => List.mem_of_mem_take hp) w hw
    · obtain rfl := List.mem_singleton.1 hw
      exact part_dec _
  · exact hm _ (fun p hp => List.mem_of_mem_drop hp) w hw
end Go.Proofs.YtnmcgleanpdlmaaDoor

namespace Go.Proofs.YtnmcgleanpdlmaaDoor
open Go.RowKit
set_option linter.unusedVariables false
/-- How many wells there are. -/
def countW : List Wr → Int
  | [] => 0
  | w :: ws => w.x * w.y + countW ws
theorem count_take {ws : List Wr} {i : Nat} {F : Wr} (h : ws[i]? = some F) : countW (ws.take (i + 1)) = countW (ws.take i) + F.x * F.y := by
  have e : ∀ (l : List Wr) (r : Wr), countW (l ++ [r]) = countW l + r.x * r.y := fun l r => by
    induction l with
    | nil => simp [countW]
    | cons x l ih => show x.x * x.y + countW (l ++ [r]) = x.x * x.y + countW l + _; rw [ih]; omega
  rw [List.take_add_one, h]
  exact e _ _
set_option maxRecDepth 100000 in
set_option maxHeartbeats 2000000 in
theorem r8count_any (wv tv fv : Value) (d : Dk) (w : World) (h : IsDk w wv tv fv d) (hb : ∀ x ∈ d.ws, wareB x) (h100 : d.ws.length ≤ 100) : Calls Tryd.prog 16 #[.agg #[wv, tv, fv]] w fun e w' => e = .returned (.int .i64 (countW d.ws)) ∧ B w w' := by
  obtain ⟨ao, ac, bo, bc, co, cc, rfl, rfl, rfl⟩ := h.forms
  have hQ := (B.refl w).alloc #[.slice ao d.ws.length ac, .slice bo d.ts.length bc, .slice co d.fs.length cc] 33
  have hR := h.ws.keepB hQ
  have oD := obj_new w (.cells #[.slice ao d.ws.length ac, .slice bo d.ts.length bc, .slice co d.fs.length cc] 33)
  obtain ⟨W, hW⟩ : ∃ W, w.alloc (.cells #[.slice ao d.ws.length ac, .slice bo d.ts.length bc, .slice co d.fs.length cc] 33) = W := ⟨_, rfl⟩
  rw [hW] at hR hQ oD
  clear h
  go_enter Tryd.func16, Tryd.ntmps16
  go_wp2_with fail
  try rw [hW]
  clear hW
  generalize w.heap.size = H at *
  go_loopw [3, 4] (fun nv iv wr => ∃ (i : Nat) (K : Int), i ≤ d.ws.length ∧ iv = .int .i64 i ∧ nv = .int .i64 K ∧ 0 ≤ K ∧ K ≤ 96 * (i : Int) ∧ K = countW (d.ws.take i) ∧ Dr W wr) (fun _ iv _ => d.ws.length + 1 - (intOf iv).toNat)
  case atStart => exact ⟨0, 0, Nat.zero_le _, rfl, rfl, by omega, by omega, rfl, Dr.refl _⟩
  case round =>
    obtain ⟨i, K, hi, rfl, rfl, hK0, hK1, hKe, n, rfl⟩ := hrel
    have k0 : (W.drewN n).cell? ⟨H, 0, none⟩ = some (.slice ao d.ws.length ac) := obj_cell (w := W.drewN n) oD 0
    by_cases hl : i < d.ws.length
    · have hlB : decide ((i : Int) < (d.ws.length : Int)) = true := decide_eq_true (by omega)
      have hlI : (i : Int) < (d.ws.length : Int) := by omega
      have hi0 : (0 : Int) ≤ (i : Int) := by omega
      have wk1 : IntKind.i64.wrap ((i : Int) + 1) = (i : Int) + 1 := by rw [IntKind.wrap_i64]; omega
      obtain ⟨a, cap, e1, _, _, hr⟩ := hR.at_ hl
      obtain ⟨rfl, _, rfl⟩ : ao = some a ∧ True ∧ ac = cap := by simpa using e1
      have hbi := hb _ (List.getElem_mem hl)
      have hT := count_take (ws := d.ws) (i := i) (List.getElem?_eq_getElem hl)
      obtain ⟨F, hF⟩ : ∃ F, d.ws[i] = F := ⟨_, rfl⟩
      rw [hF] at hr hbi hT
      obtain ⟨b1, b2, b3, b4⟩ := hbi
      obtain ⟨g1, g2, g3, _⟩ := hr
      obtain ⟨N, X, Y, Z, SL⟩ := F
      simp only at g2 g3 b1 b2 b3 b4 hT
      have g2' : ∀ m, (W.drewN m).cell? _ = _ := fun m => g2
      have g3' : ∀ m, (W.drewN m).cell? _ = _ := fun m => g3
      have hxy := mul_small (a := X) (b := Y) (by omega) b2 (by omega) b4
      rw [← hKe] at hT
      obtain ⟨P, hP⟩ : ∃ P, X * Y = P := ⟨_, rfl⟩
      rw [hP] at hxy hT
      have w1 : IntKind.i64.wrap (X * Y) = P := by rw [hP, IntKind.wrap_i64]; omega
      have w2 : IntKind.i64.wrap (K + P) = K + P := by rw [IntKind.wrap_i64]; omega
      have k0' : ∀ m, (W.drewN m).cell? ⟨H, 0, none⟩ = some (.slice (some a) d.ws.length ac) := fun m => k0
      have HX := Lib.hid (And.intro hT (And.intro (show 0 ≤ K + P ∧ K + P ≤ 96 * ((i : Int) + 1) by omega) hl))
      clear hT hKe hb hF e1 hP hxy hl hi
      go_wp2_with fail
      go_quiet (fail)
      go_wp2
      go_roundw
      case rel =>
        obtain ⟨h1, ⟨h2, h3⟩, h4⟩ := HX.out
        exact ⟨i + 1, K + P, by omega, by go_num, rfl, h2, by omega, h1.symm, _, rfl⟩
      case measure => have := HX.out; simp [intOf]; omega
    · have hlB : decide ((i : Int) < (d.ws.length : Int)) = false := decide_eq_false (by omega)
      have hlN : decide (i < d.ws.length) = false := decide_eq_false hl
      rw [List.take_of_length_le (by omega)] at hKe
      have HX := Lib.hid (And.intro hKe (hQ.drewN n))
      clear hKe hl
      go_wp2
      go_ret
      exact ⟨by rw [← HX.out.1]; rfl, HX.out.2⟩
end Go.Proofs.YtnmcgleanpdlmaaDoor

namespace Go.Proofs.YtnmcgleanpdlmaaDoor
open Go.RowKit
set_option linter.unusedVariables false
/-- A piece: of a protocol. -/
structure Pz where
  k : Nat
  a : Nat
  b : Nat
  c : Nat
  v : Nat
def wpAt (ws : List Wr) (i : Nat) : Wp := match atW ws (i : Int) with
  | some (n, r, c) => ⟨n, r, c⟩
  | none => ⟨⟨#[]⟩, 0, 0⟩
def pieceV (p : Pz) : Int := if p.v % 7 = 0 then ((p.v % 90000 + 1 : Nat) : Int) else ((p.v % 9000 + 1 : Nat) : Int)
def pieceW (ws : List Wr) (p : Pz) : List Wp := [wpAt ws (p.a % (countW ws).toNat), wpAt ws (p.b % (countW ws).toNat), wpAt ws (p.c % (countW ws).toNat)]
/-- A piece's step. -/
def pieceS (d : Dk) (p : Pz) : Sp :=
  if p.k % 10 = 0 then ⟨0, if p.a % 2 = 1 ∧ 2 ≤ d.ts.length then nameT2 else nameT1, [], 0, 0⟩
  else if p.k % 10 = 1 then ⟨1, ⟨#[]⟩, [], 0, ((p.a % 2 : Nat) : Int)⟩
  else if p.k % 10 = 2 then ⟨3, ⟨#[]⟩, pieceW d.ws p, pieceV p, 0⟩
  else if p.k % 10 = 3 then ⟨4, ⟨#[]⟩, pieceW d.ws p, pieceV p, 0⟩
  else if p.k % 10 = 4 then ⟨5, ⟨#[]⟩, (pieceW d.ws p).take 1, pieceV p, ((p.b % 3 + 1 : Nat) : Int)⟩
  else if p.k % 10 = 5 then ⟨6, ⟨#[]⟩, pieceW d.ws p, pieceV p, 0⟩
  else ⟨2, ⟨#[]⟩, (pieceW d.ws p).take 2, pieceV p, 0⟩
def seatSteps (d : Dk) (ps : List Pz) : List Sp := ⟨0, nameT1, [], 0, 0⟩ :: ps.map (pieceS d)
theorem at_some : ∀ (ws : List Wr) (k : Int), (∀ x ∈ ws, wareB x) → 0 ≤ k → k < countW ws → ∃ v ∈ ws, ∃ r c : Int, atW ws k = some (v.n, r, c) ∧ 0 ≤ r ∧ r < 8 ∧ 0 ≤ c ∧ c < 12
  | [], k, _, h0, h1 => by simp [countW] at h1; omega
  | w :: ws, k, hb, h0, h1 => by
    obtain ⟨b1, b2, b3, b4⟩ := hb w (List.mem_cons_self ..)
    rw [atW, if_neg (by omega)]
    by_cases h2 : k < w.x * w.y
    · rw [if_pos h2]
      have e1 := Int.emod_nonneg k (by omega : w.y ≠ 0)
      have e2 := Int.emod_lt_of_pos k (by omega : 0 < w.y)
      have e3 := Int.ediv_nonneg h0 (by omega : 0 ≤ w.y)
      have e4 : k / w.y < w.x := Int.ediv_lt_of_lt_mul (by omega) (by rw [Int.mul_comm] at h2; rw [Int.mul_comm]; exact h2)
      exact ⟨w, List.mem_cons_self .., _, _, rfl, e3, by omega, e1, by omega⟩
    · rw [if_neg h2]
      have h3 : countW (w :: ws) = w.x * w.y + countW ws := rfl
      obtain ⟨v, hv, r, c, h4⟩ := at_some ws (k - w.x * w.y) (fun x hx => hb x (List.mem_cons_of_mem _ hx)) (by omega) (by omega)
      exact ⟨v, List.mem_cons_of_mem _ hv, r, c, h4⟩
theorem wp_right {ws : List Wr} (hb : ∀ x ∈ ws, wareB x) (hn : ∀ x ∈ ws, nameS x.n = true) {i : Nat} (hi : (i : Int) < countW ws) : (wpAt ws i).t.isEmpty = false := by
  obtain ⟨v, hv, r, c, e, r0, r8, c0, c12⟩ := at_some ws i hb (by omega) hi
  unfold wpAt Wp.t
  rw [e]
  simp only
  unfold wellT
  rw [if_pos ⟨hn v hv, r0, r8, c0, c12⟩]
  simp
theorem piece_ok {d : Dk} (hb : ∀ x ∈ d.ws, wareB x) (hn : ∀ x ∈ d.ws, nameS x.n = true) (hc : 0 < countW d.ws) (p : Pz) : stepOk (pieceS d p) = true := by
  have hm : ∀ i : Nat, ((i % (countW d.ws).toNat : Nat) : Int) < countW d.ws := fun i => by
    have := Nat.mod_lt i (show 0 < (countW d.ws).toNat by omega)
    omega
  have hw : ∀ q ∈ pieceW d.ws p, q.t.isEmpty = false := fun q hq => by
    unfold pieceW at hq
    simp only [List.mem_cons, List.not_mem_nil, or_false] at hq
    rcases hq with rfl | rfl | rfl <;> exact wp_right hb hn (hm _)
  have ok : ∀ l : List Wp, (∀ q ∈ l, q ∈ pieceW d.ws p) → wellsOk l = true := fun l hl => by
    unfold wellsOk
    rw [List.all_eq_true]
    intro q hq
    rw [hw q (hl q hq)]
    rfl
  have hV : inB (pieceV p) 1 20000000 = true := by
    rw [inB_iff]
    unfold pieceV
    split <;> omega
  have hlen : (pieceW d.ws p).length = 3 := rfl
  have t1 : ((pieceW d.ws p).take 1).length = 1 := rfl
  have t2 : ((pieceW d.ws p).take 2).length = 2 := rfl
  have hE : (({ data := #[] } : ByteArray).toList == []) = true := by rw [toList_data]; rfl
  unfold pieceS stepOk
  split
  · simp only [wellsOk, List.all_nil, Bool.true_and]
    unfold stepK
    simp only [if_true]
    split <;> rfl
  split
  · simp only [wellsOk, List.all_nil, Bool.true_and]
    unfold stepK
    have h2 : p.a % 2 = 0 ∨ p.a % 2 = 1 := by omega
    rcases h2 with h2 | h2 <;> rw [h2] <;> simp
  split
  · rw [ok _ (fun _ h => h)]
    unfold stepK
    simp [hV, hlen]
  split
  · rw [ok _ (fun _ h => h)]
    unfold stepK
    simp [hV, hlen]
  split
  · rw [ok _ (fun _ h => List.mem_of_mem_take h)]
    unfold stepK
    have h3 : inB ((p.b % 3 + 1 : Nat) : Int) 1 20 = true := by rw [inB_iff]; omega
    simp only [hV, h3, t1, hE]
    simp
  split
  · rw [ok _ (fun _ h => h)]
    unfold stepK
    simp [hV, hlen]
  · rw [ok _ (fun _ h => List.mem_of_mem_take h)]
    unfold stepK
    simp only [hV, t2, hE]
    simp
theorem seat_steps_ok {d : Dk} (hb : ∀ x ∈ d.ws, wareB x) (hn : ∀ x ∈ d.ws, nameS x.n = true) (hc : 0 < countW d.ws) {ps : List Pz} (hp : ps.length ≤ 100) : stepsOk (seatSteps d ps) = true ∧ ∀ s ∈ seatSteps d ps, stepOk s = true := by
  have h : ∀ s ∈ seatSteps d ps, stepOk s = true := fun s hs => by
    unfold seatSteps at hs
    rw [List.mem_cons] at hs
    rcases hs with rfl | hs
    · rfl
    · obtain ⟨p, _, rfl⟩ := List.mem_map.1 hs
      exact piece_ok hb hn hc p
  refine ⟨?_, h⟩
  unfold stepsOk
  rw [Bool.and_eq_true, decide_eq_true_eq, List.all_eq_true]
  exact ⟨by unfold seatSteps; simp; omega, h⟩
end Go.Proofs.YtnmcgleanpdlmaaDoor

namespace Go.Proofs.YtnmcgleanpdlmaaDoor
open Go.RowKit
set_option linter.unusedVariables false
theorem kindW_len (k : Int) : (kindW k).length ≤ 8 := by
  unfold kindW
  repeat (first | (split) | decide)
theorem decI_len {x : Nat} (h : x ≤ 10000000000000) : (decI (x : Int)).length ≤ 20 := by
  have := decS_size h
  rw [decS_strB, strB_size] at this
  exact this
theorem lineT_ge (l : List (List UInt8)) : l.length ≤ (lineT l).length + 0 ∧ 1 ≤ (lineT l).length ∧ ∀ x ∈ l, x.length ≤ (lineT l).length := by
  cases l with
  | nil => exact ⟨by simp, by decide, fun x hx => by simp at hx⟩
  | cons w ws =>
    rw [lineT_words]
    have h : ∀ ws : List (List UInt8), ws.length ≤ (ws.flatMap fun x => 32 :: x).length ∧ ∀ x ∈ ws, x.length ≤ (ws.flatMap fun x => 32 :: x).length := by
      intro ws
      induction ws with
      | nil => exact ⟨by simp, fun x hx => by simp at hx⟩
      | cons y ws ih =>
        rw [List.flatMap_cons, List.length_append, List.length_cons, List.length_cons]
        refine ⟨by omega, fun x hx => ?_⟩
        rw [List.mem_cons] at hx
        rcases hx with rfl | hx
        · omega
        · have := ih.2 x hx; omega
    obtain ⟨h1, h2⟩ := h ws
    simp only [List.length_append, List.length_cons, List.length_nil]
    refine ⟨by omega, by omega, fun x hx => ?_⟩
    rw [List.mem_cons] at hx
    rcases hx with rfl | hx
    · omega
    · have := h2 x hx; omega
theorem flat_ge : ∀ (L : List (List (List UInt8))), L.length ≤ (L.flatMap lineT).length ∧ ∀ l ∈ L, (lineT l).length ≤ (L.flatMap lineT).length
  | [] => ⟨by simp, fun l hl => by simp at hl⟩
  | l :: L => by
    obtain ⟨h1, h2⟩ := flat_ge L
    have h3 := (lineT_ge l).2.1
    rw [List.flatMap_cons, List.length_append, List.length_cons]
    refine ⟨by omega, fun x hx => ?_⟩
    rw [List.mem_cons] at hx
    rcases hx with rfl | hx
    · omega
    · have := h2 x hx; omega
end Go.Proofs.YtnmcgleanpdlmaaDoor

namespace Go.Proofs.YtnmcgleanpdlmaaDoor
open Go.RowKit
set_option linter.unusedVariables false
theorem takeP_well (s : Sp) {p : Wp} (h : (!p.t.isEmpty) = true) : takeP s 2 p.t = ({ s with w := s.w ++ [p] }, 0) := by
  obtain ⟨n, r, c⟩ := p
  have ht : wellT n r c ≠ [] := by
    intro e
    rw [show Wp.t ⟨n, r, c⟩ = wellT n r c from rfl, e] at h
    cases h
  have hc : nameS n = true ∧ 0 ≤ r ∧ r < 8 ∧ 0 ≤ c ∧ c < 12 := by
    unfold wellT at ht
    split at ht
    · assumption
    · exact absurd rfl ht
  have hs := well_said hc.1 ⟨hc.2.1, hc.2.2.1⟩ ⟨hc.2.2.2.1, hc.2.2.2.2⟩
  unfold takeP
  rw [if_neg (by decide), if_neg (by decide), if_pos rfl, show Wp.t ⟨n, r, c⟩ = wellT n r c from rfl, hs]
  simp only [strB_list]
  rw [show ((r.toNat : Nat) : Int) = r by omega, show ((c.toNat : Nat) : Int) = c by omega]
theorem numP_said {v : Int} {m : Nat} (h0 : 1 ≤ v) (h1 : v ≤ (m : Int)) (hm : m ≤ 1000000) : numP m (decI v) = true ∧ ((numV (strB (decI v)) : Nat) : Int) = v := by
  obtain ⟨a, b⟩ := dec_ok (x := v) (by omega) (by omega)
  refine ⟨?_, b⟩
  unfold numP
  rw [a]
  simp only [Bool.true_and, Bool.and_eq_true, decide_eq_true_eq]
  omega
theorem takeP_vol (s : Sp) {v : Int} (h0 : 1 ≤ v) (h1 : v ≤ 20000000) : takeP s 3 (decI v) = ({ s with v := v }, 0) := by
  obtain ⟨a, b⟩ := dec_ok (x := v) (by omega) (by omega)
  have hn : numP 20000000 (decI v) = true := by
    unfold numP
    rw [a]
    simp only [Bool.true_and, Bool.and_eq_true, decide_eq_true_eq]
    omega
  unfold takeP
  rw [if_neg (by decide), if_neg (by decide), if_neg (by decide), if_pos rfl, if_pos hn, b]
theorem takeP_times (s : Sp) {v : Int} (h0 : 1 ≤ v) (h1 : v ≤ 20) : takeP s 4 (decI v) = ({ s with m := v }, 0) := by
  obtain ⟨a, b⟩ := numP_said (m := 20) h0 (by omega) (by omega)
  unfold takeP
  rw [if_neg (by decide), if_neg (by decide), if_neg (by decide), if_neg (by decide), if_pos a, b]
theorem readP_one {k i c : Nat} {s s' : Sp} {x : Wd} {ws : List Wd} (hc : toldP k i = c) (h : takeP s c x.2 = (s', 0)) : readP k i s (x :: ws) = readP k (i + 1) s' ws := by
  rw [readP, hc, h]
  rfl
theorem readP_wells : ∀ (l : List Wp) (k i : Nat) (s : Sp) (W rest : List Wd), W.map Prod.snd = l.map Wp.t → (∀ p ∈ l, (!p.t.isEmpty) = true) → (∀ j, i ≤ j → j < i + l.length → toldP k j = 2) →
    readP k i s (W ++ rest) = readP k (i + l.length) { s with w := s.w ++ l } rest
  | [], k, i, s, W, rest, hW, _, _ => by
    obtain rfl : W = [] := by simpa using hW
    simp
  | p :: l, k, i, s, W, rest, hW, hp, ht => by
    rcases W with _ | ⟨x, W⟩
    · simp at hW
    · simp only [List.map_cons, List.cons.injEq] at hW
      rw [List.cons_append, readP_one (ht i (Nat.le_refl _) (by simp)) (s' := { s with w := s.w ++ [p] }) (by rw [hW.1]; exact takeP_well s (hp p (by simp)))]
      rw [readP_wells l k (i + 1) _ W rest hW.2 (fun q hq => hp q (by simp [hq])) (fun j h1 h2 => ht j (by omega) (by simp only [List.length_cons]; omega))]
      simp only [List.length_cons, List.append_assoc, List.singleton_append]
      rw [show i + 1 + l.length = i + (l.length + 1) by omega]
theorem empty_of {n : ByteArray} (h : (n.toList == []) = true) : n = ⟨#[]⟩ := by
  have e : n.data.toList = [] := by rw [← toList_data]; simpa using h
  obtain ⟨d⟩ := n
  obtain ⟨d⟩ := d
  have : d = [] := e
  rw [this]
theorem lineP_of {had k : Nat} {x : Wd} {rest : List Wd} {s : Sp} (hh : had < 200) (hl : rest.length ≤ 97) (hk : kindP x.2 = some k) (he : enoughP k (rest.length + 1) = true) (ho : k ≠ 1 ∨ oftenP (x :: rest) = true) (hr : readP k 1 (sp0 k) rest = .ok s) : lineP had (x :: rest) = .ok s := by
  have hd : headP (x :: rest) = some k := by
    unfold headP
    simp only [hk, List.length_cons]
    rw [if_pos]
    simp only [Bool.and_eq_true, Bool.or_eq_true, decide_eq_true_eq]
    exact ⟨he, ho⟩
  unfold lineP
  simp only [hd, List.length_cons]
  rw [if_neg (by omega)]
  exact hr
theorem split_map {W : List Wd} {a b : List (List UInt8)} (h : W.map Prod.snd = a ++ b) : ∃ A C, W = A ++ C ∧ A.map Prod.snd = a ∧ C.map Prod.snd = b := by
  obtain ⟨A, C, h1, h2, h3⟩ := List.map_eq_append_iff.1 h
  exact ⟨A, C, h1, h2, h3⟩
theorem lineP_said {had : Nat} {ws : List Wd} {s : Sp} (h : stepOk s = true) (hw : ws.map Prod.snd = stepL s) (hh : had < 200) : lineP had ws = .ok s := by
  unfold stepOk at h
  simp only [Bool.and_eq_true] at h
  obtain ⟨hws, hk⟩ := h
  have hp : ∀ p ∈ s.w, (!p.t.isEmpty) = true := by
    unfold wellsOk at hws
    rwa [List.all_eq_true] at hws
  rcases ws with _ | ⟨x, rest⟩
  · simp [stepL] at hw
  simp only [stepL, List.map_cons, List.cons.injEq] at hw
  obtain ⟨hx, hr⟩ := hw
  obtain ⟨K, n, w, v, m⟩ := s
  unfold stepK at hk
  unfold stepW at hr
  simp only at hk hr hx hp
  by_cases k0 : K = 0
  · subst k0
    simp only [if_true, Bool.and_eq_true, decide_eq_true_eq] at hk hr
    obtain ⟨⟨⟨hn, h1⟩, rfl⟩, rfl⟩ := hk
    obtain rfl := List.length_eq_zero_iff.1 h1
    rcases rest with _ | ⟨y, _ | ⟨z, rest⟩⟩
    · simp at hr
    · simp only [List.map_cons, List.map_nil, List.cons.injEq, and_true] at hr
      refine lineP_of (k := 0) hh (by simp) (by rw [hx]; rfl) rfl (.inl (by decide)) ?_
      rw [readP_one (c := 0) (s' := ⟨0, n, [], 0, 0⟩) rfl (by rw [hr]; unfold takeP; rw [if_pos rfl, strB_list, if_pos hn]; rfl), readP]
    · simp at hr
  rw [if_neg k0] at hk hr
  by_cases k1 : K = 1
  · subst k1
    simp only [if_true, Bool.and_eq_true, Bool.or_eq_true, decide_eq_true_eq] at hk hr
    obtain ⟨⟨⟨hn, h1⟩, rfl⟩, hm⟩ := hk
    obtain rfl := List.length_eq_zero_iff.1 h1
    obtain rfl := empty_of hn
    rcases rest with _ | ⟨y, _ | ⟨z, rest⟩⟩
    · simp at hr
    · simp only [List.map_cons, List.map_nil, List.cons.injEq, and_true] at hr
      rcases hm with rfl | rfl
      · rw [if_pos rfl] at hr
        refine lineP_of (k := 1) hh (by simp) (by rw [hx]; rfl) rfl (.inr (by unfold oftenP; simp [hr])) ?_
        rw [readP_one (c := 1) (s' := ⟨1, ⟨#[]⟩, [], 0, 0⟩) rfl (by rw [hr]; rfl), readP]
      · rw [if_neg (by decide)] at hr
        refine lineP_of (k := 1) hh (by simp) (by rw [hx]; rfl) rfl (.inr (by unfold oftenP; simp [hr])) ?_
        rw [readP_one (c := 1) (s' := ⟨1, ⟨#[]⟩, [], 0, 1⟩) rfl (by rw [hr]; rfl), readP]
    · simp at hr
  rw [if_neg k1] at hk hr
  by_cases k5 : K = 5
  · subst k5
    rw [if_neg (by decide), if_neg (by decide), if_pos rfl] at hr
    rw [if_pos rfl] at hk
    unfold inB at hk
    simp only [Bool.and_eq_true, decide_eq_true_eq] at hk
    obtain ⟨⟨⟨hn, h1⟩, hv⟩, hm⟩ := hk
    obtain rfl := empty_of hn
    obtain ⟨A, C, rfl, hA, hC⟩ := split_map hr
    rcases C with _ | ⟨y, _ | ⟨z, _ | ⟨q, C⟩⟩⟩
    · simp at hC
    · simp at hC
    · simp only [List.map_cons, List.map_nil, List.cons.injEq, and_true] at hC
      have hAl : A.length = 1 := by have := congrArg List.length hA; simpa [h1] using this
      refine lineP_of (k := 5) hh (by simp; omega) (by rw [hx]; rfl) (by unfold enoughP; simp [hAl]) (.inl (by decide)) ?_
      rw [readP_wells w 5 1 _ A _ hA hp (fun j a b => by have e : j = 1 := (by omega); subst e; rfl), h1,
        readP_one (c := 3) (s' := ⟨5, ⟨#[]⟩, w, v, 0⟩) rfl (by rw [hC.1, takeP_vol _ hv.1 hv.2]; rfl),
        readP_one (c := 4) (s' := ⟨5, ⟨#[]⟩, w, v, m⟩) rfl (by rw [hC.2, takeP_times _ hm.1 hm.2]), readP]
    · simp at hC
  rw [if_neg k5] at hk
  by_cases kk : ¬ (K = 2 ∨ K = 3 ∨ K = 4 ∨ K = 6)
  · rw [if_neg kk] at hk
    cases hk
  have kk := Classical.not_not.1 kk
  rw [if_pos kk] at hk
  unfold inB at hk
  simp only [Bool.and_eq_true, Bool.or_eq_true, decide_eq_true_eq] at hk
  obtain ⟨⟨⟨⟨⟨hn, rfl⟩, hv⟩, h2⟩, h96⟩, hk2⟩ := hk
  obtain rfl := empty_of hn
  have hlw := fun (A : List Wd) (l : List Wp) (h : A.map Prod.snd = l.map Wp.t) => (by have := congrArg List.length h; simpa using this : A.length = l.length)
  by_cases k6 : K = 6
  · subst k6
    rw [if_pos rfl] at hr
    rcases rest with _ | ⟨y, W⟩
    · simp at hr
    simp only [List.map_cons, List.cons.injEq] at hr
    have hl := hlw W w hr.2
    refine lineP_of (k := 6) hh (by simp; omega) (by rw [hx]; rfl) (by unfold enoughP; simp; omega) (.inl (by decide)) ?_
    have e := readP_wells w 6 2 ⟨6, ⟨#[]⟩, [], v, 0⟩ W [] hr.2 hp (fun j a b => by unfold toldP; rw [if_neg (by decide), if_neg (by decide), if_neg (by omega), if_neg (by rw [if_neg (by decide), if_pos rfl]; omega)])
    rw [List.append_nil] at e
    rw [readP_one (c := 3) (s' := ⟨6, ⟨#[]⟩, [], v, 0⟩) rfl (by rw [hr.1, takeP_vol _ hv.1 hv.2]; rfl), e, readP]
    simp
  rw [if_neg k6] at hr
  by_cases k2 : K = 2
  · subst k2
    rw [if_pos rfl] at hr
    have hw2 : w.length = 2 := by rcases hk2 with h | h; exact absurd rfl h; exact h
    obtain ⟨A, C, rfl, hA, hC⟩ := split_map hr
    have hl := hlw A w hA
    rcases C with _ | ⟨y, _ | ⟨z, C⟩⟩
    · simp at hC
    · simp only [List.map_cons, List.map_nil, List.cons.injEq, and_true] at hC
      refine lineP_of (k := 2) hh (by simp; omega) (by rw [hx]; rfl) (by unfold enoughP; simp; omega) (.inl (by decide)) ?_
      rw [readP_wells w 2 1 _ A _ hA hp (fun j a b => by unfold toldP; rw [if_neg (by decide), if_neg (by decide), if_neg (by omega), if_neg (by rw [if_pos rfl]; omega)]), hw2,
        readP_one (c := 3) (s' := ⟨2, ⟨#[]⟩, w, v, 0⟩) rfl (by rw [hC, takeP_vol _ hv.1 hv.2]; rfl), readP]
    · simp at hC
  rw [if_neg k2, if_neg k5] at hr
  obtain ⟨AB, D, rfl, hAB, hD⟩ := split_map hr
  obtain ⟨A, C, rfl, hA, hC⟩ := split_map hAB
  have hlA := hlw A _ hA
  have hlD := hlw D _ hD
  rw [List.length_take] at hlA
  rw [List.length_drop] at hlD
  rcases C with _ | ⟨y, _ | ⟨z, C⟩⟩
  · simp at hC
  · simp only [List.map_cons, List.map_nil, List.cons.injEq, and_true] at hC
    have hpt : ∀ q ∈ w.take 1, (!q.t.isEmpty) = true := fun q hq => hp q (List.mem_of_mem_take hq)
    have hpd : ∀ q ∈ w.drop 1, (!q.t.isEmpty) = true := fun q hq => hp q (List.mem_of_mem_drop hq)
    have h1t : (w.take 1).length = 1 := by rw [List.length_take]; omega
    have go : ∀ k : Nat, k = 3 ∨ k = 4 → readP k 1 (sp0 k) (A ++ [y] ++ D) = .ok ⟨(k : Int), ⟨#[]⟩, w, v, 0⟩ := fun k hkk => by
      have tv : toldP k 2 = 3 := by rcases hkk with rfl | rfl <;> rfl
      rw [List.append_assoc, readP_wells (w.take 1) k 1 _ A _ hA hpt (fun j a b => by have e : j = 1 := (by omega); subst e; rcases hkk with rfl | rfl <;> rfl), h1t, List.singleton_append,
        readP_one (c := 3) (s' := ⟨k, ⟨#[]⟩, w.take 1, v, 0⟩) tv (by rw [hC, takeP_vol _ hv.1 hv.2]; rfl)]
      have e := readP_wells (w.drop 1) k 3 ⟨k, ⟨#[]⟩, w.take 1, v, 0⟩ D [] hD hpd (fun j a b => by rcases hkk with rfl | rfl <;> (unfold toldP; rw [if_neg (by decide), if_neg (by decide), if_neg (by omega), if_neg (by rw [if_neg (by decide), if_neg (by decide)]; omega)]))
      rw [List.append_nil] at e
      rw [e, readP]
      simp only [List.take_append_drop]
    rcases kk with rfl | rfl | rfl | rfl
    · exact absurd rfl k2
    · exact lineP_of (k := 3) hh (by simp; omega) (by rw [hx]; rfl) (by unfold enoughP; simp; omega) (.inl (by decide)) (go 3 (.inl rfl))
    · exact lineP_of (k := 4) hh (by simp; omega) (by rw [hx]; rfl) (by unfold enoughP; simp; omega) (.inl (by decide)) (go 4 (.inr rfl))
    · exact absurd rfl k6
  · simp at hC
theorem parseP_said : ∀ (l : List Sp) (LL : List (List Wd)) (S : List Sp), LL.map (List.map Prod.snd) = l.map stepL → (∀ s ∈ l, stepOk s = true) → S.length + l.length ≤ 200 → parseP LL S = .ok (S ++ l)
  | [], LL, S, h, _, _ => by
    obtain rfl : LL = [] := by simpa using h
    rw [parseP, List.append_nil]
  | s :: l, LL, S, h, hs, hn => by
    rcases LL with _ | ⟨ws, LL⟩
    · simp at h
    simp only [List.map_cons, List.cons.injEq] at h
    simp only [List.length_cons] at hn
    rcases ws with _ | ⟨x, ws⟩
    · have := h.1
      simp [stepL] at this
    rw [parseP, lineP_said (hs s (by simp)) h.1 (by omega)]
    simp only
    rw [parseP_said l LL (S ++ [s]) h.2 (fun t ht => hs t (by simp [ht])) (by simp; omega), List.append_assoc]
    rfl
end Go.Proofs.YtnmcgleanpdlmaaDoor

namespace Go.Proofs.YtnmcgleanpdlmaaDoor
open Go.RowKit
set_option linter.unusedVariables false
theorem stepT_len {s : Sp} (h : stepOk s = true) : (lineT (stepL s)).length ≤ 100 + 51 * s.w.length := by
  unfold stepOk at h
  simp only [Bool.and_eq_true] at h
  obtain ⟨_, hk⟩ := h
  obtain ⟨K, n, w, v, m⟩ := s
  have hkw := kindW_len K
  unfold stepL
  rw [lineT_words]
  unfold stepW
  unfold stepK at hk
  simp only at hk ⊢
  have hWT : ∀ l : List Wp, ((l.map Wp.t).flatMap fun x => 32 :: x).length ≤ 51 * l.length := fun l => by
    rw [List.flatMap_map]
    exact wellsT_len l
  have hW := hWT w
  have hW1 := hWT (w.take 1)
  have hW2 := hWT (w.drop 1)
  rw [List.length_take] at hW1
  rw [List.length_drop] at hW2
  have hd : ∀ x : Int, x ≤ 20000000 → (decI x).length ≤ 20 := fun x hx => by
    rcases Int.lt_or_le x 0 with h | h
    · rw [show decI x = decI ((0 : Nat) : Int) by unfold decI; rw [show x.toNat = ((0 : Nat) : Int).toNat by omega]]
      exact decI_len (by omega)
    · obtain ⟨k, rfl⟩ := Int.eq_ofNat_of_zero_le h
      exact decI_len (by omega)
  by_cases k0 : K = 0
  · subst k0
    simp only [if_true, Bool.and_eq_true, decide_eq_true_eq] at hk ⊢
    have hn := hk.1.1.1
    have hs : n.size ≤ 16 := by
      rcases Nat.lt_or_ge 16 n.size with h | h
      · rw [nameS_size (.inr h)] at hn; cases hn
      · exact h
    have hs' : n.data.toList.length ≤ 16 := by simpa using hs
    simp only [List.flatMap_cons, List.flatMap_nil, List.length_append, List.length_cons, List.length_nil]
    omega
  rw [if_neg k0] at hk ⊢
  by_cases k1 : K = 1
  · subst k1
    rw [if_pos rfl]
    have : (if m = 0 then kOnce else kEach).length ≤ 4 := by split <;> decide
    simp only [List.flatMap_cons, List.flatMap_nil, List.length_append, List.length_cons, List.length_nil]
    omega
  rw [if_neg k1] at hk ⊢
  have hvm : v ≤ 20000000 ∧ (K = 5 → m ≤ 20) := by
    by_cases k5 : K = 5
    · rw [if_pos k5] at hk
      unfold inB at hk
      simp only [Bool.and_eq_true, decide_eq_true_eq] at hk
      exact ⟨hk.1.2.2, fun _ => hk.2.2⟩
    · rw [if_neg k5] at hk
      split at hk
      · unfold inB at hk
        simp only [Bool.and_eq_true, Bool.or_eq_true, decide_eq_true_eq] at hk
        exact ⟨hk.1.1.1.2.2, fun h => absurd h k5⟩
      · cases hk
  have hv := hd v hvm.1
  by_cases k6 : K = 6
  · rw [if_pos k6]
    simp only [List.flatMap_cons, List.length_append, List.length_cons, List.length_nil]
    omega
  rw [if_neg k6]
  by_cases k2 : K = 2
  · rw [if_pos k2]
    simp only [List.flatMap_append, List.flatMap_cons, List.flatMap_nil, List.length_append, List.length_cons, List.length_nil]
    omega
  rw [if_neg k2]
  by_cases k5 : K = 5
  · rw [if_pos k5]
    have hm := hd m (by have := hvm.2 k5; omega)
    simp only [List.flatMap_append, List.flatMap_cons, List.flatMap_nil, List.length_append, List.length_cons, List.length_nil]
    omega
  rw [if_neg k5]
  simp only [List.flatMap_append, List.flatMap_cons, List.flatMap_nil, List.length_append, List.length_cons, List.length_nil]
  omega
/-- All wells of steps. -/
def wellsN : List Sp → Nat
  | [] => 0
  | s :: l => s.w.length + wellsN l
theorem wellsN_app : ∀ a b : List Sp, wellsN (a ++ b) = wellsN a + wellsN b
  | [], b => by simp [wellsN]
  | s :: a, b => by
    have := wellsN_app a b
    show s.w.length + wellsN (a ++ b) = (s.w.length + wellsN a) + wellsN b
    omega
theorem wellsN_le {n : Nat} : ∀ l : List Sp, (∀ s ∈ l, s.w.length ≤ n) → wellsN l ≤ n * l.length
  | [], _ => by simp [wellsN]
  | s :: l, h => by
    have h1 := h s (by simp)
    have h2 := wellsN_le l fun t ht => h t (by simp [ht])
    rw [List.length_cons, Nat.mul_succ]
    show s.w.length + wellsN l ≤ _
    omega
theorem stepsT_len : ∀ {l : List Sp}, stepsOk l = true → (stepsT l).length ≤ 100 * l.length + 51 * wellsN l := by
  intro l h
  have hT : stepsT l = l.flatMap fun s => lineT (stepL s) := by unfold stepsT; rw [if_pos h]
  rw [hT]
  unfold stepsOk at h
  rw [Bool.and_eq_true, List.all_eq_true] at h
  have key : ∀ l : List Sp, (∀ s ∈ l, stepOk s = true) → (l.flatMap fun s => lineT (stepL s)).length ≤ 100 * l.length + 51 * wellsN l := by
    intro l
    induction l with
    | nil => intro _; simp [wellsN]
    | cons s l ih =>
      intro hs
      have h1 := stepT_len (hs s (by simp))
      have h2 := ih fun t ht => hs t (by simp [ht])
      rw [List.flatMap_cons, List.length_append, List.length_cons]
      show _ ≤ 100 * (l.length + 1) + 51 * (s.w.length + wellsN l)
      omega
  exact key l h.2
end Go.Proofs.YtnmcgleanpdlmaaDoor

namespace Go.Proofs.YtnmcgleanpdlmaaDoor
open Go.RowKit
set_option linter.unusedVariables false
/-- How long a slice is. -/
def lenV : Value → Nat
  | .slice _ n _ => n
  | _ => 0
theorem flatWp_set : ∀ (L : List Wp) (i : Nat) (p : Wp), i < L.length → (((flatWp L).set (i * 3) (.string p.n)).set (i * 3 + 1) (.int .i64 p.r)).set (i * 3 + 2) (.int .i64 p.c) = flatWp (L.set i p)
  | [], _, _, h => by simp at h
  | q :: l, 0, p, _ => rfl
  | q :: l, i + 1, p, h => by
    have ih := flatWp_set l i p (by simpa using h)
    have e1 : (i + 1) * 3 = i * 3 + 3 := by omega
    rw [e1]
    show Value.string q.n :: Value.int .i64 q.r :: Value.int .i64 q.c :: ((((flatWp l).set (i * 3) (.string p.n)).set (i * 3 + 1) (.int .i64 p.r)).set (i * 3 + 2) (.int .i64 p.c)) = _
    rw [ih]
    rfl
def wpZ : Wp := ⟨⟨#[]⟩, 0, 0⟩
theorem made_wells (n : Nat) : (madeCells #[.string ⟨#[]⟩, .int .i64 0, .int .i64 0] (n * 3)).toList = flatWp (List.replicate n wpZ) := by
  apply List.ext_getElem?
  intro j
  by_cases hj : j < n * 3
  · obtain ⟨i, r, rfl, hr⟩ : ∃ i r, j = i * 3 + r ∧ r < 3 := ⟨j / 3, j % 3, by omega, by omega⟩
    have hi : (List.replicate n wpZ)[i]? = some wpZ := by rw [List.getElem?_replicate, if_pos (by omega)]
    have hg := flatWp_get _ i _ hi
    unfold madeCells
    rw [Array.getElem?_toList, Array.getElem?_map, Array.getElem?_range]
    simp only [hj, if_true, Option.map_some]
    rcases (by omega : r = 0 ∨ r = 1 ∨ r = 2) with rfl | rfl | rfl
    · have : (i * 3 + 0) % (#[Value.string ⟨#[]⟩, .int .i64 0, .int .i64 0] : Array Value).size = 0 := by show (i * 3 + 0) % 3 = 0; omega
      rw [this]
      exact hg.1.symm
    · have : (i * 3 + 1) % (#[Value.string ⟨#[]⟩, .int .i64 0, .int .i64 0] : Array Value).size = 1 := by show (i * 3 + 1) % 3 = 1; omega
      rw [this]
      exact hg.2.1.symm
    · have : (i * 3 + 2) % (#[Value.string ⟨#[]⟩, .int .i64 0, .int .i64 0] : Array Value).size = 2 := by show (i * 3 + 2) % 3 = 2; omega
      rw [this]
      exact hg.2.2.symm
  · rw [List.getElem?_eq_none, List.getElem?_eq_none]
    · rw [flatWp_len, List.length_replicate]; omega
    · rw [Array.length_toList, size_madeCells]; omega
/-- The first i are written. -/
def halfW (p : Wp) (n i : Nat) : List Wp := List.replicate i p ++ List.replicate (n - i) wpZ
theorem halfW_len (p : Wp) {n i : Nat} (h : i ≤ n) : (halfW p n i).length = n := by unfold halfW; rw [List.length_append, List.length_replicate, List.length_replicate]; omega
theorem halfW_set (p : Wp) {n i : Nat} (h : i < n) : (halfW p n i).set i p = halfW p n (i + 1) := by
  unfold halfW
  rw [List.set_append_right _ _ (by simp), List.length_replicate, Nat.sub_self, show n - i = (n - (i + 1)) + 1 by omega, List.replicate_succ, List.set_cons_zero, List.replicate_succ' (n := i), List.append_assoc]
  rfl
theorem halfW_at (p : Wp) {n i : Nat} (h : i < n) : (halfW p n i)[i]? = some wpZ := by
  unfold halfW
  rw [List.getElem?_append_right (by simp), List.length_replicate, Nat.sub_self, List.getElem?_replicate, if_pos (by omega)]
theorem halfW_zero (p : Wp) (n : Nat) : halfW p n 0 = List.replicate n wpZ := by unfold halfW; simp
theorem halfW_full (p : Wp) (n : Nat) : halfW p n n = List.replicate n p := by unfold halfW; simp
theorem wellsN_none {s : Sp} (h : s.w = []) : ∀ j : Nat, wellsN (List.replicate j s) = 0
  | 0 => rfl
  | j + 1 => by
    rw [List.replicate_succ]
    show s.w.length + wellsN (List.replicate j s) = 0
    rw [wellsN_none h j, h]
    rfl
theorem and_small (x : Int) : I64 (bits .and .i64 x 15) := by
  rw [and_i64]
  have h1 := BitVec.toInt_lt (x := BitVec.ofInt 64 x &&& BitVec.ofInt 64 15)
  have h2 := BitVec.le_toInt (BitVec.ofInt 64 x &&& BitVec.ofInt 64 15)
  unfold I64
  omega
end Go.Proofs.YtnmcgleanpdlmaaDoor

namespace Go.Proofs.YtnmcgleanpdlmaaDoor
open Go.RowKit
theorem own_full {w : World} {base : Nat} {e : TypeId} {size n c : Nat} {o : Option Addr} {xs : List Value} (h : w.ownsRow base e size (.slice o n c) n xs) (hn : 0 < n) : ∃ g, o = some ⟨g, 0, none⟩ ∧ base ≤ g ∧ n ≤ c ∧ c ≤ maxLen := by
  rcases h.2 with ⟨h0, _⟩ | ⟨g, cap, cur, h0, hb, _, hnc, hm, _⟩
  · simp only [Value.slice.injEq] at h0; omega
  · simp only [Value.slice.injEq] at h0
    obtain ⟨rfl, _, rfl⟩ := h0
    exact ⟨g, rfl, hb, hnc, hm⟩
end Go.Proofs.YtnmcgleanpdlmaaDoor

namespace Go.Proofs.YtnmcgleanpdlmaaDoor
open Go.RowKit Go.ChangeShapes Go.WideShapes Go.ChangeAt Go.Deep
set_option linter.unusedVariables false
instance : Inhabited Wp := ⟨⟨⟨#[]⟩, 0, 0⟩⟩
instance : Inhabited Sp := ⟨⟨0, ⟨#[]⟩, [], 0, 0⟩⟩
theorem i64_wfS {a : Int} (w : (Lit.int .i64 a).wf = true) : I64 a := by
  simp [Lit.wf, IntKind.min, IntKind.max, IntKind.signed, IntKind.bits] at w
  unfold I64
  omega
def Wp.ok (p : Wp) : Prop := p.n.size ≤ maxLen ∧ I64 p.r ∧ I64 p.c
def Sp.ok (s : Sp) : Prop := I64 s.k ∧ s.n.size ≤ maxLen ∧ I64 s.v ∧ I64 s.m ∧ ∀ p ∈ s.w, p.ok
theorem addS0 (p : Addr) : p.add 0 = p := by unfold Addr.add; simp
theorem addSp (p : Addr) {j : Nat} (h : 0 < j) : p.add j = ⟨p.block, p.off + j, none⟩ := by unfold Addr.add; rw [if_neg (by omega)]
set_option maxRecDepth 100000 in
theorem wp_open {H : Type} {enc : TypeId × Value → H} {W : World} {base : Nat} {sp : Nat → Bool} {held : Bool} {fuel : Nat} {cs : List Value} {x : DataW H × List MemPlace}
    (h : DataW.trod enc Tryd.prog W base sp held fuel 36 cs = some x) : ∃ p : Wp, p.ok ∧ cs = [.string p.n, .int .i64 p.r, .int .i64 p.c] := by
  obtain ⟨xs, n, _, _, hl, hlen, hf⟩ := DataW.trod_struct Tryd.underlying36 h
  rw [show Tryd.prog.cellsOf 36 = 3 by kernel_rfl] at hl
  have c9 : Tryd.prog.cellsOf 9 = 1 := by kernel_rfl
  have c1 : Tryd.prog.cellsOf 3 = 1 := by kernel_rfl
  match xs, hlen, cs, hl with
  | [x0, x1, x2], _, [v0, v1, v2], _ =>
    have f0 : DataW.trod enc Tryd.prog W base sp held n 9 (([v0, v1, v2].drop 0).take (Tryd.prog.cellsOf 9)) = some x0 := hf 0 _ rfl
    have f1 : DataW.trod enc Tryd.prog W base sp held n 3 (([v0, v1, v2].drop 1).take (Tryd.prog.cellsOf 3)) = some x1 := hf 1 _ rfl
    have f2 : DataW.trod enc Tryd.prog W base sp held n 3 (([v0, v1, v2].drop 2).take (Tryd.prog.cellsOf 3)) = some x2 := hf 2 _ rfl
    rw [c9] at f0
    rw [c1] at f1 f2
    obtain ⟨s, e0, _, z0⟩ := DataW.trod_string Tryd.underlying9 f0
    obtain ⟨a1, e1, _, w1⟩ := DataW.trod_int Tryd.underlying3 f1
    obtain ⟨a2, e2, _, w2⟩ := DataW.trod_int Tryd.underlying3 f2
    simp at e0 e1 e2
    subst e0 e1 e2
    exact ⟨⟨s, a1, a2⟩, ⟨z0, i64_wfS w1, i64_wfS w2⟩, rfl⟩
set_option maxRecDepth 100000 in
theorem wps_trod {H : Type} {enc : TypeId × Value → H} {W : World} {base : Nat} {sp : Nat → Bool} {held : Bool} {fuel : Nat} {v : Value} {x : DataW H × List MemPlace}
    (h : DataW.trod enc Tryd.prog W base sp held fuel 25 [v] = some x) : ∃ L : List Wp, IsWps W v L ∧ ∀ p ∈ L, p.ok := by
  rcases open_slice Tryd.underlying25 h with ⟨hcs, _⟩ | ⟨a, ln, cp, m, n, D, Pl, hcs, _, hl, hm, hmm, _, hx⟩
  · simp at hcs
    subst hcs
    exact ⟨[], .inl ⟨rfl, rfl⟩, by simp⟩
  · simp at hcs
    subst hcs
    rw [show Tryd.prog.cellsOf 36 = 3 by kernel_rfl] at hx
    have hle : ln ≤ m := by rw [hmm]; split <;> omega
    obtain ⟨S, hS⟩ := choose_lt (α := Wp) (n := ln) (p := fun i r => r.ok ∧ WpAt W (a.add (i * 3)) r) (fun i hi => by
      obtain ⟨cs', h1, h2⟩ := hx i (by omega)
      obtain ⟨r, hI, rfl⟩ := wp_open h2
      obtain ⟨_, _, h3⟩ := World.cells?_some h1
      generalize a.add (i * 3) = q at *
      have g0 := h3 0 (by omega)
      have g1 := h3 1 (by omega)
      have g2 := h3 2 (by omega)
      rw [addS0] at g0
      rw [addSp _ (by omega)] at g1 g2
      exact ⟨r, hI, g0, g1, g2⟩)
    refine ⟨(List.range ln).map S, .inr ⟨a, cp, by simp, by simpa using hl, hm, fun i s hs => ?_⟩, fun r hr => ?_⟩
    · have hi : i < ln := by
        have := (List.getElem?_eq_some_iff.1 hs).1
        simpa using this
      have e : s = S i := by
        rw [List.getElem?_map, List.getElem?_range hi] at hs
        simpa using hs.symm
      subst e
      exact (hS i hi).2
    · obtain ⟨i, hi, rfl⟩ := List.mem_map.1 hr
      exact (hS i (List.mem_range.1 hi)).1
set_option maxRecDepth 100000 in
theorem sp_open {H : Type} {enc : TypeId × Value → H} {W : World} {base : Nat} {sp : Nat → Bool} {held : Bool} {fuel : Nat} {cs : List Value} {x : DataW H × List MemPlace}
    (h : DataW.trod enc Tryd.prog W base sp held fuel 27 cs = some x) : ∃ (s : Sp) (vo : Value), s.ok ∧ IsWps W vo s.w ∧ cs = [.int .i64 s.k, .string s.n, vo, .int .i64 s.v, .int .i64 s.m] := by
  obtain ⟨xs, n, _, _, hl, hlen, hf⟩ := DataW.trod_struct Tryd.underlying27 h
  rw [show Tryd.prog.cellsOf 27 = 5 by kernel_rfl] at hl
  have c9 : Tryd.prog.cellsOf 9 = 1 := by kernel_rfl
  have c1 : Tryd.prog.cellsOf 3 = 1 := by kernel_rfl
  have c3 : Tryd.prog.cellsOf 2 = 1 := by kernel_rfl
  have cS : Tryd.prog.cellsOf 25 = 1 := by kernel_rfl
  match xs, hlen, cs, hl with
  | [x0, x1, x2, x3, x4], _, [v0, v1, v2, v3, v4], _ =>
    have f0 : DataW.trod enc Tryd.prog W base sp held n 3 (([v0, v1, v2, v3, v4].drop 0).take (Tryd.prog.cellsOf 3)) = some x0 := hf 0 _ rfl
    have f1 : DataW.trod enc Tryd.prog W base sp held n 9 (([v0, v1, v2, v3, v4].drop 1).take (Tryd.prog.cellsOf 9)) = some x1 := hf 1 _ rfl
    have f2 : DataW.trod enc Tryd.prog W base sp held n 25 (([v0, v1, v2, v3, v4].drop 2).take (Tryd.prog.cellsOf 25)) = some x2 := hf 2 _ rfl
    have f3 : DataW.trod enc Tryd.prog W base sp held n 2 (([v0, v1, v2, v3, v4].drop 3).take (Tryd.prog.cellsOf 2)) = some x3 := hf 3 _ rfl
    have f4 : DataW.trod enc Tryd.prog W base sp held n 3 (([v0, v1, v2, v3, v4].drop 4).take (Tryd.prog.cellsOf 3)) = some x4 := hf 4 _ rfl
    rw [c1] at f0 f4
    rw [c9] at f1
    rw [cS] at f2
    rw [c3] at f3
    obtain ⟨a0, e0, _, w0⟩ := DataW.trod_int Tryd.underlying3 f0
    obtain ⟨s, e1, _, z1⟩ := DataW.trod_string Tryd.underlying9 f1
    obtain ⟨l, e2, k2⟩ := wps_trod f2
    obtain ⟨a3, e3, _, w3⟩ := DataW.trod_int Tryd.underlying2 f3
    obtain ⟨a4, e4, _, w4⟩ := DataW.trod_int Tryd.underlying3 f4
    simp at e0 e1 e3 e4
    subst e0 e1 e3 e4
    exact ⟨⟨a0, s, l, a3, a4⟩, _, ⟨i64_wfS w0, z1, i64_wfS w3, i64_wfS w4, k2⟩, e2, rfl⟩
set_option maxRecDepth 100000 in
theorem sps_trod {H : Type} {enc : TypeId × Value → H} {W : World} {base : Nat} {sp : Nat → Bool} {held : Bool} {fuel : Nat} {v : Value} {x : DataW H × List MemPlace}
    (h : DataW.trod enc Tryd.prog W base sp held fuel 22 [v] = some x) : ∃ L : List Sp, IsSps W v L ∧ ∀ s ∈ L, s.ok := by
  rcases open_slice Tryd.underlying22 h with ⟨hcs, _⟩ | ⟨a, ln, cp, m, n, D, Pl, hcs, _, hl, hm, hmm, _, hx⟩
  · simp at hcs
    subst hcs
    exact ⟨[], .inl ⟨rfl, rfl⟩, by simp⟩
  · simp at hcs
    subst hcs
    rw [show Tryd.prog.cellsOf 27 = 5 by kernel_rfl] at hx
    have hle : ln ≤ m := by rw [hmm]; split <;> omega
    obtain ⟨S, hS⟩ := choose_lt (α := Sp) (n := ln) (p := fun i r => r.ok ∧ SpAt W (a.add (i * 5)) r) (fun i hi => by
      obtain ⟨cs', h1, h2⟩ := hx i (by omega)
      obtain ⟨r, vo, hI, hs, rfl⟩ := sp_open h2
      obtain ⟨_, _, h3⟩ := World.cells?_some h1
      generalize a.add (i * 5) = q at *
      have g0 := h3 0 (by omega)
      have g1 := h3 1 (by omega)
      have g2 := h3 2 (by omega)
      have g3 := h3 3 (by omega)
      have g4 := h3 4 (by omega)
      rw [addS0] at g0
      rw [addSp _ (by omega)] at g1 g2 g3 g4
      exact ⟨r, hI, g0, g1, ⟨vo, g2, hs⟩, g3, g4⟩)
    refine ⟨(List.range ln).map S, .inr ⟨a, cp, by simp, by simpa using hl, hm, fun i s hs => ?_⟩, fun r hr => ?_⟩
    · have hi : i < ln := by
        have := (List.getElem?_eq_some_iff.1 hs).1
        simpa using this
      have e : s = S i := by
        rw [List.getElem?_map, List.getElem?_range hi] at hs
        simpa using hs.symm
      subst e
      exact (hS i hi).2
    · obtain ⟨i, hi, rfl⟩ := List.mem_map.1 hr
      exact (hS i (List.mem_range.1 hi)).1
set_option maxRecDepth 100000 in
theorem open_sps {H : Type} {enc : TypeId × Value → H} {W : World} {base b0 : Nat} {sp : Nat → Bool} {held : Bool} {r : Reach} {v : Value} {d : DataW H} {p : List MemPlace}
    (hv : Value.okWide Tryd.prog W r b0 22 v) (h : DataW.Trod enc Tryd.prog W base sp held 22 v d p) : ∃ l : List Sp, IsSps W v l ∧ ∀ s ∈ l, s.ok := by
  obtain ⟨o, len, cap, rfl⟩ := okWide_slice Tryd.underlying22 hv
  obtain ⟨fuel, hf⟩ := h
  exact sps_trod hf
end Go.Proofs.YtnmcgleanpdlmaaDoor
