/-
  The words of lines that were said word by word. No program is named here; A deck that is right comes back from its text. No program is named here; A well's text, taken apart. No program is named here; The statements' decks are right ones; each number has its well, each well its number; What a right deck's numbers are, where it is printed. No program is named here; What decks and steps say: their lines are words, and are read back. No program is named here; Contract of the document's number of wells; The statements' steps of pieces: right ones. No program is named here but for the deck's own texts; How long the statements' sources are. No program is named here; A list in new memory: append onto nil of what comes in; Lines of words behind a slice that begins anywhere in its row. No program is named here; Contract of the code's kind of a byte.
-/
import Derived.Laws.Strings2
import Derived.Laws.Slices
import Derived.KernelRfl
import Derived.Maps.AppendAt
import Derived.Test.YthlileddhgglnaaDoorChecked
import Derived.Lib.Hide
import Derived.Deep.QuietTactic
import Derived.BigQuiet
import Derived.Test.YthlileddhgglnaaDoorV1
import Derived.Test.YthlileddhgglnaaDoorV2
import Derived.Test.YthlileddhgglnaaDoorV3
import Derived.Test.YthlileddhgglnaaDoorV4
import Derived.Test.YthlileddhgglnaaDoorV5
import Derived.Test.YthlileddhgglnaaDoorV6
import Derived.Test.YthlileddhgglnaaDoorV7
import Derived.Test.YthlileddhgglnaaDoorV8
import Derived.Test.YthlileddhgglnaaDoorV9
namespace Go.Proofs.YthlileddhgglnaaDoor
open Go.RowKit
def partW (w : List UInt8) : Prop := w ≠ [] ∧ ∀ c ∈ w, partN c.toNat = true
/-- Where the words of a line stand. -/
def placeT : Nat → List (List UInt8) → List Wd
  | _, [] => []
  | p, w :: ws => (p, w) :: placeT (p + w.length + 1) ws
theorem placeT_texts : ∀ (p : Nat) (ws : List (List UInt8)), (placeT p ws).map Prod.snd = ws
  | _, [] => rfl
  | p, w :: ws => by show w :: (placeT _ ws).map Prod.snd = _; rw [placeT_texts]
theorem scan_app : ∀ (w rest : List UInt8) (p : Nat) (out : List (List Wd)) (line : List Wd) (v : List UInt8), (∀ c ∈ w, partN c.toNat = true) → scan (w ++ rest) p out line v false = scan rest (p + w.length) out line (v ++ w) false
  | [], rest, p, out, line, v, _ => by simp
  | c :: w, rest, p, out, line, v, h => by
    have hc := h c List.mem_cons_self
    show scan (c :: (w ++ rest)) p out line v false = _
    rw [scan, if_neg (part_cases hc).1, if_neg (by decide), if_pos hc, scan_app w rest (p + 1) out line (v ++ [c]) fun x hx => h x (List.mem_cons_of_mem _ hx)]
    rw [List.append_assoc, List.length_cons, Nat.add_assoc, Nat.add_comm 1]
    rfl
theorem scan_blank (rest : List UInt8) (q : Nat) (out : List (List Wd)) (line : List Wd) (v : List UInt8) : scan (32 :: rest) q out line v false = scan rest (q + 1) out (flushW line q v) [] false := by
  rw [scan, if_neg (by decide), if_neg (by decide), if_neg (by decide), if_neg (by decide), if_pos (by decide)]
theorem scan_lf (rest : List UInt8) (q : Nat) (out : List (List Wd)) (line : List Wd) (v : List UInt8) : scan (10 :: rest) q out line v false = scan rest (q + 1) (flushL out (flushW line q v)) [] [] false := by
  rw [scan, if_pos (by decide)]
theorem flush_at {line : List Wd} {p : Nat} {w : List UInt8} (h : w ≠ []) : flushW line (p + w.length) w = line ++ [(p, w)] := by
  unfold flushW
  rw [if_neg h, Nat.add_sub_cancel]
theorem scan_line : ∀ (ws : List (List UInt8)) (rest : List UInt8) (p : Nat) (out : List (List Wd)) (line : List Wd), ws ≠ [] → (∀ w ∈ ws, partW w) →
    scan (lineT ws ++ rest) p out line [] false = scan rest (p + (lineT ws).length) (out ++ [line ++ placeT p ws]) [] [] false
  | [], _, _, _, _, h, _ => absurd rfl h
  | [w], rest, p, out, line, _, h => by
    obtain ⟨h1, h2⟩ := h w List.mem_cons_self
    show scan (w ++ [10] ++ rest) p out line [] false = _
    rw [List.append_assoc, scan_app w _ p out line [] h2, List.nil_append]
    show scan (10 :: rest) _ _ _ _ _ = _
    rw [scan_lf, flush_at h1, flushL_some (by simp)]
    show scan rest (p + w.length + 1) _ _ _ _ = scan rest (p + (w ++ [10]).length) _ _ _ _
    rw [List.length_append, Nat.add_assoc]
    rfl
  | w :: x :: ws, rest, p, out, line, _, h => by
    obtain ⟨h1, h2⟩ := h w List.mem_cons_self
    show scan (w ++ 32 :: lineT (x :: ws) ++ rest) p out line [] false = _
    rw [List.append_assoc, scan_app w _ p out line [] h2, List.nil_append]
    show scan (32 :: (lineT (x :: ws) ++ rest)) _ _ _ _ _ = _
    rw [scan_blank, flush_at h1, scan_line (x :: ws) rest (p + w.length + 1) out (line ++ [(p, w)]) (by simp) fun y hy => h y (List.mem_cons_of_mem _ hy)]
    have e : p + w.length + 1 + (lineT (x :: ws)).length = p + (lineT (w :: x :: ws)).length := by
      show _ = p + (w ++ 32 :: lineT (x :: ws)).length
      rw [List.length_append, List.length_cons]
      omega
    rw [e, List.append_assoc]
    rfl
/-- Where the words of lines stand. -/
def placeL : Nat → List (List (List UInt8)) → List (List Wd)
  | _, [] => []
  | p, l :: L => placeT p l :: placeL (p + (lineT l).length) L
theorem scan_lines : ∀ (L : List (List (List UInt8))) (rest : List UInt8) (p : Nat) (out : List (List Wd)), (∀ l ∈ L, l ≠ [] ∧ ∀ w ∈ l, partW w) →
    scan (L.flatMap lineT ++ rest) p out [] [] false = scan rest (p + (L.flatMap lineT).length) (out ++ placeL p L) [] [] false
  | [], rest, p, out, _ => by simp [placeL]
  | l :: L, rest, p, out, h => by
    obtain ⟨h1, h2⟩ := h l List.mem_cons_self
    show scan (lineT l ++ L.flatMap lineT ++ rest) p out [] [] false = _
    rw [List.append_assoc, scan_line l _ p out [] h1 h2, scan_lines L rest _ _ fun x hx => h x (List.mem_cons_of_mem _ hx)]
    have e : p + (lineT l).length + (L.flatMap lineT).length = p + ((l :: L).flatMap lineT).length := by
      show _ = p + (lineT l ++ L.flatMap lineT).length
      rw [List.length_append]
      omega
    rw [e, List.nil_append, List.append_assoc]
    rfl
theorem lines_said {L : List (List (List UInt8))} (h : ∀ l ∈ L, l ≠ [] ∧ ∀ w ∈ l, partW w) (hl : (L.flatMap lineT).length ≤ 65536) : linesB (L.flatMap lineT) = (placeL 0 L, 0, 0) := by
  have := scan_lines L [] 0 [] h
  rw [List.append_nil, List.nil_append] at this
  unfold linesB
  rw [if_neg (by omega), this]
  rfl
theorem placeL_texts : ∀ (p : Nat) (L : List (List (List UInt8))), (placeL p L).map (List.map Prod.snd) = L
  | _, [] => rfl
  | p, l :: L => by show (placeT p l).map Prod.snd :: (placeL _ L).map _ = _; rw [placeT_texts, placeL_texts]
end Go.Proofs.YthlileddhgglnaaDoor

namespace Go.Proofs.YthlileddhgglnaaDoor
open Go.RowKit
/-- The sections of one, read one by one. -/
def addS (d : Dk) (o : Nat) (l : List Sec) : Dk := l.foldl (fun d s => d.add o s) d
end Go.Proofs.YthlileddhgglnaaDoor

namespace Go.Proofs.YthlileddhgglnaaDoor
open Go.RowKit
/-- How far a name goes in a text. -/
def dotAt (l : List UInt8) : Nat := (l.takeWhile fun c => decide (c.toNat ≠ 46)).length
theorem dot_le (l : List UInt8) : dotAt l ≤ l.length := by
  unfold dotAt
  exact (List.takeWhile_sublist _).length_le
theorem dot_is (l : List UInt8) : ∀ k, (∀ j c, j < k → l[j]? = some c → c.toNat ≠ 46) → k ≤ l.length → (l.length ≤ k ∨ ∃ c, l[k]? = some c ∧ c.toNat = 46) → dotAt l = k := by
  induction l with
  | nil => intro k _ hk _; simp at hk; subst hk; rfl
  | cons x l ih =>
    intro k h hk he
    unfold dotAt
    match k with
    | 0 =>
      rcases he with he | ⟨c, hc, h46⟩
      · simp at he
      · simp at hc; subst hc
        rw [List.takeWhile_cons, if_neg (by simp [h46])]
        rfl
    | k + 1 =>
      have hx := h 0 x (by omega) rfl
      rw [List.takeWhile_cons, if_pos (by simp [hx])]
      have := ih k (fun j c hj hc => h (j + 1) c (by omega) (by simpa using hc)) (by simpa using hk) (by
        rcases he with he | ⟨c, hc, h46⟩
        · exact .inl (by simpa using he)
        · exact .inr ⟨c, by simpa using hc, h46⟩)
      unfold dotAt at this
      rw [List.length_cons, this]
theorem take_dot (l : List UInt8) : l.takeWhile (fun c => decide (c.toNat ≠ 46)) = l.take (dotAt l) := by
  unfold dotAt
  exact (List.takeWhile_eq_take_findIdx_not ..) |>.trans (by
    congr 1
    rw [List.takeWhile_eq_take_findIdx_not, List.length_take]
    have := List.findIdx_le_length (p := fun c : UInt8 => !decide (c.toNat ≠ 46)) (xs := l)
    omega)
theorem byteB (l : List UInt8) (i : Nat) (b : UInt8) (h : l[i]? = some b) : byteAt (strB l) i = b.toNat := by
  unfold byteAt strB
  rw [List.getD_eq_getElem?_getD]
  show (l[i]?.getD 0).toNat = _
  rw [h]
  rfl
theorem strB_sub (l : List UInt8) (a b : Nat) : (strB l).extract a b = strB ((l.drop a).take (b - a)) := by
  apply ByteArray.ext
  apply Array.ext'
  rw [Go.Lib.extract_data]
  rfl
theorem well_short {l : List UInt8} (h : l.length ≤ dotAt l + 2) : wellL l = none := by
  unfold wellL
  simp only
  rw [show (l.takeWhile fun c => decide (c.toNat ≠ 46)).length = dotAt l from rfl]
  cases e : l.drop (dotAt l + 1) with
  | nil => rfl
  | cons r ds =>
    have hl : (l.drop (dotAt l + 1)).length ≤ 1 := by rw [List.length_drop]; omega
    rw [e, List.length_cons] at hl
    have : ds = [] := List.length_eq_zero_iff.1 (by omega)
    subst this
    simp only
    rw [if_neg]
    rintro ⟨_, _, _, h4, _⟩
    exact absurd h4 (by decide)
theorem well_long {l : List UInt8} {k : Nat} {r : UInt8} (hk : dotAt l = k) (hr : l[k + 1]? = some r) : wellL l = if nameS (strB (l.take k)) = true ∧ 65 ≤ r.toNat ∧ r.toNat ≤ 72 ∧ numOk (strB (l.drop (k + 2))) = true ∧ 1 ≤ numV (strB (l.drop (k + 2))) ∧ numV (strB (l.drop (k + 2))) ≤ 12 then some (l.take k, r.toNat - 65, numV (strB (l.drop (k + 2))) - 1) else none := by
  unfold wellL
  simp only
  rw [take_dot, List.length_take, Nat.min_eq_left (dot_le l), hk]
  have e : l.drop (k + 1) = r :: l.drop (k + 2) := by
    obtain ⟨h, rfl⟩ := List.getElem?_eq_some_iff.1 hr
    rw [List.drop_eq_getElem_cons h]
  rw [e]
end Go.Proofs.YthlileddhgglnaaDoor

namespace Go.Proofs.YthlileddhgglnaaDoor
open Go.RowKit
set_option linter.unusedVariables false
theorem seat_wares {a b c d : Int} (ha : 0 ≤ a ∧ a ≤ 255) (hb : 0 ≤ b ∧ b ≤ 255) (hc : 0 ≤ c ∧ c ≤ 255) (hd : 0 ≤ d ∧ d ≤ 255) : ∀ x ∈ wares7 a b c d, wareB x := by
  intro x hx
  unfold wares7 at hx
  simp only [List.mem_cons, List.not_mem_nil, or_false] at hx
  rcases hx with rfl | rfl
  · unfold wareB; simp only; omega
  · unfold wareB; simp only; omega
theorem nameS_plate : nameS namePlate = true := by kernel_rfl
theorem nameS_tube : nameS nameTube = true := by kernel_rfl
end Go.Proofs.YthlileddhgglnaaDoor

namespace Go.Proofs.YthlileddhgglnaaDoor
open Go.RowKit
theorem flat_len9 {α : Type} (f : α → List UInt8) (m : Nat) : ∀ l : List α, (∀ x ∈ l, (f x).length ≤ m) → (l.flatMap f).length ≤ m * l.length
  | [], _ => by simp
  | x :: l, h => by
    have h1 := h x (List.mem_cons_self ..)
    have h2 := flat_len9 f m l fun y hy => h y (List.mem_cons_of_mem _ hy)
    rw [List.flatMap_cons, List.length_append, List.length_cons, Nat.mul_succ]
    omega
end Go.Proofs.YthlileddhgglnaaDoor

namespace Go.Proofs.YthlileddhgglnaaDoor
open Go.RowKit
set_option linter.unusedVariables false
theorem part_low {c : Nat} (h : lowN c = true) : partN c = true := by unfold partN; rw [h]; rfl
theorem part_dig {c : Nat} (h : digN c = true) : partN c = true := by unfold partN; rw [h]; simp
theorem part_cap {c : Nat} (h : 65 ≤ c ∧ c ≤ 90) : partN c = true := by unfold partN capN; simp; omega
theorem part_dec (x : Int) : partW (decI x) := by
  unfold decI
  refine ⟨fun e => ?_, fun c hc => ?_⟩
  · have := dec_lng x.toNat
    rw [e] at this
    simp at this
  · have := dec_dgs x.toNat x.toNat (Nat.le_refl _) c hc
    exact part_dig (by unfold digN; simp; omega)
theorem part_name {n : ByteArray} (h : nameS n = true) : partW n.data.toList := by
  unfold nameS at h
  simp only [Bool.and_eq_true, decide_eq_true_eq, List.all_eq_true, Bool.or_eq_true] at h
  obtain ⟨⟨⟨h1, _⟩, _⟩, h4⟩ := h
  have e : n.data.toList.length = n.size := Array.length_toList
  refine ⟨fun h0 => by rw [h0] at e; simp at e; omega, fun c hc => ?_⟩
  obtain ⟨i, hi, rfl⟩ := List.getElem_of_mem hc
  have hi' : i < n.size := by omega
  have h5 := h4 i (List.mem_range.2 hi')
  have hb : (n.data.toList[i]).toNat = byteAt n i := by
    rw [← byteAt_get n i hi']
    congr 1
  rw [hb]
  rcases h5 with h5 | h5
  · exact part_low h5
  · exact part_dig h5
theorem part_well {n : ByteArray} {r c : Int} (h : (wellT n r c).isEmpty = false) : partW (wellT n r c) := by
  unfold wellT at h ⊢
  split at h
  · rename_i hk
    rw [if_pos hk]
    obtain ⟨hn, h0, h8, _, _⟩ := hk
    have k1 := part_name hn
    have k2 := part_dec (c + 1)
    refine ⟨by simp, fun x hx => ?_⟩
    simp only [List.mem_append, List.mem_cons, List.not_mem_nil, or_false] at hx
    rcases hx with (hx | rfl | rfl) | hx
    · exact k1.2 x hx
    · rfl
    · refine part_cap ?_
      have e : (UInt8.ofNat (65 + r.toNat)).toNat = 65 + r.toNat := by rw [UInt8.toNat_ofNat']; omega
      rw [e]
      omega
    · exact k2.2 x hx
  · simp at h
theorem part_const {l : List UInt8} (h : (!l.isEmpty && l.all fun c => partN c.toNat) = true) : partW l := by
  simp only [Bool.and_eq_true, List.all_eq_true] at h
  refine ⟨fun e => by rw [e] at h; simp at h, h.2⟩
/-- So are right steps'. -/
theorem step_words {s : Sp} (h : stepOk s = true) : stepL s ≠ [] ∧ ∀ w ∈ stepL s, partW w := by
  unfold stepOk at h
  simp only [Bool.and_eq_true] at h
  obtain ⟨hw, hk⟩ := h
  have hws : ∀ p ∈ s.w, partW p.t := fun p hp => by
    unfold wellsOk at hw
    rw [List.all_eq_true] at hw
    have := hw p hp
    exact part_well (by simpa [Wp.t] using this)
  have hkind : partW (kindW s.k) := by
    unfold kindW
    repeat' split
    all_goals exact part_const (by decide)
  unfold stepL
  refine ⟨by simp, fun w hw => ?_⟩
  rcases List.mem_cons.1 hw with rfl | hw
  · exact hkind
  unfold stepW at hw
  by_cases k0 : s.k = 0
  · rw [if_pos k0] at hw
    obtain rfl := List.mem_singleton.1 hw
    unfold stepK at hk
    rw [if_pos k0] at hk
    simp only [Bool.and_eq_true] at hk
    exact part_name hk.1.1.1
  rw [if_neg k0] at hw
  have hm : ∀ (l : List Wp), (∀ p ∈ l, p ∈ s.w) → ∀ w ∈ l.map Wp.t, partW w := fun l hl w hw => by
    obtain ⟨p, hp, rfl⟩ := List.mem_map.1 hw
    exact hws p (hl p hp)
  by_cases k1 : s.k = 1
  · rw [if_pos k1] at hw
    obtain rfl := List.mem_singleton.1 hw
    split <;> exact part_const (by decide)
  rw [if_neg k1] at hw
  by_cases k6 : s.k = 6
  · rw [if_pos k6] at hw
    rcases List.mem_cons.1 hw with rfl | hw
    · exact part_dec _
    · exact hm s.w (fun _ h => h) w hw
  rw [if_neg k6] at hw
  by_cases k2 : s.k = 2
  · rw [if_pos k2] at hw
    rcases List.mem_append.1 hw with hw | hw
    · exact hm s.w (fun _ h => h) w hw
    · obtain rfl := List.mem_singleton.1 hw
      exact part_dec _
  rw [if_neg k2] at hw
  by_cases k5 : s.k = 5
  · rw [if_pos k5] at hw
    rcases List.mem_append.1 hw with hw | hw
    · exact hm s.w (fun _ h => h) w hw
    · simp only [List.mem_cons, List.not_mem_nil, or_false] at hw
      rcases hw with rfl | rfl <;> exact part_dec _
  rw [if_neg k5] at hw
  rcases List.mem_append.1 hw with hw | hw
  · rcases List.mem_append.1 hw with hw | hw
    · exact hm _ (fun p hp => List.mem_of_mem_take hp) w hw
    · obtain rfl := List.mem_singleton.1 hw
      exact part_dec _
  · exact hm _ (fun p hp => List.mem_of_mem_drop hp) w hw
end Go.Proofs.YthlileddhgglnaaDoor

namespace Go.Proofs.YthlileddhgglnaaDoor
open Go.RowKit
set_option linter.unusedVariables false
/-- How many wells there are. -/
def countW : List Wr → Int
  | [] => 0
  | w :: ws => w.x * w.y + countW ws
theorem count_take {ws : List Wr} {i : Nat} {F : Wr} (h : ws[i]? = some F) : countW (ws.take (i + 1)) = countW (ws.take i) + F.x * F.y := by
  have e : ∀ (l : List Wr) (r : Wr), countW (l ++ [r]) = countW l + r.x * r.y := fun l r => by
    induction l with
    | nil => simp [countW]
    | cons x l ih => show x.x * x.y + countW (l ++ [r]) = x.x * x.y + countW l + _; rw [ih]; omega
  rw [List.take_add_one, h]
  exact e _ _
set_option maxRecDepth 100000 in
set_option maxHeartbeats 2000000 in
theorem r8count_any (wv tv fv : Value) (d : Dk) (w : World) (h : IsDk w wv tv fv d) (hb : ∀ x ∈ d.ws, wareB x) (h100 : d.ws.length ≤ 100) : Calls Tryd.prog 25 #[.agg #[wv, tv, fv]] w fun e w' => e = .returned (.int .i64 (countW d.ws)) ∧ B w w' := by
  obtain ⟨ao, ac, bo, bc, co, cc, rfl, rfl, rfl⟩ := h.forms
  have hQ := (B.refl w).alloc #[.slice ao d.ws.length ac, .slice bo d.ts.length bc, .slice co d.fs.length cc] 36
  have hR := h.ws.keepB hQ
  have oD := obj_new w (.cells #[.slice ao d.ws.length ac, .slice bo d.ts.length bc, .slice co d.fs.length cc] 36)
  obtain ⟨W, hW⟩ : ∃ W, w.alloc (.cells #[.slice ao d.ws.length ac, .slice bo d.ts.length bc, .slice co d.fs.length cc] 36) = W := ⟨_, rfl⟩
  rw [hW] at hR hQ oD
  clear h
  go_enter Tryd.func25, Tryd.ntmps25
  go_wp2_with fail
  try rw [hW]
  clear hW
  generalize w.heap.size = H at *
  go_loopw [3, 4] (fun nv iv wr => ∃ (i : Nat) (K : Int), i ≤ d.ws.length ∧ iv = .int .i64 i ∧ nv = .int .i64 K ∧ 0 ≤ K ∧ K ≤ 96 * (i : Int) ∧ K = countW (d.ws.take i) ∧ Dr W wr) (fun _ iv _ => d.ws.length + 1 - (intOf iv).toNat)
  case atStart => exact ⟨0, 0, Nat.zero_le _, rfl, rfl, by omega, by omega, rfl, Dr.refl _⟩
  case round =>
    obtain ⟨i, K, hi, rfl, rfl, hK0, hK1, hKe, n, rfl⟩ := hrel
    have k0 : (W.drewN n).cell? ⟨H, 0, none⟩ = some (.slice ao d.ws.length ac) := obj_cell (w := W.drewN n) oD 0
    by_cases hl : i < d.ws.length
    · have hlB : decide ((i : Int) < (d.ws.length : Int)) = true := decide_eq_true (by omega)
      have hlI : (i : Int) < (d.ws.length : Int) := by omega
      have hi0 : (0 : Int) ≤ (i : Int) := by omega
      have wk1 : IntKind.i64.wrap ((i : Int) + 1) = (i : Int) + 1 := by rw [IntKind.wrap_i64]; omega
      obtain ⟨a, cap, e1, _, _, hr⟩ := hR.at_ hl
      obtain ⟨rfl, _, rfl⟩ : ao = some a ∧ True ∧ ac = cap := by simpa using e1
      have hbi := hb _ (List.getElem_mem hl)
      have hT := count_take (ws := d.ws) (i := i) (List.getElem?_eq_getElem hl)
      obtain ⟨F, hF⟩ : ∃ F, d.ws[i] = F := ⟨_, rfl⟩
      rw [hF] at hr hbi hT
      obtain ⟨b1, b2, b3, b4⟩ := hbi
      obtain ⟨g1, g2, g3, _⟩ := hr
      obtain ⟨N, X, Y, Z, SL⟩ := F
      simp only at g2 g3 b1 b2 b3 b4 hT
      have g2' : ∀ m, (W.drewN m).cell? _ = _ := fun m => g2
      have g3' : ∀ m, (W.drewN m).cell? _ = _ := fun m => g3
      have hxy := mul_small (a := X) (b := Y) (by omega) b2 (by omega) b4
      rw [← hKe] at hT
      obtain ⟨P, hP⟩ : ∃ P, X * Y = P := ⟨_, rfl⟩
      rw [hP] at hxy hT
      have w1 : IntKind.i64.wrap (X * Y) = P := by rw [hP, IntKind.wrap_i64]; omega
      have w2 : IntKind.i64.wrap (K + P) = K + P := by rw [IntKind.wrap_i64]; omega
      have k0' : ∀ m, (W.drewN m).cell? ⟨H, 0, none⟩ = some (.slice (some a) d.ws.length ac) := fun m => k0
      have HX := Lib.hid (And.intro hT (And.intro (show 0 ≤ K + P ∧ K + P ≤ 96 * ((i : Int) + 1) by omega) hl))
      clear hT hKe hb hF e1 hP hxy hl hi
      go_wp2_with fail
      go_quiet (fail)
      go_wp2
      go_roundw
      case rel =>
        obtain ⟨h1, ⟨h2, h3⟩, h4⟩ := HX.out
        exact ⟨i + 1, K + P, by omega, by go_num, rfl, h2, by omega, h1.symm, _, rfl⟩
      case measure => have := HX.out; simp [intOf]; omega
    · have hlB : decide ((i : Int) < (d.ws.length : Int)) = false := decide_eq_false (by omega)
      have hlN : decide (i < d.ws.length) = false := decide_eq_false hl
      rw [List.take_of_length_le (by omega)] at hKe
      have HX := Lib.hid (And.intro hKe (hQ.drewN n))
      clear hKe hl
      go_wp2
      go_ret
      exact ⟨by rw [← HX.out.1]; rfl, HX.out.2⟩
end Go.Proofs.YthlileddhgglnaaDoor

namespace Go.Proofs.YthlileddhgglnaaDoor
open Go.RowKit
set_option linter.unusedVariables false
/-- A piece: of a protocol. -/
structure Pz where
  k : Nat
  a : Nat
  b : Nat
  c : Nat
  v : Nat
def wpAt (ws : List Wr) (i : Nat) : Wp := match atW ws (i : Int) with
  | some (n, r, c) => ⟨n, r, c⟩
  | none => ⟨⟨#[]⟩, 0, 0⟩
def pieceV (p : Pz) : Int := if p.v % 7 = 0 then ((p.v % 90000 + 1 : Nat) : Int) else ((p.v % 9000 + 1 : Nat) : Int)
def pieceW (ws : List Wr) (p : Pz) : List Wp := [wpAt ws (p.a % (countW ws).toNat), wpAt ws (p.b % (countW ws).toNat), wpAt ws (p.c % (countW ws).toNat)]
/-- A piece's step. -/
def pieceS (d : Dk) (p : Pz) : Sp :=
  if p.k % 10 = 0 then ⟨0, if p.a % 2 = 1 ∧ 2 ≤ d.ts.length then nameT2 else nameT1, [], 0, 0⟩
  else if p.k % 10 = 1 then ⟨1, ⟨#[]⟩, [], 0, ((p.a % 2 : Nat) : Int)⟩
  else if p.k % 10 = 2 then ⟨3, ⟨#[]⟩, pieceW d.ws p, pieceV p, 0⟩
  else if p.k % 10 = 3 then ⟨4, ⟨#[]⟩, pieceW d.ws p, pieceV p, 0⟩
  else if p.k % 10 = 4 then ⟨5, ⟨#[]⟩, (pieceW d.ws p).take 1, pieceV p, ((p.b % 3 + 1 : Nat) : Int)⟩
  else if p.k % 10 = 5 then ⟨6, ⟨#[]⟩, pieceW d.ws p, pieceV p, 0⟩
  else ⟨2, ⟨#[]⟩, (pieceW d.ws p).take 2, pieceV p, 0⟩
def seatSteps (d : Dk) (ps : List Pz) : List Sp := ⟨0, nameT1, [], 0, 0⟩ :: ps.map (pieceS d)
theorem at_some : ∀ (ws : List Wr) (k : Int), (∀ x ∈ ws, wareB x) → 0 ≤ k → k < countW ws → ∃ v ∈ ws, ∃ r c : Int, atW ws k = some (v.n, r, c) ∧ 0 ≤ r ∧ r < 8 ∧ 0 ≤ c ∧ c < 12
  | [], k, _, h0, h1 => by simp [countW] at h1; omega
  | w :: ws, k, hb, h0, h1 => by
    obtain ⟨b1, b2, b3, b4⟩ := hb w (List.mem_cons_self ..)
    rw [atW, if_neg (by omega)]
    by_cases h2 : k < w.x * w.y
    · rw [if_pos h2]
      have e1 := Int.emod_nonneg k (by omega : w.y ≠ 0)
      have e2 := Int.emod_lt_of_pos k (by omega : 0 < w.y)
      have e3 := Int.ediv_nonneg h0 (by omega : 0 ≤ w.y)
      have e4 : k / w.y < w.x := Int.ediv_lt_of_lt_mul (by omega) (by rw [Int.mul_comm] at h2; rw [Int.mul_comm]; exact h2)
      exact ⟨w, List.mem_cons_self .., _, _, rfl, e3, by omega, e1, by omega⟩
    · rw [if_neg h2]
      have h3 : countW (w :: ws) = w.x * w.y + countW ws := rfl
      obtain ⟨v, hv, r, c, h4⟩ := at_some ws (k - w.x * w.y) (fun x hx => hb x (List.mem_cons_of_mem _ hx)) (by omega) (by omega)
      exact ⟨v, List.mem_cons_of_mem _ hv, r, c, h4⟩
theorem wp_right {ws : List Wr} (hb : ∀ x ∈ ws, wareB x) (hn : ∀ x ∈ ws, nameS x.n = true) {i : Nat} (hi : (i : Int) < countW ws) : (wpAt ws i).t.isEmpty = false := by
  obtain ⟨v, hv, r, c, e, r0, r8, c0, c12⟩ := at_some ws i hb (by omega) hi
  unfold wpAt Wp.t
  rw [e]
  simp only
  unfold wellT
  rw [if_pos ⟨hn v hv, r0, r8, c0, c12⟩]
  simp
theorem piece_ok {d : Dk} (hb : ∀ x ∈ d.ws, wareB x) (hn : ∀ x ∈ d.ws, nameS x.n = true) (hc : 0 < countW d.ws) (p : Pz) : stepOk (pieceS d p) = true := by
  have hm : ∀ i : Nat, ((i % (countW d.ws).toNat : Nat) : Int) < countW d.ws := fun i => by
    have := Nat.mod_lt i (show 0 < (countW d.ws).toNat by omega)
    omega
  have hw : ∀ q ∈ pieceW d.ws p, q.t.isEmpty = false := fun q hq => by
    unfold pieceW at hq
    simp only [List.mem_cons, List.not_mem_nil, or_false] at hq
    rcases hq with rfl | rfl | rfl <;> exact wp_right hb hn (hm _)
  have ok : ∀ l : List Wp, (∀ q ∈ l, q ∈ pieceW d.ws p) → wellsOk l = true := fun l hl => by
    unfold wellsOk
    rw [List.all_eq_true]
    intro q hq
    rw [hw q (hl q hq)]
    rfl
  have hV : inB (pieceV p) 1 20000000 = true := by
    rw [inB_iff]
    unfold pieceV
    split <;> omega
  have hlen : (pieceW d.ws p).length = 3 := rfl
  have t1 : ((pieceW d.ws p).take 1).length = 1 := rfl
  have t2 : ((pieceW d.ws p).take 2).length = 2 := rfl
  have hE : (({ data := #[] } : ByteArray).toList == []) = true := by rw [toList_data]; rfl
  unfold pieceS stepOk
  split
  · simp only [wellsOk, List.all_nil, Bool.true_and]
    unfold stepK
    simp only [if_true]
    split <;> rfl
  split
  · simp only [wellsOk, List.all_nil, Bool.true_and]
    unfold stepK
    have h2 : p.a % 2 = 0 ∨ p.a % 2 = 1 := by omega
    rcases h2 with h2 | h2 <;> rw [h2] <;> simp
  split
  · rw [ok _ (fun _ h => h)]
    unfold stepK
    simp [hV, hlen]
  split
  · rw [ok _ (fun _ h => h)]
    unfold stepK
    simp [hV, hlen]
  split
  · rw [ok _ (fun _ h => List.mem_of_mem_take h)]
    unfold stepK
    have h3 : inB ((p.b % 3 + 1 : Nat) : Int) 1 20 = true := by rw [inB_iff]; omega
    simp only [hV, h3, t1, hE]
    simp
  split
  · rw [ok _ (fun _ h => h)]
    unfold stepK
    simp [hV, hlen]
  · rw [ok _ (fun _ h => List.mem_of_mem_take h)]
    unfold stepK
    simp only [hV, t2, hE]
    simp
end Go.Proofs.YthlileddhgglnaaDoor

namespace Go.Proofs.YthlileddhgglnaaDoor
open Go.RowKit
set_option linter.unusedVariables false
theorem kindW_len (k : Int) : (kindW k).length ≤ 8 := by
  unfold kindW
  repeat (first | (split) | decide)
theorem decI_len {x : Nat} (h : x ≤ 10000000000000) : (decI (x : Int)).length ≤ 20 := by
  have := decS_size h
  rw [decS_strB, strB_size] at this
  exact this
theorem pieceV_nat (p : Pz) : ∃ n : Nat, pieceV p = (n : Int) ∧ n ≤ 90000 := by
  unfold pieceV
  split
  · exact ⟨_, rfl, by omega⟩
  · exact ⟨_, rfl, by omega⟩
theorem piece_len (d : Dk) (p : Pz) : (lineT (stepL (pieceS d p))).length ≤ 300 := by
  obtain ⟨n, hn, hn9⟩ := pieceV_nat p
  have hv := decI_len (x := n) (by omega)
  have h3 := wellsT_len (pieceW d.ws p)
  have l3 : (pieceW d.ws p).length = 3 := rfl
  have h1 := wellsT_len ((pieceW d.ws p).take 1)
  have l1 : ((pieceW d.ws p).take 1).length = 1 := rfl
  have h2 := wellsT_len ((pieceW d.ws p).take 2)
  have l2 : ((pieceW d.ws p).take 2).length = 2 := rfl
  have hd := wellsT_len ((pieceW d.ws p).drop 1)
  have ld : ((pieceW d.ws p).drop 1).length = 2 := rfl
  have k0 := kindW_len 0
  have k1 := kindW_len 1
  have k2 := kindW_len 2
  have k3 := kindW_len 3
  have k4 := kindW_len 4
  have k5 := kindW_len 5
  have k6 := kindW_len 6
  unfold pieceS
  rw [hn]
  split
  · rw [sl_0]
    simp only [List.length_append, List.length_cons, List.length_nil]
    split
    · have : nameT2.data.toList.length = 2 := rfl
      omega
    · have : nameT1.data.toList.length = 2 := rfl
      omega
  split
  · have hA : p.a % 2 = 0 ∨ p.a % 2 = 1 := by omega
    rcases hA with hA | hA <;> rw [hA]
    · have := sl_1a ⟨#[]⟩ [] 0
      rw [show ((0 : Nat) : Int) = 0 from rfl, this]
      simp only [List.length_append, List.length_cons, List.length_nil]
      omega
    · have := sl_1b ⟨#[]⟩ [] 0
      rw [show ((1 : Nat) : Int) = 1 from rfl, this]
      simp only [List.length_append, List.length_cons, List.length_nil]
      omega
  split
  · rw [sl_34 (.inl rfl)]
    simp only [List.length_append, List.length_cons, List.length_nil]
    omega
  split
  · rw [sl_34 (.inr rfl)]
    simp only [List.length_append, List.length_cons, List.length_nil]
    omega
  split
  · have hb := decI_len (x := p.b % 3 + 1) (by omega)
    rw [sl_5]
    simp only [List.length_append, List.length_cons, List.length_nil]
    omega
  split
  · rw [sl_6]
    simp only [List.length_append, List.length_cons, List.length_nil]
    omega
  · rw [sl_2]
    simp only [List.length_append, List.length_cons, List.length_nil]
    omega
theorem seat_steps_ok {d : Dk} (hb : ∀ x ∈ d.ws, wareB x) (hn : ∀ x ∈ d.ws, nameS x.n = true) (hc : 0 < countW d.ws) {ps : List Pz} (hp : ps.length ≤ 100) : stepsOk (seatSteps d ps) = true ∧ ∀ s ∈ seatSteps d ps, stepOk s = true := by
  have h : ∀ s ∈ seatSteps d ps, stepOk s = true := fun s hs => by
    unfold seatSteps at hs
    rw [List.mem_cons] at hs
    rcases hs with rfl | hs
    · rfl
    · obtain ⟨p, _, rfl⟩ := List.mem_map.1 hs
      exact piece_ok hb hn hc p
  refine ⟨?_, h⟩
  unfold stepsOk
  rw [Bool.and_eq_true, decide_eq_true_eq, List.all_eq_true]
  exact ⟨by unfold seatSteps; simp; omega, h⟩
theorem lineT_ge (l : List (List UInt8)) : l.length ≤ (lineT l).length + 0 ∧ 1 ≤ (lineT l).length ∧ ∀ x ∈ l, x.length ≤ (lineT l).length := by
  cases l with
  | nil => exact ⟨by simp, by decide, fun x hx => by simp at hx⟩
  | cons w ws =>
    rw [lineT_words]
    have h : ∀ ws : List (List UInt8), ws.length ≤ (ws.flatMap fun x => 32 :: x).length ∧ ∀ x ∈ ws, x.length ≤ (ws.flatMap fun x => 32 :: x).length := by
      intro ws
      induction ws with
      | nil => exact ⟨by simp, fun x hx => by simp at hx⟩
      | cons y ws ih =>
        rw [List.flatMap_cons, List.length_append, List.length_cons, List.length_cons]
        refine ⟨by omega, fun x hx => ?_⟩
        rw [List.mem_cons] at hx
        rcases hx with rfl | hx
        · omega
        · have := ih.2 x hx; omega
    obtain ⟨h1, h2⟩ := h ws
    simp only [List.length_append, List.length_cons, List.length_nil]
    refine ⟨by omega, by omega, fun x hx => ?_⟩
    rw [List.mem_cons] at hx
    rcases hx with rfl | hx
    · omega
    · have := h2 x hx; omega
theorem flat_ge : ∀ (L : List (List (List UInt8))), L.length ≤ (L.flatMap lineT).length ∧ ∀ l ∈ L, (lineT l).length ≤ (L.flatMap lineT).length
  | [] => ⟨by simp, fun l hl => by simp at hl⟩
  | l :: L => by
    obtain ⟨h1, h2⟩ := flat_ge L
    have h3 := (lineT_ge l).2.1
    rw [List.flatMap_cons, List.length_append, List.length_cons]
    refine ⟨by omega, fun x hx => ?_⟩
    rw [List.mem_cons] at hx
    rcases hx with rfl | hx
    · omega
    · have := h2 x hx; omega
end Go.Proofs.YthlileddhgglnaaDoor

namespace Go.Proofs.YthlileddhgglnaaDoor
open Go.RowKit
set_option linter.unusedVariables false
/-- A row of cells that comes in: nil, or cells from an address on. -/
def RowIn (w : World) (v : Value) (m : Nat) (news : List Value) : Prop :=
  (v = .slice none 0 0 ∧ m = 0 ∧ news = []) ∨ ∃ (ad : Addr) (c : Nat), v = .slice (some ad) m c ∧ ∀ j u, news[j]? = some u → w.cell? (ad.add j) = some u
theorem RowIn.keepB {w w' : World} {v : Value} {m : Nat} {news : List Value} (h : RowIn w v m news) (q : B w w') : RowIn w' v m news := by
  rcases h with h | ⟨ad, c, h1, h2⟩
  · exact .inl h
  · exact .inr ⟨ad, c, h1, fun j u hj => q.keep (h2 j u hj)⟩
theorem RowIn.form {w : World} {v : Value} {m : Nat} {news : List Value} (h : RowIn w v m news) : ∃ ao cap, v = .slice ao m cap := by
  rcases h with ⟨rfl, rfl, _⟩ | ⟨ad, c, rfl, _⟩
  · exact ⟨_, _, rfl⟩
  · exact ⟨_, _, rfl⟩
theorem ownsRow_form {w : World} {base : Nat} {e : TypeId} {size n : Nat} {v : Value} {xs : List Value} (h : w.ownsRow base e size v n xs) : ∃ o c, v = .slice o n c := by
  rcases h.2 with ⟨rfl, rfl⟩ | ⟨g, cap, cur, rfl, _⟩
  · exact ⟨_, _, rfl⟩
  · exact ⟨_, _, rfl⟩
theorem copy_run {P : Program} (w : World) (t ty e : TypeId) (i : TypeInfo) (z : Value) (size bytes : Nat) (ht : P.underlying t = some (.slice e)) (hi : P.info? e = some i) (hz : i.zero = some z)
    (hsize : i.size = size) (hby : i.bytes = bytes) (hzs : z.cells.size = size) (hsz : 0 < size) (v : Value) (m : Nat) (news : List Value) (hv : RowIn w v m news) (hl : news.length = m * size) (h1 : ∀ u ∈ news, u.oneCell' = true)
    (h63 : m ≤ maxLen) (hbytes : m * bytes ≤ 140737488355328) :
    ∃ o c w', (Builtin.append_ #[t, t] ty #[.slice none 0 0, v]).run P w = .ok (.slice o m c) w' ∧ w'.ownsRow w.heap.size e size (.slice o m c) m news ∧ B w w' := by
  rcases hv with ⟨rfl, rfl, rfl⟩ | ⟨ad, c, rfl, hc⟩
  · exact ⟨none, 0, w, run_append_owned_none w w.heap.size t ty e i size ht hi _ 0 [] (World.ownsRow_nil _ _ _ _), World.ownsRow_nil _ _ _ _, B.refl w⟩
  · obtain ⟨v', w', hr, h2, h3, _, h5⟩ := run_append_own_at (P := P) w w.heap.size t ty e i z size bytes ht hi hz hsize hby hzs hsz (.slice none 0 0) 0 [] (World.ownsRow_nil _ _ _ _) ad m c news hl hc h1 (by omega) (by simpa using hbytes) (Nat.le_refl _)
    simp only [Nat.zero_add, List.nil_append] at h2
    obtain ⟨o, c', rfl⟩ := ownsRow_form h2
    exact ⟨o, c', w', hr, h2, (B.refl w).grownBy h3 (fun _ h => by cases h)⟩
theorem wpList_copy {P : Program} (w : World) {ops : Array Oper} {rest : List Oper} {o : Oper} {a : Act} {Q : Exit → Act → World → Prop} (hgd : o.guard = none) (s x : Operand) (t : TypeId)
    (ho : o.op = .call { callee := .builtin .append, args := #[s, x], argTypes := #[t, t] })
    (e : TypeId) (i : TypeInfo) (z : Value) (size bytes : Nat) (ht : P.underlying t = some (.slice e)) (hi : P.info? e = some i) (hz : i.zero = some z)
    (hsize : i.size = size) (hby : i.bytes = bytes) (hzs : z.cells.size = size) (hsz : 0 < size) (v : Value) (hs : a.eval s = .slice none 0 0) (hx : a.eval x = v) (m : Nat) (news : List Value) (hv : RowIn w v m news) (hl : news.length = m * size) (h1 : ∀ u ∈ news, u.oneCell' = true)
    (h63 : m ≤ maxLen) (hbytes : m * bytes ≤ 140737488355328)
    (h : ∀ oN cN w', w'.ownsRow w.heap.size e size (.slice oN m cN) m news → B w w' → wpList P ops Q rest (a.put o.dst (.slice oN m cN)) w') : wpList P ops Q (o :: rest) a w :=
  wpList_plain hgd fun K hK => by
    obtain ⟨oN, cN, w', hr, h2, h3⟩ := copy_run (P := P) w t o.type e i z size bytes ht hi hz hsize hby hzs hsz v m news hv hl h1 h63 hbytes
    unfold Oper.wp execOp
    simp only [ho, resolve, invoke, builtin, Sem.run_bind, Sem.run_pure, Result.andThen_ok, List.map_toArray, List.map_cons, List.map_nil, hs, hx, hr]
    exact hK _ _ (h oN cN w' h2 h3)
end Go.Proofs.YthlileddhgglnaaDoor

namespace Go.Proofs.YthlileddhgglnaaDoor
open Go.RowKit
def IsLnO (w : World) (v : Value) (LL : List (List Wd)) : Prop :=
  (v = .slice none 0 0 ∧ LL = []) ∨
  ∃ g o cap, v = .slice (some ⟨g, o, none⟩) LL.length cap ∧ LL.length ≤ cap ∧ cap ≤ maxLen ∧ ∀ i L, LL[i]? = some L → ∃ u, w.cell? ⟨g, o + i, none⟩ = some u ∧ IsWords w u L
theorem IsLnO.keep {w w' : World} {v : Value} {LL : List (List Wd)} (h : IsLnO w v LL) (q : B w w') : IsLnO w' v LL := by
  rcases h with h | ⟨g, o, cap, h1, h2, h3, h4⟩
  · exact .inl h
  · exact .inr ⟨g, o, cap, h1, h2, h3, fun i L hL => let ⟨u, k1, k2⟩ := h4 i L hL; ⟨u, q.keep k1, k2.keep q⟩⟩
theorem IsLnO.form {w : World} {v : Value} {LL : List (List Wd)} (h : IsLnO w v LL) : ∃ ao cap, v = .slice ao LL.length cap := by
  rcases h with ⟨rfl, rfl⟩ | ⟨g, o, cap, rfl, _⟩ <;> exact ⟨_, _, rfl⟩
theorem IsLnO.at_ {w : World} {v : Value} {LL : List (List Wd)} (h : IsLnO w v LL) {i : Nat} (hi : i < LL.length) : ∃ g o cap u, v = .slice (some ⟨g, o, none⟩) LL.length cap ∧ w.cell? ⟨g, o + i, none⟩ = some u ∧ IsWords w u LL[i] := by
  rcases h with ⟨_, rfl⟩ | ⟨g, o, cap, h1, _, _, h4⟩
  · simp at hi
  · obtain ⟨u, k1, k2⟩ := h4 i _ (List.getElem?_eq_getElem hi)
    exact ⟨g, o, cap, u, h1, k1, k2⟩
theorem IsLines.lnO {w : World} {v : Value} {LL : List (List Wd)} (h : IsLines w v LL) : IsLnO w v LL := by
  rcases h with h | ⟨g, cap, h1, h2, h3, h4⟩
  · exact .inl h
  · exact .inr ⟨g, 0, cap, h1, h2, h3, fun i L hL => by rw [Nat.zero_add]; exact h4 i L hL⟩
/-- What stands behind the first k. -/
theorem IsLnO.drop {w : World} {g o cap : Nat} {LL : List (List Wd)} (h : IsLnO w (.slice (some ⟨g, o, none⟩) LL.length cap) LL) {k : Nat} (hk : k ≤ LL.length) :
    IsLnO w (.slice (some ⟨g, o + k, none⟩) (LL.length - k) (cap - k)) (LL.drop k) := by
  rcases h with ⟨e, _⟩ | ⟨g', o', cap', e, h2, h3, h4⟩
  · simp at e
  · obtain ⟨⟨rfl, rfl⟩, rfl⟩ : (g = g' ∧ o = o') ∧ cap = cap' := by simpa using e
    refine .inr ⟨g, o + k, cap - k, by rw [List.length_drop], by rw [List.length_drop]; omega, by omega, fun i L hL => ?_⟩
    rw [List.getElem?_drop] at hL
    obtain ⟨u, k1, k2⟩ := h4 _ L hL
    exact ⟨u, by rw [show o + k + i = o + (k + i) by omega]; exact k1, k2⟩
end Go.Proofs.YthlileddhgglnaaDoor

namespace Go.Proofs.YthlileddhgglnaaDoor
open Go.RowKit
theorem kind_any (n : Nat) (w : World) : Calls Tryd.prog 63 #[.int .u8 (n : Int)] w fun e w' => e = .returned (.int .i64 ((kindN n : Nat) : Int)) ∧ w = w' := by
  have cs : (n < 9) ∨ (n = 9) ∨ (n = 10) ∨ (11 ≤ n ∧ n ≤ 31) ∨ (n = 32) ∨ (33 ≤ n ∧ n ≤ 34) ∨ (n = 35) ∨ (36 ≤ n ∧ n ≤ 45) ∨ (n = 46) ∨ (n = 47) ∨ (48 ≤ n ∧ n ≤ 57) ∨ (58 ≤ n ∧ n ≤ 64) ∨ (65 ≤ n ∧ n ≤ 90) ∨ (91 ≤ n ∧ n ≤ 96) ∨ (97 ≤ n ∧ n ≤ 122) ∨ (122 < n) := by omega
  rcases cs with c | c | c | c | c | c | c | c | c | c | c | c | c | c | c | c
  · have hk : kindN n = 0 := by unfold kindN lowN capN digN; simp only [Bool.and_eq_true, decide_eq_true_eq]; repeat (first | rw [if_pos (by omega)] | rw [if_neg (by omega)])
    rw [hk]
    have g97 : decide ((97 : Int) ≤ (n : Int)) = false := decide_eq_false (by omega)
    have g65 : decide ((65 : Int) ≤ (n : Int)) = false := decide_eq_false (by omega)
    have g48 : decide ((48 : Int) ≤ (n : Int)) = false := decide_eq_false (by omega)
    have l122 : decide ((n : Int) ≤ 122) = true := decide_eq_true (by omega)
    have l90 : decide ((n : Int) ≤ 90) = true := decide_eq_true (by omega)
    have l57 : decide ((n : Int) ≤ 57) = true := decide_eq_true (by omega)
    have e46 : ((n : Int) == 46) = false := by simp; omega
    have e32 : ((n : Int) == 32) = false := by simp; omega
    have e9 : ((n : Int) == 9) = false := by simp; omega
    have e10 : ((n : Int) == 10) = false := by simp; omega
    have e35 : ((n : Int) == 35) = false := by simp; omega
    clear c hk
    go_enter Tryd.func63, Tryd.ntmps63
    go_wp2
    go_ret
    exact ⟨rfl, rfl⟩
  · have hk : kindN n = 5 := by unfold kindN lowN capN digN; simp only [Bool.and_eq_true, decide_eq_true_eq]; repeat (first | rw [if_pos (by omega)] | rw [if_neg (by omega)])
    rw [hk]
    have g97 : decide ((97 : Int) ≤ (n : Int)) = false := decide_eq_false (by omega)
    have g65 : decide ((65 : Int) ≤ (n : Int)) = false := decide_eq_false (by omega)
    have g48 : decide ((48 : Int) ≤ (n : Int)) = false := decide_eq_false (by omega)
    have l122 : decide ((n : Int) ≤ 122) = true := decide_eq_true (by omega)
    have l90 : decide ((n : Int) ≤ 90) = true := decide_eq_true (by omega)
    have l57 : decide ((n : Int) ≤ 57) = true := decide_eq_true (by omega)
    have e46 : ((n : Int) == 46) = false := by simp; omega
    have e32 : ((n : Int) == 32) = false := by simp; omega
    have e9 : ((n : Int) == 9) = true := by simp; omega
    have e10 : ((n : Int) == 10) = false := by simp; omega
    have e35 : ((n : Int) == 35) = false := by simp; omega
    clear c hk
    go_enter Tryd.func63, Tryd.ntmps63
    go_wp2
    go_ret
    exact ⟨rfl, rfl⟩
  · have hk : kindN n = 6 := by unfold kindN lowN capN digN; simp only [Bool.and_eq_true, decide_eq_true_eq]; repeat (first | rw [if_pos (by omega)] | rw [if_neg (by omega)])
    rw [hk]
    have g97 : decide ((97 : Int) ≤ (n : Int)) = false := decide_eq_false (by omega)
    have g65 : decide ((65 : Int) ≤ (n : Int)) = false := decide_eq_false (by omega)
    have g48 : decide ((48 : Int) ≤ (n : Int)) = false := decide_eq_false (by omega)
    have l122 : decide ((n : Int) ≤ 122) = true := decide_eq_true (by omega)
    have l90 : decide ((n : Int) ≤ 90) = true := decide_eq_true (by omega)
    have l57 : decide ((n : Int) ≤ 57) = true := decide_eq_true (by omega)
    have e46 : ((n : Int) == 46) = false := by simp; omega
    have e32 : ((n : Int) == 32) = false := by simp; omega
    have e9 : ((n : Int) == 9) = false := by simp; omega
    have e10 : ((n : Int) == 10) = true := by simp; omega
    have e35 : ((n : Int) == 35) = false := by simp; omega
    clear c hk
    go_enter Tryd.func63, Tryd.ntmps63
    go_wp2
    go_ret
    exact ⟨rfl, rfl⟩
  · have hk : kindN n = 0 := by unfold kindN lowN capN digN; simp only [Bool.and_eq_true, decide_eq_true_eq]; repeat (first | rw [if_pos (by omega)] | rw [if_neg (by omega)])
    rw [hk]
    have g97 : decide ((97 : Int) ≤ (n : Int)) = false := decide_eq_false (by omega)
    have g65 : decide ((65 : Int) ≤ (n : Int)) = false := decide_eq_false (by omega)
    have g48 : decide ((48 : Int) ≤ (n : Int)) = false := decide_eq_false (by omega)
    have l122 : decide ((n : Int) ≤ 122) = true := decide_eq_true (by omega)
    have l90 : decide ((n : Int) ≤ 90) = true := decide_eq_true (by omega)
    have l57 : decide ((n : Int) ≤ 57) = true := decide_eq_true (by omega)
    have e46 : ((n : Int) == 46) = false := by simp; omega
    have e32 : ((n : Int) == 32) = false := by simp; omega
    have e9 : ((n : Int) == 9) = false := by simp; omega
    have e10 : ((n : Int) == 10) = false := by simp; omega
    have e35 : ((n : Int) == 35) = false := by simp; omega
    clear c hk
    go_enter Tryd.func63, Tryd.ntmps63
    go_wp2
    go_ret
    exact ⟨rfl, rfl⟩
  · have hk : kindN n = 5 := by unfold kindN lowN capN digN; simp only [Bool.and_eq_true, decide_eq_true_eq]; repeat (first | rw [if_pos (by omega)] | rw [if_neg (by omega)])
    rw [hk]
    have g97 : decide ((97 : Int) ≤ (n : Int)) = false := decide_eq_false (by omega)
    have g65 : decide ((65 : Int) ≤ (n : Int)) = false := decide_eq_false (by omega)
    have g48 : decide ((48 : Int) ≤ (n : Int)) = false := decide_eq_false (by omega)
    have l122 : decide ((n : Int) ≤ 122) = true := decide_eq_true (by omega)
    have l90 : decide ((n : Int) ≤ 90) = true := decide_eq_true (by omega)
    have l57 : decide ((n : Int) ≤ 57) = true := decide_eq_true (by omega)
    have e46 : ((n : Int) == 46) = false := by simp; omega
    have e32 : ((n : Int) == 32) = true := by simp; omega
    have e9 : ((n : Int) == 9) = false := by simp; omega
    have e10 : ((n : Int) == 10) = false := by simp; omega
    have e35 : ((n : Int) == 35) = false := by simp; omega
    clear c hk
    go_enter Tryd.func63, Tryd.ntmps63
    go_wp2
    go_ret
    exact ⟨rfl, rfl⟩
  · have hk : kindN n = 0 := by unfold kindN lowN capN digN; simp only [Bool.and_eq_true, decide_eq_true_eq]; repeat (first | rw [if_pos (by omega)] | rw [if_neg (by omega)])
    rw [hk]
    have g97 : decide ((97 : Int) ≤ (n : Int)) = false := decide_eq_false (by omega)
    have g65 : decide ((65 : Int) ≤ (n : Int)) = false := decide_eq_false (by omega)
    have g48 : decide ((48 : Int) ≤ (n : Int)) = false := decide_eq_false (by omega)
    have l122 : decide ((n : Int) ≤ 122) = true := decide_eq_true (by omega)
    have l90 : decide ((n : Int) ≤ 90) = true := decide_eq_true (by omega)
    have l57 : decide ((n : Int) ≤ 57) = true := decide_eq_true (by omega)
    have e46 : ((n : Int) == 46) = false := by simp; omega
    have e32 : ((n : Int) == 32) = false := by simp; omega
    have e9 : ((n : Int) == 9) = false := by simp; omega
    have e10 : ((n : Int) == 10) = false := by simp; omega
    have e35 : ((n : Int) == 35) = false := by simp; omega
    clear c hk
    go_enter Tryd.func63, Tryd.ntmps63
    go_wp2
    go_ret
    exact ⟨rfl, rfl⟩
  · have hk : kindN n = 7 := by unfold kindN lowN capN digN; simp only [Bool.and_eq_true, decide_eq_true_eq]; repeat (first | rw [if_pos (by omega)] | rw [if_neg (by omega)])
    rw [hk]
    have g97 : decide ((97 : Int) ≤ (n : Int)) = false := decide_eq_false (by omega)
    have g65 : decide ((65 : Int) ≤ (n : Int)) = false := decide_eq_false (by omega)
    have g48 : decide ((48 : Int) ≤ (n : Int)) = false := decide_eq_false (by omega)
    have l122 : decide ((n : Int) ≤ 122) = true := decide_eq_true (by omega)
    have l90 : decide ((n : Int) ≤ 90) = true := decide_eq_true (by omega)
    have l57 : decide ((n : Int) ≤ 57) = true := decide_eq_true (by omega)
    have e46 : ((n : Int) == 46) = false := by simp; omega
    have e32 : ((n : Int) == 32) = false := by simp; omega
    have e9 : ((n : Int) == 9) = false := by simp; omega
    have e10 : ((n : Int) == 10) = false := by simp; omega
    have e35 : ((n : Int) == 35) = true := by simp; omega
    clear c hk
    go_enter Tryd.func63, Tryd.ntmps63
    go_wp2
    go_ret
    exact ⟨rfl, rfl⟩
  · have hk : kindN n = 0 := by unfold kindN lowN capN digN; simp only [Bool.and_eq_true, decide_eq_true_eq]; repeat (first | rw [if_pos (by omega)] | rw [if_neg (by omega)])
    rw [hk]
    have g97 : decide ((97 : Int) ≤ (n : Int)) = false := decide_eq_false (by omega)
    have g65 : decide ((65 : Int) ≤ (n : Int)) = false := decide_eq_false (by omega)
    have g48 : decide ((48 : Int) ≤ (n : Int)) = false := decide_eq_false (by omega)
    have l122 : decide ((n : Int) ≤ 122) = true := decide_eq_true (by omega)
    have l90 : decide ((n : Int) ≤ 90) = true := decide_eq_true (by omega)
    have l57 : decide ((n : Int) ≤ 57) = true := decide_eq_true (by omega)
    have e46 : ((n : Int) == 46) = false := by simp; omega
    have e32 : ((n : Int) == 32) = false := by simp; omega
    have e9 : ((n : Int) == 9) = false := by simp; omega
    have e10 : ((n : Int) == 10) = false := by simp; omega
    have e35 : ((n : Int) == 35) = false := by simp; omega
    clear c hk
    go_enter Tryd.func63, Tryd.ntmps63
    go_wp2
    go_ret
    exact ⟨rfl, rfl⟩
  · have hk : kindN n = 4 := by unfold kindN lowN capN digN; simp only [Bool.and_eq_true, decide_eq_true_eq]; repeat (first | rw [if_pos (by omega)] | rw [if_neg (by omega)])
    rw [hk]
    have g97 : decide ((97 : Int) ≤ (n : Int)) = false := decide_eq_false (by omega)
    have g65 : decide ((65 : Int) ≤ (n : Int)) = false := decide_eq_false (by omega)
    have g48 : decide ((48 : Int) ≤ (n : Int)) = false := decide_eq_false (by omega)
    have l122 : decide ((n : Int) ≤ 122) = true := decide_eq_true (by omega)
    have l90 : decide ((n : Int) ≤ 90) = true := decide_eq_true (by omega)
    have l57 : decide ((n : Int) ≤ 57) = true := decide_eq_true (by omega)
    have e46 : ((n : Int) == 46) = true := by simp; omega
    have e32 : ((n : Int) == 32) = false := by simp; omega
    have e9 : ((n : Int) == 9) = false := by simp; omega
    have e10 : ((n : Int) == 10) = false := by simp; omega
    have e35 : ((n : Int) == 35) = false := by simp; omega
    clear c hk
    go_enter Tryd.func63, Tryd.ntmps63
    go_wp2
    go_ret
    exact ⟨rfl, rfl⟩
  · have hk : kindN n = 0 := by unfold kindN lowN capN digN; simp only [Bool.and_eq_true, decide_eq_true_eq]; repeat (first | rw [if_pos (by omega)] | rw [if_neg (by omega)])
    rw [hk]
    have g97 : decide ((97 : Int) ≤ (n : Int)) = false := decide_eq_false (by omega)
    have g65 : decide ((65 : Int) ≤ (n : Int)) = false := decide_eq_false (by omega)
    have g48 : decide ((48 : Int) ≤ (n : Int)) = false := decide_eq_false (by omega)
    have l122 : decide ((n : Int) ≤ 122) = true := decide_eq_true (by omega)
    have l90 : decide ((n : Int) ≤ 90) = true := decide_eq_true (by omega)
    have l57 : decide ((n : Int) ≤ 57) = true := decide_eq_true (by omega)
    have e46 : ((n : Int) == 46) = false := by simp; omega
    have e32 : ((n : Int) == 32) = false := by simp; omega
    have e9 : ((n : Int) == 9) = false := by simp; omega
    have e10 : ((n : Int) == 10) = false := by simp; omega
    have e35 : ((n : Int) == 35) = false := by simp; omega
    clear c hk
    go_enter Tryd.func63, Tryd.ntmps63
    go_wp2
    go_ret
    exact ⟨rfl, rfl⟩
  · have hk : kindN n = 3 := by unfold kindN lowN capN digN; simp only [Bool.and_eq_true, decide_eq_true_eq]; repeat (first | rw [if_pos (by omega)] | rw [if_neg (by omega)])
    rw [hk]
    have g97 : decide ((97 : Int) ≤ (n : Int)) = false := decide_eq_false (by omega)
    have g65 : decide ((65 : Int) ≤ (n : Int)) = false := decide_eq_false (by omega)
    have g48 : decide ((48 : Int) ≤ (n : Int)) = true := decide_eq_true (by omega)
    have l122 : decide ((n : Int) ≤ 122) = true := decide_eq_true (by omega)
    have l90 : decide ((n : Int) ≤ 90) = true := decide_eq_true (by omega)
    have l57 : decide ((n : Int) ≤ 57) = true := decide_eq_true (by omega)
    have e46 : ((n : Int) == 46) = false := by simp; omega
    have e32 : ((n : Int) == 32) = false := by simp; omega
    have e9 : ((n : Int) == 9) = false := by simp; omega
    have e10 : ((n : Int) == 10) = false := by simp; omega
    have e35 : ((n : Int) == 35) = false := by simp; omega
    clear c hk
    go_enter Tryd.func63, Tryd.ntmps63
    go_wp2
    go_ret
    exact ⟨rfl, rfl⟩
  · have hk : kindN n = 0 := by unfold kindN lowN capN digN; simp only [Bool.and_eq_true, decide_eq_true_eq]; repeat (first | rw [if_pos (by omega)] | rw [if_neg (by omega)])
    rw [hk]
    have g97 : decide ((97 : Int) ≤ (n : Int)) = false := decide_eq_false (by omega)
    have g65 : decide ((65 : Int) ≤ (n : Int)) = false := decide_eq_false (by omega)
    have g48 : decide ((48 : Int) ≤ (n : Int)) = true := decide_eq_true (by omega)
    have l122 : decide ((n : Int) ≤ 122) = true := decide_eq_true (by omega)
    have l90 : decide ((n : Int) ≤ 90) = true := decide_eq_true (by omega)
    have l57 : decide ((n : Int) ≤ 57) = false := decide_eq_false (by omega)
    have e46 : ((n : Int) == 46) = false := by simp; omega
    have e32 : ((n : Int) == 32) = false := by simp; omega
    have e9 : ((n : Int) == 9) = false := by simp; omega
    have e10 : ((n : Int) == 10) = false := by simp; omega
    have e35 : ((n : Int) == 35) = false := by simp; omega
    clear c hk
    go_enter Tryd.func63, Tryd.ntmps63
    go_wp2
    go_ret
    exact ⟨rfl, rfl⟩
  · have hk : kindN n = 2 := by unfold kindN lowN capN digN; simp only [Bool.and_eq_true, decide_eq_true_eq]; repeat (first | rw [if_pos (by omega)] | rw [if_neg (by omega)])
    rw [hk]
    have g97 : decide ((97 : Int) ≤ (n : Int)) = false := decide_eq_false (by omega)
    have g65 : decide ((65 : Int) ≤ (n : Int)) = true := decide_eq_true (by omega)
    have g48 : decide ((48 : Int) ≤ (n : Int)) = true := decide_eq_true (by omega)
    have l122 : decide ((n : Int) ≤ 122) = true := decide_eq_true (by omega)
    have l90 : decide ((n : Int) ≤ 90) = true := decide_eq_true (by omega)
    have l57 : decide ((n : Int) ≤ 57) = false := decide_eq_false (by omega)
    have e46 : ((n : Int) == 46) = false := by simp; omega
    have e32 : ((n : Int) == 32) = false := by simp; omega
    have e9 : ((n : Int) == 9) = false := by simp; omega
    have e10 : ((n : Int) == 10) = false := by simp; omega
    have e35 : ((n : Int) == 35) = false := by simp; omega
    clear c hk
    go_enter Tryd.func63, Tryd.ntmps63
    go_wp2
    go_ret
    exact ⟨rfl, rfl⟩
  · have hk : kindN n = 0 := by unfold kindN lowN capN digN; simp only [Bool.and_eq_true, decide_eq_true_eq]; repeat (first | rw [if_pos (by omega)] | rw [if_neg (by omega)])
    rw [hk]
    have g97 : decide ((97 : Int) ≤ (n : Int)) = false := decide_eq_false (by omega)
    have g65 : decide ((65 : Int) ≤ (n : Int)) = true := decide_eq_true (by omega)
    have g48 : decide ((48 : Int) ≤ (n : Int)) = true := decide_eq_true (by omega)
    have l122 : decide ((n : Int) ≤ 122) = true := decide_eq_true (by omega)
    have l90 : decide ((n : Int) ≤ 90) = false := decide_eq_false (by omega)
    have l57 : decide ((n : Int) ≤ 57) = false := decide_eq_false (by omega)
    have e46 : ((n : Int) == 46) = false := by simp; omega
    have e32 : ((n : Int) == 32) = false := by simp; omega
    have e9 : ((n : Int) == 9) = false := by simp; omega
    have e10 : ((n : Int) == 10) = false := by simp; omega
    have e35 : ((n : Int) == 35) = false := by simp; omega
    clear c hk
    go_enter Tryd.func63, Tryd.ntmps63
    go_wp2
    go_ret
    exact ⟨rfl, rfl⟩
  · have hk : kindN n = 1 := by unfold kindN lowN capN digN; simp only [Bool.and_eq_true, decide_eq_true_eq]; repeat (first | rw [if_pos (by omega)] | rw [if_neg (by omega)])
    rw [hk]
    have g97 : decide ((97 : Int) ≤ (n : Int)) = true := decide_eq_true (by omega)
    have g65 : decide ((65 : Int) ≤ (n : Int)) = true := decide_eq_true (by omega)
    have g48 : decide ((48 : Int) ≤ (n : Int)) = true := decide_eq_true (by omega)
    have l122 : decide ((n : Int) ≤ 122) = true := decide_eq_true (by omega)
    have l90 : decide ((n : Int) ≤ 90) = false := decide_eq_false (by omega)
    have l57 : decide ((n : Int) ≤ 57) = false := decide_eq_false (by omega)
    have e46 : ((n : Int) == 46) = false := by simp; omega
    have e32 : ((n : Int) == 32) = false := by simp; omega
    have e9 : ((n : Int) == 9) = false := by simp; omega
    have e10 : ((n : Int) == 10) = false := by simp; omega
    have e35 : ((n : Int) == 35) = false := by simp; omega
    clear c hk
    go_enter Tryd.func63, Tryd.ntmps63
    go_wp2
    go_ret
    exact ⟨rfl, rfl⟩
  · have hk : kindN n = 0 := by unfold kindN lowN capN digN; simp only [Bool.and_eq_true, decide_eq_true_eq]; repeat (first | rw [if_pos (by omega)] | rw [if_neg (by omega)])
    rw [hk]
    have g97 : decide ((97 : Int) ≤ (n : Int)) = true := decide_eq_true (by omega)
    have g65 : decide ((65 : Int) ≤ (n : Int)) = true := decide_eq_true (by omega)
    have g48 : decide ((48 : Int) ≤ (n : Int)) = true := decide_eq_true (by omega)
    have l122 : decide ((n : Int) ≤ 122) = false := decide_eq_false (by omega)
    have l90 : decide ((n : Int) ≤ 90) = false := decide_eq_false (by omega)
    have l57 : decide ((n : Int) ≤ 57) = false := decide_eq_false (by omega)
    have e46 : ((n : Int) == 46) = false := by simp; omega
    have e32 : ((n : Int) == 32) = false := by simp; omega
    have e9 : ((n : Int) == 9) = false := by simp; omega
    have e10 : ((n : Int) == 10) = false := by simp; omega
    have e35 : ((n : Int) == 35) = false := by simp; omega
    clear c hk
    go_enter Tryd.func63, Tryd.ntmps63
    go_wp2
    go_ret
    exact ⟨rfl, rfl⟩
end Go.Proofs.YthlileddhgglnaaDoor
