/-
  Layer 11: a new board; Contract of the document's number of wells; The statements' outer shapes of a tip, of a number; The statements' decks of numbers, without fills; Bytes that come in. No program is named here; Numbers of 32 bits that come in. No program is named here.
-/
import Derived.Deep.AppendLies
import Derived.Test.YtnmcgleanpdlmaaChecked
import Derived.Lib.Hide
import Derived.KernelRfl
import Derived.Deep.QuietTactic
import Derived.BigQuiet
import Derived.OwnWalk
import Derived.Laws.Strings2
import Derived.Laws.Slices
import Derived.Test.YtnmcgleanpdlmaaY1
import Derived.Test.YtnmcgleanpdlmaaY2
import Derived.Test.YtnmcgleanpdlmaaY3
import Derived.Test.YtnmcgleanpdlmaaY4
import Derived.Test.YtnmcgleanpdlmaaY5
import Derived.Test.YtnmcgleanpdlmaaY6
import Derived.Test.YtnmcgleanpdlmaaY7
import Derived.Test.YtnmcgleanpdlmaaY8
import Derived.Test.YtnmcgleanpdlmaaY9
import Derived.Test.YtnmcgleanpdlmaaY10
namespace Go.Proofs.Ytnmcgleanpdlmaa
open Go.RowKit Go.Maps Go.WideMaps
set_option linter.unusedVariables false
theorem names_map (ws : List Wr) (n : ByteArray) : namedL (ws.map (·.n)) n = namedW ws n := by
  unfold namedL namedW
  rw [List.any_map]
  rfl
theorem apart_at {ok : Wr → Bool} {ws : List Wr} (h : apartW ok ws = true) {i : Nat} {r : Wr} (hr : ws[i]? = some r) : ok r = true ∧ namedW (ws.take i) r.n = false := by
  cases hx : (ok r && !namedW (ws.take i) r.n) with
  | false => rw [apart_no hr hx] at h; cases h
  | true =>
    simp only [Bool.and_eq_true, Bool.not_eq_true'] at hx
    exact hx
theorem right_parts9 {d : Dk} (h : rightD d = true) : d.ws.length ≤ 8 ∧ d.ts.length ≤ 4 ∧ apartW wareOk d.ws = true ∧ apartW tipOk d.ts = true := by
  unfold rightD at h
  simp only [Bool.and_eq_true, decide_eq_true_eq] at h
  exact ⟨h.1.1.1.1, h.1.1.1.2, h.1.1.2, h.1.2⟩
theorem wareOk_right {r : Wr} (h : wareOk r = true) : rightS r.l = true := by
  unfold wareOk at h
  simp only [Bool.and_eq_true] at h
  exact h.2
theorem tipOk_right {r : Wr} (h : tipOk r = true) : rightS r.l = true := by
  unfold tipOk at h
  simp only [Bool.and_eq_true] at h
  exact h.1.1.1.2
theorem take_snoc {α : Type} {l : List α} {i : Nat} {x : α} (h : l[i]? = some x) : l.take (i + 1) = l.take i ++ [x] := by
  rw [List.take_add_one, h]
  rfl
/-- A board under way: nw wares, nt tips stand in its maps. -/
structure NewS (d : Dk) (lo hi b mw mt : Nat) (w2 w3 wr : World) (X : List Th) (nw nt : Nat) : Prop where
  g : G (fun i => i = mw ∨ i = mt) w3 wr
  len : X.length = nw + nt
  xw : ∀ (j : Nat) r, j < nw → d.ws[j]? = some r → ∃ x, X[j]? = some x ∧ x.i = j ∧ x.l = r.l
  xt : ∀ (j : Nat) r, j < nt → d.ts[j]? = some r → ∃ x, X[nw + j]? = some x ∧ x.i = j ∧ x.l = r.l
  wm : ThMap wr mw ((d.ws.take nw).map (·.n)) ((X.take nw).map (·.b))
  tm : ThMap wr mt ((d.ts.take nt).map (·.n)) ((X.drop nw).map (·.b))
  blt : ∀ x ∈ X, b < x.b ∧ x.b < wr.heap.size
  at_ : ∀ x ∈ X, ThAt lo hi [] wr x
  nil : ∀ x ∈ X, x.p = none
  bap : X.Pairwise (fun x y => x.b ≠ y.b)
section
variable {d : Dk} {lo hi b mw mt : Nat} {w2 w3 wr wn : World} {X : List Th} {nw nt i t m : Nat} {l : List Sec} {o : Option Addr} {c : Nat} {r : Wr}
theorem newS_pair (h : NewS d lo hi b mw mt w2 w3 wr X nw nt) (ht : wr.heap.size ≤ t) (x : Th) (hx : x.b = t) : (X ++ [x]).Pairwise (fun x y => x.b ≠ y.b) := by
  rw [List.pairwise_append]
  refine ⟨h.bap, List.pairwise_singleton _ _, fun a ha y hy => ?_⟩
  obtain rfl := List.mem_singleton.1 hy
  have := h.blt a ha
  omega
theorem NewS.addW (h : NewS d lo hi b mw mt w2 w3 wr X nw 0) (hr : d.ws[nw]? = some r) (ht : wr.heap.size ≤ t) (hb : b < t) (q : G (fun i => i = mw) wr wn) (htn : t < wn.heap.size) (hmw : mw < lo ∨ hi ≤ mw) (hmt : mw ≠ mt) (hmb : mw ≤ b)
    (ho : wn.heap[t]? = some (.cells #[.int .i64 (nw : Int), .slice o m c, .int .u32 0, .int .i32 0, .int .u32 0, .pointer none] 125 (0, 0))) (hs : Held (fun w => IsSecs w (.slice o m c) r.l) lo hi wn) (hR : rightS r.l = true)
    (hm : ThMap wn mw (((d.ws.take nw).map (·.n)) ++ [r.n]) (((X.take nw).map (·.b)) ++ [t])) : NewS d lo hi b mw mt w2 w3 wn (X ++ [⟨nw, r.l, t, none⟩]) (nw + 1) 0 := by
  have hl := h.len
  have e1 : X.take nw = X := List.take_of_length_le (by omega)
  have e2 : X.drop nw = [] := List.drop_eq_nil_of_le (by omega)
  have hx : ∀ z ∈ X ++ [(⟨nw, r.l, t, none⟩ : Th)], z ∈ X ∨ z = ⟨nw, r.l, t, none⟩ := fun z hz => by simpa using hz
  refine ⟨h.g.trans (q.mono (fun i _ hi => .inl hi)), by simp; omega, fun j r' hj hr' => ?_, fun j r' hj => by omega, ?_, ?_, fun z hz => ?_, fun z hz => ?_, fun z hz => ?_, newS_pair h ht _ rfl⟩
  · by_cases e : j = nw
    · subst e
      obtain rfl : r = r' := Option.some.inj (hr.symm.trans hr')
      exact ⟨⟨j, r.l, t, none⟩, by rw [List.getElem?_append_right (by omega), show j - X.length = 0 by omega]; rfl, rfl, rfl⟩
    · obtain ⟨x, h1, h2⟩ := h.xw j r' (by omega) hr'
      exact ⟨x, by rw [List.getElem?_append_left (by omega)]; exact h1, h2⟩
  · have e3 : (X ++ [(⟨nw, r.l, t, none⟩ : Th)]).take (nw + 1) = X ++ [⟨nw, r.l, t, none⟩] := List.take_of_length_le (by simp; omega)
    rw [take_snoc hr, e3, List.map_append, List.map_append]
    rw [e1] at hm
    exact hm
  · have e3 : (X ++ [(⟨nw, r.l, t, none⟩ : Th)]).drop (nw + 1) = [] := List.drop_eq_nil_of_le (by simp; omega)
    rw [e3]
    have := h.tm
    rw [e2] at this
    exact this.g q (fun e => hmt e.symm)
  · rcases hx z hz with hz | rfl
    · have := h.blt z hz; have := q.size; omega
    · exact ⟨hb, htn⟩
  · rcases hx z hz with hz | rfl
    · exact (h.at_ z hz).g q (fun i hi => by subst hi; have := h.blt z hz; omega)
    · exact ⟨⟨o, m, c, ho, hs⟩, hR, fun p hp => by cases hp⟩
  · rcases hx z hz with hz | rfl
    · exact h.nil z hz
    · rfl
theorem NewS.addT (h : NewS d lo hi b mw mt w2 w3 wr X nw nt) (hr : d.ts[nt]? = some r) (ht : wr.heap.size ≤ t) (hb : b < t) (q : G (fun i => i = mt) wr wn) (htn : t < wn.heap.size) (hmw : mt < lo ∨ hi ≤ mt) (hmt : mw ≠ mt) (hmb : mt ≤ b)
    (ho : wn.heap[t]? = some (.cells #[.int .i64 (nt : Int), .slice o m c, .int .u32 0, .int .i32 0, .int .u32 0, .pointer none] 125 (0, 0))) (hs : Held (fun w => IsSecs w (.slice o m c) r.l) lo hi wn) (hR : rightS r.l = true)
    (hm : ThMap wn mt (((d.ts.take nt).map (·.n)) ++ [r.n]) (((X.drop nw).map (·.b)) ++ [t])) : NewS d lo hi b mw mt w2 w3 wn (X ++ [⟨nt, r.l, t, none⟩]) nw (nt + 1) := by
  have hl := h.len
  have hx : ∀ z ∈ X ++ [(⟨nt, r.l, t, none⟩ : Th)], z ∈ X ∨ z = ⟨nt, r.l, t, none⟩ := fun z hz => by simpa using hz
  refine ⟨h.g.trans (q.mono (fun i _ hi => .inr hi)), by simp; omega, fun j r' hj hr' => ?_, fun j r' hj hr' => ?_, ?_, ?_, fun z hz => ?_, fun z hz => ?_, fun z hz => ?_, newS_pair h ht _ rfl⟩
  · obtain ⟨x, h1, h2⟩ := h.xw j r' hj hr'
    exact ⟨x, by rw [List.getElem?_append_left (by omega)]; exact h1, h2⟩
  · by_cases e : j = nt
    · subst e
      obtain rfl : r = r' := Option.some.inj (hr.symm.trans hr')
      exact ⟨⟨j, r.l, t, none⟩, by rw [List.getElem?_append_right (by omega), show nw + j - X.length = 0 by omega]; rfl, rfl, rfl⟩
    · obtain ⟨x, h1, h2⟩ := h.xt j r' (by omega) hr'
      exact ⟨x, by rw [List.getElem?_append_left (by omega)]; exact h1, h2⟩
  · rw [List.take_append_of_le_length (by omega)]
    exact h.wm.g q hmt
  · rw [take_snoc hr, List.drop_append_of_le_length (by omega), List.map_append, List.map_append]
    exact hm
  · rcases hx z hz with hz | rfl
    · have := h.blt z hz; have := q.size; omega
    · exact ⟨hb, htn⟩
  · rcases hx z hz with hz | rfl
    · exact (h.at_ z hz).g q (fun i hi => by subst hi; have := h.blt z hz; omega)
    · exact ⟨⟨o, m, c, ho, hs⟩, hR, fun p hp => by cases hp⟩
  · rcases hx z hz with hz | rfl
    · exact h.nil z hz
    · rfl
end
end Go.Proofs.Ytnmcgleanpdlmaa

namespace Go.Proofs.Ytnmcgleanpdlmaa
open Go.RowKit
set_option linter.unusedVariables false
/-- How many wells there are. -/
def countW : List Wr → Int
  | [] => 0
  | w :: ws => w.x * w.y + countW ws
theorem count_take {ws : List Wr} {i : Nat} {F : Wr} (h : ws[i]? = some F) : countW (ws.take (i + 1)) = countW (ws.take i) + F.x * F.y := by
  have e : ∀ (l : List Wr) (r : Wr), countW (l ++ [r]) = countW l + r.x * r.y := fun l r => by
    induction l with
    | nil => simp [countW]
    | cons x l ih => show x.x * x.y + countW (l ++ [r]) = x.x * x.y + countW l + _; rw [ih]; omega
  rw [List.take_add_one, h]
  exact e _ _
set_option maxRecDepth 100000 in
set_option maxHeartbeats 2000000 in
theorem r8count_any (wv tv fv : Value) (d : Dk) (w : World) (h : IsDk w wv tv fv d) (hb : ∀ x ∈ d.ws, wareB x) (h100 : d.ws.length ≤ 100) : Calls Try.prog 18 #[.agg #[wv, tv, fv]] w fun e w' => e = .returned (.int .i64 (countW d.ws)) ∧ B w w' := by
  obtain ⟨ao, ac, bo, bc, co, cc, rfl, rfl, rfl⟩ := h.forms
  have hQ := (B.refl w).alloc #[.slice ao d.ws.length ac, .slice bo d.ts.length bc, .slice co d.fs.length cc] 39
  have hR := h.ws.keepB hQ
  have oD := obj_new w (.cells #[.slice ao d.ws.length ac, .slice bo d.ts.length bc, .slice co d.fs.length cc] 39)
  obtain ⟨W, hW⟩ : ∃ W, w.alloc (.cells #[.slice ao d.ws.length ac, .slice bo d.ts.length bc, .slice co d.fs.length cc] 39) = W := ⟨_, rfl⟩
  rw [hW] at hR hQ oD
  clear h
  go_enter Try.func18, Try.ntmps18
  go_wp2_with fail
  try rw [hW]
  clear hW
  generalize w.heap.size = H at *
  go_loopw [3, 4] (fun nv iv wr => ∃ (i : Nat) (K : Int), i ≤ d.ws.length ∧ iv = .int .i64 i ∧ nv = .int .i64 K ∧ 0 ≤ K ∧ K ≤ 96 * (i : Int) ∧ K = countW (d.ws.take i) ∧ Dr W wr) (fun _ iv _ => d.ws.length + 1 - (intOf iv).toNat)
  case atStart => exact ⟨0, 0, Nat.zero_le _, rfl, rfl, by omega, by omega, rfl, Dr.refl _⟩
  case round =>
    obtain ⟨i, K, hi, rfl, rfl, hK0, hK1, hKe, n, rfl⟩ := hrel
    have k0 : (W.drewN n).cell? ⟨H, 0, none⟩ = some (.slice ao d.ws.length ac) := obj_cell (w := W.drewN n) oD 0
    by_cases hl : i < d.ws.length
    · have hlB : decide ((i : Int) < (d.ws.length : Int)) = true := decide_eq_true (by omega)
      have hlI : (i : Int) < (d.ws.length : Int) := by omega
      have hi0 : (0 : Int) ≤ (i : Int) := by omega
      have wk1 : IntKind.i64.wrap ((i : Int) + 1) = (i : Int) + 1 := by rw [IntKind.wrap_i64]; omega
      obtain ⟨a, cap, e1, _, _, hr⟩ := hR.at_ hl
      obtain ⟨rfl, _, rfl⟩ : ao = some a ∧ True ∧ ac = cap := by simpa using e1
      have hbi := hb _ (List.getElem_mem hl)
      have hT := count_take (ws := d.ws) (i := i) (List.getElem?_eq_getElem hl)
      obtain ⟨F, hF⟩ : ∃ F, d.ws[i] = F := ⟨_, rfl⟩
      rw [hF] at hr hbi hT
      obtain ⟨b1, b2, b3, b4⟩ := hbi
      obtain ⟨g1, g2, g3, _⟩ := hr
      obtain ⟨N, X, Y, Z, SL⟩ := F
      simp only at g2 g3 b1 b2 b3 b4 hT
      have g2' : ∀ m, (W.drewN m).cell? _ = _ := fun m => g2
      have g3' : ∀ m, (W.drewN m).cell? _ = _ := fun m => g3
      have hxy := mul_small (a := X) (b := Y) (by omega) b2 (by omega) b4
      rw [← hKe] at hT
      obtain ⟨P, hP⟩ : ∃ P, X * Y = P := ⟨_, rfl⟩
      rw [hP] at hxy hT
      have w1 : IntKind.i64.wrap (X * Y) = P := by rw [hP, IntKind.wrap_i64]; omega
      have w2 : IntKind.i64.wrap (K + P) = K + P := by rw [IntKind.wrap_i64]; omega
      have k0' : ∀ m, (W.drewN m).cell? ⟨H, 0, none⟩ = some (.slice (some a) d.ws.length ac) := fun m => k0
      have HX := Lib.hid (And.intro hT (And.intro (show 0 ≤ K + P ∧ K + P ≤ 96 * ((i : Int) + 1) by omega) hl))
      clear hT hKe hb hF e1 hP hxy hl hi
      go_wp2_with fail
      go_quiet (fail)
      go_wp2
      go_roundw
      case rel =>
        obtain ⟨h1, ⟨h2, h3⟩, h4⟩ := HX.out
        exact ⟨i + 1, K + P, by omega, by go_num, rfl, h2, by omega, h1.symm, _, rfl⟩
      case measure => have := HX.out; simp [intOf]; omega
    · have hlB : decide ((i : Int) < (d.ws.length : Int)) = false := decide_eq_false (by omega)
      have hlN : decide (i < d.ws.length) = false := decide_eq_false hl
      rw [List.take_of_length_le (by omega)] at hKe
      have HX := Lib.hid (And.intro hKe (hQ.drewN n))
      clear hKe hl
      go_wp2
      go_ret
      exact ⟨by rw [← HX.out.1]; rfl, HX.out.2⟩
end Go.Proofs.Ytnmcgleanpdlmaa

namespace Go.Proofs.Ytnmcgleanpdlmaa
open Go.RowKit
/-- The outer shape of a number. -/
def outerOf : Nat → List Sec
  | 0 => [⟨true, 5000, 500, 0, 800, 0⟩, ⟨true, 30000, 800, 0, 1500, 0⟩]
  | 1 => [⟨true, 20000, 700, 0, 2500, 0⟩]
  | _ => [⟨true, 900, 300, 0, 600, 0⟩]
theorem outer_right : ∀ m : Nat, rightS (outerOf m) = true
  | 0 => by decide
  | 1 => by decide
  | n + 2 => by rw [show outerOf (n + 2) = outerOf 2 from rfl]; decide
theorem outer_len : ∀ m : Nat, 1 ≤ (outerOf m).length
  | 0 => by decide
  | 1 => by decide
  | n + 2 => by rw [show outerOf (n + 2) = outerOf 2 from rfl]; decide
theorem outer_pick (w : World) (m : Nat) (h : m < 3) : ∃ V, [Value.slice (some ⟨w.heap.size, 0, none⟩) 2 2, Value.slice (some ⟨w.heap.size + 1, 0, none⟩) 1 1, Value.slice (some ⟨w.heap.size + 1 + 1, 0, none⟩) 1 1][m]? = some V := by
  match m, h with
  | 0, _ => exact ⟨_, rfl⟩
  | 1, _ => exact ⟨_, rfl⟩
  | 2, _ => exact ⟨_, rfl⟩
theorem outer_blocks (w : World) (m : Nat) (V : Value) (hm : m < 3) (h : [Value.slice (some ⟨w.heap.size, 0, none⟩) 2 2, Value.slice (some ⟨w.heap.size + 1, 0, none⟩) 1 1, Value.slice (some ⟨w.heap.size + 1 + 1, 0, none⟩) 1 1][m]? = some V) : ∀ g, V.ownBlock = some g → w.heap.size ≤ g := by
  intro g hg
  match m, hm with
  | 0, _ => obtain rfl := Option.some.inj h; have e := Option.some.inj hg; simp at e; omega
  | 1, _ => obtain rfl := Option.some.inj h; have e := Option.some.inj hg; simp at e; omega
  | 2, _ => obtain rfl := Option.some.inj h; have e := Option.some.inj hg; simp at e; omega
set_option maxHeartbeats 4000000 in
theorem outer_new (k : Int) (h1 : 0 ≤ k) (h2 : k ≤ 255) (w : World) :
    Calls Try.prog 37 #[.int .u8 k] w fun e w' => ∃ v, e = .returned v ∧ IsSecs w' v (outerOf (k % 3).toNat) ∧ Q w w' ∧ ∀ g, v.ownBlock = some g → w.heap.size ≤ g := by
  obtain ⟨V, hp⟩ := outer_pick w (k % 3).toNat (by omega)
  have HP := Lib.hid hp
  have hm : (k % 3).toNat < 3 := by omega
  have HM := Lib.hid hm
  clear hm
  go_enter Try.func37, Try.ntmps37
  go_wp2
  go_ret
  refine ⟨V, rfl, ?_, ?_, outer_blocks w _ V HM.out HP.out⟩
  · clear hp h1 h2
    have hp := HP.out
    have hm := HM.out
    clear HP HM
    generalize (k % 3).toNat = m at *
    match m, hm with
    | 0, _ =>
      obtain rfl : Value.slice (some ⟨w.heap.size, 0, none⟩) 2 2 = V := Option.some.inj hp
      exact (isSecs_new (l := outerOf 0) rfl (by simp) (fitsB_I (by decide)) (by decide) (by decide)).keep ((((Q.refl _).alloc _ _).alloc _ _).alloc _ _)
    | 1, _ =>
      obtain rfl : Value.slice (some ⟨w.heap.size + 1, 0, none⟩) 1 1 = V := Option.some.inj hp
      exact (isSecs_new (l := outerOf 1) rfl (by simp) (fitsB_I (by decide)) (by decide) (by decide)).keep (((Q.refl _).alloc _ _).alloc _ _)
    | 2, _ =>
      obtain rfl : Value.slice (some ⟨w.heap.size + 1 + 1, 0, none⟩) 1 1 = V := Option.some.inj hp
      exact (isSecs_new (l := outerOf 2) rfl (by simp) (fitsB_I (by decide)) (by decide) (by decide)).keep ((Q.refl _).alloc _ _)
  · exact ((((((Q.refl _).alloc _ _).alloc _ _).alloc _ _).alloc _ _))
end Go.Proofs.Ytnmcgleanpdlmaa

namespace Go.Proofs.Ytnmcgleanpdlmaa
open Go.RowKit
def nameT1 : ByteArray := ⟨#[116, 49]⟩
def nameT2 : ByteArray := ⟨#[116, 50]⟩
def namePlate : ByteArray := ⟨#[112, 108, 97, 116, 101]⟩
def nameTube : ByteArray := ⟨#[116, 117, 98, 101]⟩
/-- What stands on it. -/
def wares7 (a b c d : Int) : List Rec := [⟨namePlate, a / 6 % 3 + 1, b / 6 % 4 + 2, c % 4 * 500, shapeOf (a % 6).toNat⟩, ⟨nameTube, 1, c / 4 % 3 + 2, d % 3 * 300, shapeOf (b % 6).toNat⟩]
def cap7 (c : Int) : Int := if c % 3 = 0 then 200000 else if c % 3 = 1 then 30000 else 5000
def filt7 (d : Int) : Int := if d % 2 = 0 then 60000 else 15000
def err7 (d : Int) : Int := if d / 2 % 3 = 0 then 0 else if d / 2 % 3 = 1 then 20 else 100
def tips7 (c d : Int) : List Rec := ⟨nameT1, cap7 c, filt7 d, err7 d, outerOf (c % 3).toNat⟩ :: if d % 5 = 0 then [] else [⟨nameT2, 50000, 40000, d % 30, outerOf (d % 3).toNat⟩]
theorem tipInfo : (Try.prog.info? 59).map (fun i => (i.zero, i.size, i.bytes)) = some (some (.agg #[.string ⟨#[]⟩, .int .i64 0, .int .i64 0, .int .i64 0, .slice none 0 0]), 5, 64) := by kernel_rfl
end Go.Proofs.Ytnmcgleanpdlmaa

namespace Go.Proofs.Ytnmcgleanpdlmaa
open Go.RowKit
def IsU8s (w : World) (v : Value) (bs : List UInt8) : Prop := ∃ ao cap b o, v = .slice ao bs.length cap ∧ IsB w ao cap b o bs
theorem spot_int {w : World} {p : Addr} {k : IntKind} {x : Int} (h : w.cell? p = some (.int k x)) : p.spot = none := by
  cases hsp : p.spot with
  | none => rfl
  | some x =>
    unfold World.cell? at h
    split at h
    · simp [hsp] at h
    · cases h
theorem IsU8s.keep {w w' : World} {v : Value} {bs : List UInt8} (h : IsU8s w v bs) (q : B w w') : IsU8s w' v bs := by
  obtain ⟨ao, cap, b, o, h1, h2⟩ := h
  exact ⟨ao, cap, b, o, h1, h2.keep q⟩
end Go.Proofs.Ytnmcgleanpdlmaa

namespace Go.Proofs.Ytnmcgleanpdlmaa
open Go.RowKit
def IsU32s (w : World) (v : Value) (l : List Nat) : Prop := ∃ ao cap, v = .slice ao l.length cap ∧ l.length ≤ 9223372036854775807 ∧ ∀ (i x : Nat), l[i]? = some x → x < 4294967296 ∧ ∃ b o, ao = some ⟨b, o, none⟩ ∧ w.cell? ⟨b, o + i, none⟩ = some (.int .u32 (x : Int))
theorem isU32s_nil (w : World) : IsU32s w (.slice none 0 0) [] := ⟨none, 0, rfl, by simp, fun i x h => by simp at h⟩
theorem isU32s_of {w : World} {a : Addr} {len cap : Nat} {zs : List Int} (h1 : len ≤ cap) (h2 : cap ≤ maxLen) (hz : zs.length = cap) (hc : ∀ i, i < zs.length → w.cell? (a.add i) = some (.int .u32 (zs.getD i 0))) (hw : ∀ n ∈ zs, (Lit.int .u32 n).wf = true) :
    IsU32s w (.slice (some a) len cap) ((zs.take len).map fun z => z.toNat) := by
  have hl : ((zs.take len).map fun z => z.toNat).length = len := by rw [List.length_map, List.length_take]; omega
  refine ⟨some a, cap, by rw [hl], by rw [hl]; unfold maxLen at h2; omega, fun i x hi => ?_⟩
  have hlt : i < len := by have := (List.getElem?_eq_some_iff.1 hi).1; omega
  have hlt' : i < zs.length := by omega
  have e : zs.getD i 0 = zs[i] := by rw [List.getD_eq_getElem?_getD, List.getElem?_eq_getElem hlt']; rfl
  have hm := hw _ (List.getElem_mem hlt')
  simp [Lit.wf, IntKind.min, IntKind.max, IntKind.signed, IntKind.bits] at hm
  have hcc := hc i hlt'
  rw [e] at hcc
  rw [List.getElem?_map, List.getElem?_take, if_pos hlt, List.getElem?_eq_getElem hlt'] at hi
  obtain rfl : (zs[i]).toNat = x := by simpa using hi
  have h0 := hc 0 (by omega)
  have hsp : a.spot = none := spot_int (k := .u32) (x := zs.getD 0 0) (by have e0 : a.add 0 = a := by unfold Addr.add; simp
                                                                          rw [← e0]; exact h0)
  have ea : a.add i = ⟨a.block, a.off + i, none⟩ := by
    unfold Addr.add
    split
    · rename_i h; subst h; rw [Nat.add_zero, ← hsp]
    · rfl
  rw [ea] at hcc
  refine ⟨by omega, a.block, a.off, by rw [← hsp], ?_⟩
  rw [hcc]
  congr 2
  omega
theorem IsU32s.keep {w w' : World} {v : Value} {l : List Nat} (h : IsU32s w v l) (q : B w w') : IsU32s w' v l := by
  obtain ⟨ao, cap, h1, h2, h3⟩ := h
  exact ⟨ao, cap, h1, h2, fun i x hi => let ⟨k1, b, o, k2, k3⟩ := h3 i x hi; ⟨k1, b, o, k2, q.keep k3⟩⟩
theorem IsU32s.form {w : World} {v : Value} {l : List Nat} (h : IsU32s w v l) : ∃ ao cap, v = .slice ao l.length cap := let ⟨ao, cap, h1, _⟩ := h; ⟨ao, cap, h1⟩
end Go.Proofs.Ytnmcgleanpdlmaa
