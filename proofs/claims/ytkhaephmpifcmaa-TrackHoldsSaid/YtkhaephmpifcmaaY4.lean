/-
  Bytes that come in. No program is named here; Numbers of 32 bits that come in. No program is named here; The statements' decks of numbers; The statements' decks are right ones; each number has its well, each well its number; Wells and numbers. No program is named here but in the contracts' names; Layer 11: what may be in wells at first; Layer 17: what may be in wells and in the tip behind drawing and giving. No program is named here; The block of an own row that is not empty. No program is named here; Layer 17: a state in memory: wells' spans in a row of its own, the tip's span behind the row's header; Layer 17: what the statements ask of the code's states, whatever they are in memory (St); Layer 11: New: the board of a deck that may be; none of another one; Contracts of the document's own products (its sums: XRadd); Plain mathematics of a division bit by bit. No program is named here; The contract of the document's own division of 128 bits by 64, bit by bit; The document's own sides of a section at a height; The document's own areas.
-/
import Derived.RegionTactic
import Derived.BigRegion
import Derived.ChangeAlike
import Derived.Lib.MinMax
import Derived.OwnWalk
import Derived.Laws.OwnMore
import Derived.Test.YtkhaephmpifcmaaChecked
import Derived.Lib.Mul64
import Derived.Outline
import Derived.Laws.Strings2
import Derived.Laws.Slices
import Derived.KernelRfl
import Derived.Test.YtkhaephmpifcmaaY1
import Derived.Test.YtkhaephmpifcmaaY2
import Derived.Test.YtkhaephmpifcmaaY3
namespace Go.Proofs.Ytkhaephmpifcmaa
open Go.RowKit
def IsU8s (w : World) (v : Value) (bs : List UInt8) : Prop := ∃ ao cap b o, v = .slice ao bs.length cap ∧ IsB w ao cap b o bs
theorem spot_int {w : World} {p : Addr} {k : IntKind} {x : Int} (h : w.cell? p = some (.int k x)) : p.spot = none := by
  cases hsp : p.spot with
  | none => rfl
  | some x =>
    unfold World.cell? at h
    split at h
    · simp [hsp] at h
    · cases h
theorem IsU8s.keep {w w' : World} {v : Value} {bs : List UInt8} (h : IsU8s w v bs) (q : B w w') : IsU8s w' v bs := by
  obtain ⟨ao, cap, b, o, h1, h2⟩ := h
  exact ⟨ao, cap, b, o, h1, h2.keep q⟩
end Go.Proofs.Ytkhaephmpifcmaa

namespace Go.Proofs.Ytkhaephmpifcmaa
open Go.RowKit
def IsU32s (w : World) (v : Value) (l : List Nat) : Prop := ∃ ao cap, v = .slice ao l.length cap ∧ l.length ≤ 9223372036854775807 ∧ ∀ (i x : Nat), l[i]? = some x → x < 4294967296 ∧ ∃ b o, ao = some ⟨b, o, none⟩ ∧ w.cell? ⟨b, o + i, none⟩ = some (.int .u32 (x : Int))
theorem isU32s_nil (w : World) : IsU32s w (.slice none 0 0) [] := ⟨none, 0, rfl, by simp, fun i x h => by simp at h⟩
theorem isU32s_of {w : World} {a : Addr} {len cap : Nat} {zs : List Int} (h1 : len ≤ cap) (h2 : cap ≤ maxLen) (hz : zs.length = cap) (hc : ∀ i, i < zs.length → w.cell? (a.add i) = some (.int .u32 (zs.getD i 0))) (hw : ∀ n ∈ zs, (Lit.int .u32 n).wf = true) :
    IsU32s w (.slice (some a) len cap) ((zs.take len).map fun z => z.toNat) := by
  have hl : ((zs.take len).map fun z => z.toNat).length = len := by rw [List.length_map, List.length_take]; omega
  refine ⟨some a, cap, by rw [hl], by rw [hl]; unfold maxLen at h2; omega, fun i x hi => ?_⟩
  have hlt : i < len := by have := (List.getElem?_eq_some_iff.1 hi).1; omega
  have hlt' : i < zs.length := by omega
  have e : zs.getD i 0 = zs[i] := by rw [List.getD_eq_getElem?_getD, List.getElem?_eq_getElem hlt']; rfl
  have hm := hw _ (List.getElem_mem hlt')
  simp [Lit.wf, IntKind.min, IntKind.max, IntKind.signed, IntKind.bits] at hm
  have hcc := hc i hlt'
  rw [e] at hcc
  rw [List.getElem?_map, List.getElem?_take, if_pos hlt, List.getElem?_eq_getElem hlt'] at hi
  obtain rfl : (zs[i]).toNat = x := by simpa using hi
  have h0 := hc 0 (by omega)
  have hsp : a.spot = none := spot_int (k := .u32) (x := zs.getD 0 0) (by have e0 : a.add 0 = a := by unfold Addr.add; simp
                                                                          rw [← e0]; exact h0)
  have ea : a.add i = ⟨a.block, a.off + i, none⟩ := by
    unfold Addr.add
    split
    · rename_i h; subst h; rw [Nat.add_zero, ← hsp]
    · rfl
  rw [ea] at hcc
  refine ⟨by omega, a.block, a.off, by rw [← hsp], ?_⟩
  rw [hcc]
  congr 2
  omega
theorem IsU32s.keep {w w' : World} {v : Value} {l : List Nat} (h : IsU32s w v l) (q : B w w') : IsU32s w' v l := by
  obtain ⟨ao, cap, h1, h2, h3⟩ := h
  exact ⟨ao, cap, h1, h2, fun i x hi => let ⟨k1, b, o, k2, k3⟩ := h3 i x hi; ⟨k1, b, o, k2, q.keep k3⟩⟩
theorem IsU32s.form {w : World} {v : Value} {l : List Nat} (h : IsU32s w v l) : ∃ ao cap, v = .slice ao l.length cap := let ⟨ao, cap, h1, _⟩ := h; ⟨ao, cap, h1⟩
theorem u32s_77 (w : World) : IsU32s (w.alloc (.cells #[.int .u32 7, .int .u32 7] 47)) (.slice (some ⟨w.heap.size, 0, none⟩) 2 2) [7, 7] := by
  refine ⟨some ⟨w.heap.size, 0, none⟩, 2, rfl, by decide, fun i x hx => ?_⟩
  have o := obj_new w (.cells #[.int .u32 7, .int .u32 7] 47)
  match i, hx with
  | 0, hx => obtain rfl : 7 = x := by simpa using hx
             exact ⟨by decide, w.heap.size, 0, rfl, obj_cell o 0⟩
  | 1, hx => obtain rfl : 7 = x := by simpa using hx
             exact ⟨by decide, w.heap.size, 0, rfl, obj_cell o 1⟩
  | n + 2, hx => simp at hx
theorem isU32s_keep {w w' : World} {v : Value} {l : List Nat} (h : IsU32s w v l) (q : B w w') : IsU32s w' v l := by
  obtain ⟨ao, cap, h1, h2, h3⟩ := h
  refine ⟨ao, cap, h1, h2, fun i x hi => ?_⟩
  obtain ⟨a, b, o, h4, h5⟩ := h3 i x hi
  exact ⟨a, b, o, h4, q.keep h5⟩
end Go.Proofs.Ytkhaephmpifcmaa

namespace Go.Proofs.Ytkhaephmpifcmaa
open Go.RowKit
set_option linter.unusedVariables false
/-- The fills of numbers. -/
def fillsF (ws : List Wr) : Nat → List Nat → List Fl
  | _, [] => []
  | i, x :: l => match atW ws (i : Int) with
    | none => fillsF ws (i + 1) l
    | some (n, r, c) => if 0 < x % 6 then ⟨n, r, c, 60000 + ((x / 6 % 200000 : Nat) : Int)⟩ :: fillsF ws (i + 1) l else fillsF ws (i + 1) l
def seatD (a b c d : Int) (l : List Nat) : Dk := ⟨wares7 a b c d, tips7 c d, fillsF (wares7 a b c d) 0 l⟩
theorem fillIF : (Try.prog.info? 63).map (fun i => (i.zero, i.size, i.bytes)) = some (some (.agg #[.string ⟨#[]⟩, .int .i64 0, .int .i64 0, .int .i64 0]), 4, 40) := by kernel_rfl
theorem farF {w : World} {b2 : Nat} {e2 t : TypeId} {s2 n2 : Nat} {v2 : Value} {x2 : List Value} {i : Nat} {cs : Array Value} (ho : w.heap[i]? = some (.cells cs t (0, 0))) (h2 : w.ownsRow b2 e2 s2 v2 n2 x2) (he : t ≠ e2) : v2.ownBlock ≠ some i :=
  obj_apart ho h2 (fun e => he (by simpa [kindO] using e))
set_option maxRecDepth 100000 in
set_option maxHeartbeats 8000000 in
theorem deck_any (a b c d : Int) (lv : Value) (ll : List Nat) (h20 : ll.length ≤ 20) (ha : 0 ≤ a ∧ a ≤ 255) (hb : 0 ≤ b ∧ b ≤ 255) (hc : 0 ≤ c ∧ c ≤ 255) (hd : 0 ≤ d ∧ d ≤ 255) (w : World) (hU : IsU32s w lv ll) :
    Calls Try.prog 22 #[.int .u8 a, .int .u8 b, .int .u8 c, .int .u8 d, lv] w fun e w' => ∃ wv tv fv, e = .returned (.agg #[wv, tv, fv]) ∧ IsDk w' wv tv fv (seatD a b c d ll) ∧ B w w' := by
  obtain ⟨lao, lcap, rfl, hlm, hU⟩ := hU
  unfold seatD
  obtain ⟨FF, hFF⟩ : ∃ FF, fillsF (wares7 a b c d) 0 ll = FF := ⟨_, rfl⟩
  rw [hFF]
  have cA := fun w => shape_any a ha.1 ha.2 w
  have cB := fun w => shape_any b hb.1 hb.2 w
  have cO := fun w => outer_new c hc.1 hc.2 w
  have cP := fun w => outer_new d hd.1 hd.2 w
  unfold wares7 at hFF
  unfold wares7 tips7 nameT1 nameT2 namePlate nameTube
  unfold namePlate nameTube at hFF
  obtain ⟨cap, ecap⟩ : ∃ x, cap7 c = x := ⟨_, rfl⟩
  obtain ⟨filt, efilt⟩ : ∃ x, filt7 d = x := ⟨_, rfl⟩
  obtain ⟨err, eerr⟩ : ∃ x, err7 d = x := ⟨_, rfl⟩
  rw [ecap, efilt, eerr]
  have pc : (c % 3 = 0 ∧ cap = 200000) ∨ (c % 3 = 1 ∧ cap = 30000) ∨ (c % 3 = 2 ∧ cap = 5000) := by
    unfold cap7 at ecap
    repeat' split at ecap
    all_goals omega
  have pf : (d % 2 = 0 ∧ filt = 60000) ∨ (d % 2 = 1 ∧ filt = 15000) := by unfold filt7 at efilt; split at efilt <;> omega
  have pe : (d / 2 % 3 = 0 ∧ err = 0) ∨ (d / 2 % 3 = 1 ∧ err = 20) ∨ (d / 2 % 3 = 2 ∧ err = 100) := by
    unfold err7 at eerr
    repeat' split at eerr
    all_goals omega
  clear ecap efilt eerr
  generalize shapeOf (a % 6).toNat = la at *
  generalize shapeOf (b % 6).toNat = lb at *
  have hlo := outer_len (c % 3).toNat
  have hlp := outer_len (d % 3).toNat
  generalize outerOf (c % 3).toNat = lo at *
  generalize outerOf (d % 3).toNat = lp at *
  have HF := Lib.hid (show ([] : List Fl) ++ fillsF [⟨⟨#[112, 108, 97, 116, 101]⟩, a / 6 % 3 + 1, b / 6 % 4 + 2, c % 4 * 500, la⟩, ⟨⟨#[116, 117, 98, 101]⟩, 1, c / 4 % 3 + 2, d % 3 * 300, lb⟩] 0 (ll.drop 0) = FF from hFF)
  have hbW : ∀ x ∈ ([⟨⟨#[112, 108, 97, 116, 101]⟩, a / 6 % 3 + 1, b / 6 % 4 + 2, c % 4 * 500, la⟩, ⟨⟨#[116, 117, 98, 101]⟩, 1, c / 4 % 3 + 2, d % 3 * 300, lb⟩] : List Rec), wareB x := by
    intro x hx
    simp only [List.mem_cons, List.not_mem_nil, or_false] at hx
    rcases hx with rfl | rfl
    · unfold wareB; simp only; omega
    · unfold wareB; simp only; omega
  clear hFF
  obtain ⟨TL, hTL⟩ : ∃ TL, ((⟨⟨#[116, 49]⟩, cap, filt, err, lo⟩ : Rec) :: if d % 5 = 0 then [] else [⟨⟨#[116, 50]⟩, 50000, 40000, d % 30, lp⟩]) = TL := ⟨_, rfl⟩
  rw [hTL]
  have HTL := Lib.hid hTL
  clear hTL
  go_enter Try.func22, Try.ntmps22
  go_wp2_with fail
  refine (cA _).mono ?_
  rintro e w1 ⟨v1, rfl, hv1, q1⟩
  obtain ⟨o1, n1, p1, rfl⟩ := hv1.form
  go_wp2_with fail
  refine (cB _).mono ?_
  rintro e w2 ⟨v2, rfl, hv2, q2⟩
  obtain ⟨o2, n2, p2, rfl⟩ := hv2.form
  go_wp2_with fail
  generalize hX : w2.heap.size + 1 = X at *
  obtain ⟨c3, ec3⟩ : ∃ x, c % 3 = x := ⟨_, rfl⟩
  obtain ⟨d2, ed2⟩ : ∃ x, d % 2 = x := ⟨_, rfl⟩
  obtain ⟨dh, edh⟩ : ∃ x, d / 2 = x := ⟨_, rfl⟩
  obtain ⟨dh3, edh3⟩ : ∃ x, dh % 3 = x := ⟨_, rfl⟩
  have tm1 : c.tmod 3 = c3 := by rw [Int.tmod_eq_emod_of_nonneg (by omega)]; exact ec3
  have tm2 : d.tmod 2 = d2 := by rw [Int.tmod_eq_emod_of_nonneg (by omega)]; exact ed2
  have tm3 : IntKind.u8.wrap (d.tdiv 2) = dh := by rw [Int.tdiv_eq_ediv_of_nonneg (by omega), edh, IntKind.wrap_u8]; omega
  have tm4 : dh.tmod 3 = dh3 := by rw [Int.tmod_eq_emod_of_nonneg (by omega)]; exact edh3
  rw [ec3] at pc
  rw [ed2] at pf
  rw [edh, edh3] at pe
  have obX : ((w2.alloc (.cells #[.string ⟨#[112, 108, 97, 116, 101]⟩, .int .i64 (a / 6 % 3 + 1), .int .i64 (b / 6 % 4 + 2), .int .i64 (c % 4 * 500), .slice o1 n1 p1, .string ⟨#[116, 117, 98, 101]⟩, .int .i64 1, .int .i64 (c / 4 % 3 + 2), .int .i64 (d % 3 * 300), .slice o2 n2 p2] 58)).alloc (.cells #[.slice (some ⟨w2.heap.size, 0, none⟩) 2 2, .slice none 0 0, .slice none 0 0] 67)).heap[X]? = some (.cells #[.slice (some ⟨w2.heap.size, 0, none⟩) 2 2, .slice none 0 0, .slice none 0 0] 67 (0, 0)) := by
    rw [← hX, show w2.heap.size + 1 = (w2.alloc (.cells #[.string ⟨#[112, 108, 97, 116, 101]⟩, .int .i64 (a / 6 % 3 + 1), .int .i64 (b / 6 % 4 + 2), .int .i64 (c % 4 * 500), .slice o1 n1 p1, .string ⟨#[116, 117, 98, 101]⟩, .int .i64 1, .int .i64 (c / 4 % 3 + 2), .int .i64 (d % 3 * 300), .slice o2 n2 p2] 58)).heap.size by simp]
    exact obj_new _ _
  have rw0 : IsRecs (w2.alloc (.cells #[.string ⟨#[112, 108, 97, 116, 101]⟩, .int .i64 (a / 6 % 3 + 1), .int .i64 (b / 6 % 4 + 2), .int .i64 (c % 4 * 500), .slice o1 n1 p1, .string ⟨#[116, 117, 98, 101]⟩, .int .i64 1, .int .i64 (c / 4 % 3 + 2), .int .i64 (d % 3 * 300), .slice o2 n2 p2] 58)) (.slice (some ⟨w2.heap.size, 0, none⟩) 2 2) [⟨⟨#[112, 108, 97, 116, 101]⟩, a / 6 % 3 + 1, b / 6 % 4 + 2, c % 4 * 500, la⟩, ⟨⟨#[116, 117, 98, 101]⟩, 1, c / 4 % 3 + 2, d % 3 * 300, lb⟩] := by
    refine recs_cells (L := [⟨⟨#[112, 108, 97, 116, 101]⟩, a / 6 % 3 + 1, b / 6 % 4 + 2, c % 4 * 500, la⟩, ⟨⟨#[116, 117, 98, 101]⟩, 1, c / 4 % 3 + 2, d % 3 * 300, lb⟩]) (vs := [.slice o1 n1 p1, .slice o2 n2 p2]) rfl (by simp) (by simp [maxLen]) (fun j u hj => ?_) (fun i r v hr hv => ?_)
    · rw [World.cell?_alloc_new]
      simpa [flatR, Rec.cells] using hj
    · match i with
      | 0 => obtain rfl := Option.some.inj hr; obtain rfl := Option.some.inj hv; exact (hv1.keep q2).keepB ((B.refl _).alloc _ _)
      | 1 => obtain rfl := Option.some.inj hr; obtain rfl := Option.some.inj hv; exact hv2.keepB ((B.refl _).alloc _ _)
      | n + 2 => simp at hr
  have hu0 : B w (w2.alloc (.cells #[.string ⟨#[112, 108, 97, 116, 101]⟩, .int .i64 (a / 6 % 3 + 1), .int .i64 (b / 6 % 4 + 2), .int .i64 (c % 4 * 500), .slice o1 n1 p1, .string ⟨#[116, 117, 98, 101]⟩, .int .i64 1, .int .i64 (c / 4 % 3 + 2), .int .i64 (d % 3 * 300), .slice o2 n2 p2] 58)) := (((((B.refl w).alloc _ _).trans q1.b).trans q2.b).alloc _ _)
  have obR : (w2.alloc (.cells #[.string ⟨#[112, 108, 97, 116, 101]⟩, .int .i64 (a / 6 % 3 + 1), .int .i64 (b / 6 % 4 + 2), .int .i64 (c % 4 * 500), .slice o1 n1 p1, .string ⟨#[116, 117, 98, 101]⟩, .int .i64 1, .int .i64 (c / 4 % 3 + 2), .int .i64 (d % 3 * 300), .slice o2 n2 p2] 58)).heap[w.heap.size]? = some (.cells #[.slice none 0 0, .slice none 0 0, .slice none 0 0] 67 (0, 0)) := (((q1.b.trans q2.b).alloc _ _)).obj (obj_new w _)
  have hRX : w.heap.size < X := by
    have := q1.below.size
    have := q2.below.size
    simp at *
    omega
  have hu0s : (w2.alloc (.cells #[.string ⟨#[112, 108, 97, 116, 101]⟩, .int .i64 (a / 6 % 3 + 1), .int .i64 (b / 6 % 4 + 2), .int .i64 (c % 4 * 500), .slice o1 n1 p1, .string ⟨#[116, 117, 98, 101]⟩, .int .i64 1, .int .i64 (c / 4 % 3 + 2), .int .i64 (d % 3 * 300), .slice o2 n2 p2] 58)).heap.size = X := by rw [← hX]; simp
  have hu1 : B (w2.alloc (.cells #[.string ⟨#[112, 108, 97, 116, 101]⟩, .int .i64 (a / 6 % 3 + 1), .int .i64 (b / 6 % 4 + 2), .int .i64 (c % 4 * 500), .slice o1 n1 p1, .string ⟨#[116, 117, 98, 101]⟩, .int .i64 1, .int .i64 (c / 4 % 3 + 2), .int .i64 (d % 3 * 300), .slice o2 n2 p2] 58)) ((w2.alloc (.cells #[.string ⟨#[112, 108, 97, 116, 101]⟩, .int .i64 (a / 6 % 3 + 1), .int .i64 (b / 6 % 4 + 2), .int .i64 (c % 4 * 500), .slice o1 n1 p1, .string ⟨#[116, 117, 98, 101]⟩, .int .i64 1, .int .i64 (c / 4 % 3 + 2), .int .i64 (d % 3 * 300), .slice o2 n2 p2] 58)).alloc (.cells #[.slice (some ⟨w2.heap.size, 0, none⟩) 2 2, .slice none 0 0, .slice none 0 0] 67)) := (B.refl _).alloc _ _
  have hsz : X + 1 ≤ ((w2.alloc (.cells #[.string ⟨#[112, 108, 97, 116, 101]⟩, .int .i64 (a / 6 % 3 + 1), .int .i64 (b / 6 % 4 + 2), .int .i64 (c % 4 * 500), .slice o1 n1 p1, .string ⟨#[116, 117, 98, 101]⟩, .int .i64 1, .int .i64 (c / 4 % 3 + 2), .int .i64 (d % 3 * 300), .slice o2 n2 p2] 58)).alloc (.cells #[.slice (some ⟨w2.heap.size, 0, none⟩) 2 2, .slice none 0 0, .slice none 0 0] 67)).heap.size := by
    rw [← hX]; simp
  have k1 := obj_cell obX 1
  clear hv1 hv2 q1 q2
  generalize ((w2.alloc (.cells #[.string ⟨#[112, 108, 97, 116, 101]⟩, .int .i64 (a / 6 % 3 + 1), .int .i64 (b / 6 % 4 + 2), .int .i64 (c % 4 * 500), .slice o1 n1 p1, .string ⟨#[116, 117, 98, 101]⟩, .int .i64 1, .int .i64 (c / 4 % 3 + 2), .int .i64 (d % 3 * 300), .slice o2 n2 p2] 58)).alloc (.cells #[.slice (some ⟨w2.heap.size, 0, none⟩) 2 2, .slice none 0 0, .slice none 0 0] 67)) = U1 at *
  generalize (w2.alloc (.cells #[.string ⟨#[112, 108, 97, 116, 101]⟩, .int .i64 (a / 6 % 3 + 1), .int .i64 (b / 6 % 4 + 2), .int .i64 (c % 4 * 500), .slice o1 n1 p1, .string ⟨#[116, 117, 98, 101]⟩, .int .i64 1, .int .i64 (c / 4 % 3 + 2), .int .i64 (d % 3 * 300), .slice o2 n2 p2] 58)) = U0 at *
  generalize w2.heap.size = Wb at *
  refine wp_region_noPanic ?_
  refine wp_region_slots [(0, 46), (1, 47), (2, 48), (3, 49), (4, 50), (5, 51), (6, 52), (7, 53), (8, 54), (9, 55), (10, 56), (11, 57), (12, 58), (13, 59), (14, 60), (15, 61), (16, 62), (17, 63), (18, 64), (19, 65), (20, 66), (21, 67)] [(22, 2), (23, 0), (24, 2)] [0, 1, 0, 0, 8, 20, 32, 0, 0, 256, 640, 1024, 0, 0, 8192, 16384, 36864, 65536, 0, 262144, 657472, 1048576, 2621442, 8388607, 16777215] [0, 1, 0, 0, 8, 20, 32, 0, 0, 256, 640, 1024, 0, 0, 8192, 16384, 36864, 65536, 0, 262144, 657472, 1048576, 2097154, 0, 12582912] [0, 1, 0, 0, 8, 28, 60, 0, 0, 256, 896, 1920, 0, 0, 8192, 24576, 61440, 126976, 0, 262144, 1048572, 2097148, 4194303, 8388607, 16777215] 4194303 [(fun v _ => v = .pointer (some ⟨X, 1, none⟩)), (fun v _ => v = .slice none 0 0), (Lits 3 [.int .i64 200000, .int .i64 30000, .int .i64 5000]), (fun v _ => v = .int .u8 c), (fun v _ => v = .int .u8 c3), (PtrTo (.int .i64 cap)), (fun v _ => v = .int .i64 cap), (Lits 2 [.int .i64 60000, .int .i64 15000]), (fun v _ => v = .int .u8 d), (fun v _ => v = .int .u8 d2), (PtrTo (.int .i64 filt)), (fun v _ => v = .int .i64 filt), (Lits 3 [.int .i64 0, .int .i64 20, .int .i64 100]), (fun v _ => v = .int .u8 d), (fun v _ => v = .int .u8 dh), (fun v _ => v = .int .u8 dh3), (PtrTo (.int .i64 err)), (fun v _ => v = .int .i64 err), (fun v _ => v = .int .u8 c), (SecsV (X + 1) lo), (RecV (X + 1) ⟨⟨#[116, 49]⟩, cap, filt, err, lo⟩), (RecRow (X + 1) ⟨⟨#[116, 49]⟩, cap, filt, err, lo⟩)] (by kernel_rfl) (by kernel_rfl) (fun _ _ _ _ h => h) ⟨slot_val _, slot_val _, slot_lits _ _, slot_val _, slot_val _, slot_ptr _, slot_val _, slot_lits _ _, slot_val _, slot_val _, slot_ptr _, slot_val _, slot_lits _ _, slot_val _, slot_val _, slot_val _, slot_ptr _, slot_val _, slot_val _, slot_secs _ _, slot_rec _ _, slot_recrow _ _, trivial⟩ ⟨?_, ?_, ?_, ?_, ?_, ?_, ?_, ?_, ?_, ?_, ?_, ?_, ?_, ?_, ?_, ?_, ?_, ?_, ?_, ?_, ?_, ?_, trivial⟩ ?_
  · intro f w' hf hB
    clear hf
    refine slot_op rfl (fun _ => rfl) (fun T hT K hK => ?_)
    simp only [putsL, List.set_cons_zero, List.set_cons_succ] at hT
    subst hT
    go_simp
    exact hK.out _ _ rfl (B.refl _)
  · intro f w' hf hB
    have h0 := hf (0, 46) (by simp) (by rfl)
    clear hf
    have e0 : f 0 = _ := h0
    have k1 := hB.keep k1
    refine slot_op rfl (fun _ => rfl) (fun T hT K hK => ?_)
    simp only [putsL, List.set_cons_zero, List.set_cons_succ, e0] at hT
    subst hT
    go_simp
    exact hK.out _ _ rfl (B.refl _)
  · intro f w' hf hB
    clear hf
    refine slot_op rfl (fun _ => rfl) (fun T hT K hK => ?_)
    simp only [putsL, List.set_cons_zero, List.set_cons_succ] at hT
    subst hT
    go_simp
    refine hK.out _ _ ⟨_, rfl, fun j u hj => ?_⟩ ((B.refl _).alloc _ _)
    rw [World.cell?_alloc_new]
    simpa using hj
  · intro f w' hf hB
    clear hf
    refine slot_op rfl (fun _ => rfl) (fun T hT K hK => ?_)
    simp only [putsL, List.set_cons_zero, List.set_cons_succ] at hT
    subst hT
    go_simp
    exact hK.out _ _ rfl (B.refl _)
  · intro f w' hf hB
    have h3 := hf (3, 49) (by simp) (by rfl)
    clear hf
    have e3 : f 3 = _ := h3
    refine slot_op rfl (fun _ => rfl) (fun T hT K hK => ?_)
    simp only [putsL, List.set_cons_zero, List.set_cons_succ, e3] at hT
    subst hT
    go_simp
    exact hK.out _ _ rfl (B.refl _)
  · intro f w' hf hB
    have h2 := hf (2, 48) (by simp) (by rfl)
    have h4 := hf (4, 50) (by simp) (by rfl)
    clear hf
    obtain ⟨b, e2, hc⟩ := h2
    have e4 : f 4 = _ := h4
    refine slot_op rfl (fun _ => rfl) (fun T hT K hK => ?_)
    simp only [putsL, List.set_cons_zero, List.set_cons_succ, e2, e4] at hT
    subst hT
    rcases pc with ⟨r1, r2⟩ | ⟨r1, r2⟩ | ⟨r1, r2⟩
    · subst r1 r2
      have hk := hc 0 _ rfl
      go_simp
      exact hK.out _ _ ⟨_, rfl, hk⟩ (B.refl _)
    · subst r1 r2
      have hk := hc 1 _ rfl
      go_simp
      exact hK.out _ _ ⟨_, rfl, hk⟩ (B.refl _)
    · subst r1 r2
      have hk := hc 2 _ rfl
      go_simp
      exact hK.out _ _ ⟨_, rfl, hk⟩ (B.refl _)
  · intro f w' hf hB
    have h5 := hf (5, 51) (by simp) (by rfl)
    clear hf
    obtain ⟨p, e5, hc⟩ := h5
    refine slot_op rfl (fun _ => rfl) (fun T hT K hK => ?_)
    simp only [putsL, List.set_cons_zero, List.set_cons_succ, e5] at hT
    subst hT
    go_simp
    exact hK.out _ _ rfl (B.refl _)
  · intro f w' hf hB
    clear hf
    refine slot_op rfl (fun _ => rfl) (fun T hT K hK => ?_)
    simp only [putsL, List.set_cons_zero, List.set_cons_succ] at hT
    subst hT
    go_simp
    refine hK.out _ _ ⟨_, rfl, fun j u hj => ?_⟩ ((B.refl _).alloc _ _)
    rw [World.cell?_alloc_new]
    simpa using hj
  · intro f w' hf hB
    clear hf
    refine slot_op rfl (fun _ => rfl) (fun T hT K hK => ?_)
    simp only [putsL, List.set_cons_zero, List.set_cons_succ] at hT
    subst hT
    go_simp
    exact hK.out _ _ rfl (B.refl _)
  · intro f w' hf hB
    have h8 := hf (8, 54) (by simp) (by rfl)
    clear hf
    have e8 : f 8 = _ := h8
    refine slot_op rfl (fun _ => rfl) (fun T hT K hK => ?_)
    simp only [putsL, List.set_cons_zero, List.set_cons_succ, e8] at hT
    subst hT
    go_simp
    exact hK.out _ _ rfl (B.refl _)
  · intro f w' hf hB
    have h7 := hf (7, 53) (by simp) (by rfl)
    have h9 := hf (9, 55) (by simp) (by rfl)
    clear hf
    obtain ⟨b, e7, hc⟩ := h7
    have e9 : f 9 = _ := h9
    refine slot_op rfl (fun _ => rfl) (fun T hT K hK => ?_)
    simp only [putsL, List.set_cons_zero, List.set_cons_succ, e7, e9] at hT
    subst hT
    rcases pf with ⟨r1, r2⟩ | ⟨r1, r2⟩
    · subst r1 r2
      have hk := hc 0 _ rfl
      go_simp
      exact hK.out _ _ ⟨_, rfl, hk⟩ (B.refl _)
    · subst r1 r2
      have hk := hc 1 _ rfl
      go_simp
      exact hK.out _ _ ⟨_, rfl, hk⟩ (B.refl _)
  · intro f w' hf hB
    have h10 := hf (10, 56) (by simp) (by rfl)
    clear hf
    obtain ⟨p, e10, hc⟩ := h10
    refine slot_op rfl (fun _ => rfl) (fun T hT K hK => ?_)
    simp only [putsL, List.set_cons_zero, List.set_cons_succ, e10] at hT
    subst hT
    go_simp
    exact hK.out _ _ rfl (B.refl _)
  · intro f w' hf hB
    clear hf
    refine slot_op rfl (fun _ => rfl) (fun T hT K hK => ?_)
    simp only [putsL, List.set_cons_zero, List.set_cons_succ] at hT
    subst hT
    go_simp
    refine hK.out _ _ ⟨_, rfl, fun j u hj => ?_⟩ ((B.refl _).alloc _ _)
    rw [World.cell?_alloc_new]
    simpa using hj
  · intro f w' hf hB
    clear hf
    refine slot_op rfl (fun _ => rfl) (fun T hT K hK => ?_)
    simp only [putsL, List.set_cons_zero, List.set_cons_succ] at hT
    subst hT
    go_simp
    exact hK.out _ _ rfl (B.refl _)
  · intro f w' hf hB
    have h13 := hf (13, 59) (by simp) (by rfl)
    clear hf
    have e13 : f 13 = _ := h13
    refine slot_op rfl (fun _ => rfl) (fun T hT K hK => ?_)
    simp only [putsL, List.set_cons_zero, List.set_cons_succ, e13] at hT
    subst hT
    go_simp
    exact hK.out _ _ rfl (B.refl _)
  · intro f w' hf hB
    have h14 := hf (14, 60) (by simp) (by rfl)
    clear hf
    have e14 : f 14 = _ := h14
    refine slot_op rfl (fun _ => rfl) (fun T hT K hK => ?_)
    simp only [putsL, List.set_cons_zero, List.set_cons_succ, e14] at hT
    subst hT
    go_simp
    exact hK.out _ _ rfl (B.refl _)
  · intro f w' hf hB
    have h12 := hf (12, 58) (by simp) (by rfl)
    have h15 := hf (15, 61) (by simp) (by rfl)
    clear hf
    obtain ⟨b, e12, hc⟩ := h12
    have e15 : f 15 = _ := h15
    refine slot_op rfl (fun _ => rfl) (fun T hT K hK => ?_)
    simp only [putsL, List.set_cons_zero, List.set_cons_succ, e12, e15] at hT
    subst hT
    rcases pe with ⟨r1, r2⟩ | ⟨r1, r2⟩ | ⟨r1, r2⟩
    · subst r1 r2
      have hk := hc 0 _ rfl
      go_simp
      exact hK.out _ _ ⟨_, rfl, hk⟩ (B.refl _)
    · subst r1 r2
      have hk := hc 1 _ rfl
      go_simp
      exact hK.out _ _ ⟨_, rfl, hk⟩ (B.refl _)
    · subst r1 r2
      have hk := hc 2 _ rfl
      go_simp
      exact hK.out _ _ ⟨_, rfl, hk⟩ (B.refl _)
  · intro f w' hf hB
    have h16 := hf (16, 62) (by simp) (by rfl)
    clear hf
    obtain ⟨p, e16, hc⟩ := h16
    refine slot_op rfl (fun _ => rfl) (fun T hT K hK => ?_)
    simp only [putsL, List.set_cons_zero, List.set_cons_succ, e16] at hT
    subst hT
    go_simp
    exact hK.out _ _ rfl (B.refl _)
  · intro f w' hf hB
    clear hf
    refine slot_op rfl (fun _ => rfl) (fun T hT K hK => ?_)
    simp only [putsL, List.set_cons_zero, List.set_cons_succ] at hT
    subst hT
    go_simp
    exact hK.out _ _ rfl (B.refl _)
  · intro f w' hf hB
    have h18 := hf (18, 64) (by simp) (by rfl)
    clear hf
    have e18 : f 18 = _ := h18
    refine slot_op rfl (fun _ => rfl) (fun T hT K hK => ?_)
    simp only [putsL, List.set_cons_zero, List.set_cons_succ, e18] at hT
    subst hT
    go_simp
    (with_reducible refine (cO _).mono ?_)
    rintro e w2 ⟨vo, rfl, hvo, q, hbo⟩
    obtain ⟨oo, no, po, rfl⟩ := hvo.form
    exact hK.out _ _ ⟨_, _, _, rfl, hvo, fun b hb => ⟨Nat.le_trans hsz (Nat.le_trans hB.below.size (hbo b hb)), secs_lt hvo hlo hb⟩⟩ q.b
  · intro f w' hf hB
    have h6 := hf (6, 52) (by simp) (by rfl)
    have h11 := hf (11, 57) (by simp) (by rfl)
    have h17 := hf (17, 63) (by simp) (by rfl)
    have h19 := hf (19, 65) (by simp) (by rfl)
    clear hf
    have e6 : f 6 = _ := h6
    have e11 : f 11 = _ := h11
    have e17 : f 17 = _ := h17
    obtain ⟨oo, no, po, e19, hvo, hbo⟩ := h19
    refine slot_op rfl (fun _ => rfl) (fun T hT K hK => ?_)
    simp only [putsL, List.set_cons_zero, List.set_cons_succ, e6, e11, e17, e19] at hT
    subst hT
    go_simp
    exact hK.out _ _ ⟨oo, no, po, rfl, hvo, hbo⟩ (B.refl _)
  · intro f w' hf hB
    have h20 := hf (20, 66) (by simp) (by rfl)
    clear hf
    obtain ⟨oo, no, po, e20, hvo, hbo⟩ := h20
    refine slot_op rfl (fun _ => rfl) (fun T hT K hK => ?_)
    simp only [putsL, List.set_cons_zero, List.set_cons_succ, e20] at hT
    subst hT
    go_simp
    refine hK.out _ _ ⟨_, oo, no, po, rfl, fun j u hj => ?_, hvo.keepB ((B.refl _).alloc _ _), fun b hb => ⟨(hbo b hb).1, Nat.lt_of_lt_of_le (hbo b hb).2 ((B.refl _).alloc _ _).below.size⟩⟩ ((B.refl _).alloc _ _)
    rw [World.cell?_alloc_new]
    simpa [Rec.cells] using hj
  · intro f w' hf hB T hT
    have h1 : f 1 = _ := hf (1, 47) (by simp)
    have h21 := hf (21, 67) (by simp)
    obtain ⟨B1, oo, no, po, e21, hcs, hvo, hbo⟩ := h21
    clear hf
    simp only [putsL, List.set_cons_zero, List.set_cons_succ, h1, e21] at hT
    subst hT
    obtain ⟨i0, hi0, hz0, hz1, hz2⟩ := info_parts tipInfo
    have hX' := hB.obj obX
    refine wpSeq_call rfl (by kernel_rfl) (fun K hK => ?_)
    refine wp_append_lies _ (.tmp 47) (.tmp 67) 65 rfl U0.heap.size 116 i0 _ 5 64 Try.underlying65 hi0 hz0 hz1 hz2 rfl (by omega) (.slice none 0 0) 0 [] rfl (World.ownsRow_nil _ _ _ _) ⟨B1, 0, none⟩ 1 1 (Rec.cells ⟨⟨#[116, 49]⟩, cap, filt, err, lo⟩ (.slice oo no po)) rfl rfl (fun j u hj => by rw [add0]; exact hcs j u hj) (by simp [Rec.cells, Value.oneCell']) (by omega) (by unfold maxLen; omega) (by omega) (Nat.le_trans hu1.below.size hB.below.size) _ rfl (fun g cp w3 hown hgrow hat hlt => ?_)
    refine hK.out _ _ trivial (fun _ => ?_)
    clear hK
    have q3 : B w' w3 := (B.refl w').grownBy hgrow (fun k hk => by cases hk)
    have hgX : X < g := by
      rcases hat with h | h
      · cases h
      · have := hB.below.size; omega
    have ob3 := q3.obj hX'
    have kX1 := obj_cell ob3 1
    have fX1 := obj_free ob3 1
    refine wpSeq_take (d := 69) (v := ?_) rfl rfl (by kernel_rfl) (fun w hS => ?_) ?_
    rotate_left
    · go_simp <;> with_reducible rfl
    dsimp only [List.set_cons_zero, List.set_cons_succ]
    refine wpSeq_call rfl (by kernel_rfl) (fun K hK => ?_)
    go_simp
    refine hK.out _ _ trivial (fun _ => ?_)
    clear hK
    refine wpSeq_done ?_
    refine NoPanic.normal ?_
    have sX : X < w'.heap.size := by have := hB.below.size; omega
    have b4 : B U0 (w3.setCell ⟨X, 1, none⟩ (.slice (some ⟨g, 0, none⟩) 1 cp)) := ((hu1.trans hB).trans q3).setCell (by rw [hu0s]; exact Nat.le_refl _) _
    have ob4 := obj_set ob3 1 (.slice (some ⟨g, 0, none⟩) 1 cp)
    simp only [List.setIfInBounds_toArray, List.set_cons_succ, List.set_cons_zero] at ob4
    have own4 := ownsRow_setCell_other hown (a := ⟨X, 1, none⟩) (by simp [Value.ownBlock]; omega) (.slice (some ⟨g, 0, none⟩) (0 + 1) cp)
    have gX : G (fun i => i = X) w' (w3.setCell ⟨X, 1, none⟩ (.slice (some ⟨g, 0, none⟩) 1 cp)) := G.setCell (S := fun i => i = X) (p := ⟨X, 1, none⟩) (q3.g _) (.inl rfl) _
    have hv4 := isSecs_keepOwn hvo (fun b hb => by have := (hbo b hb).1; omega) gX
    have hb4 : ∀ b, (Value.slice oo no po).ownBlock = some b → X + 1 ≤ b ∧ b < g := fun b hb => by
      have := hbo b hb
      rcases hat with h | h
      · cases h
      · omega
    have s4 : g < (w3.setCell ⟨X, 1, none⟩ (.slice (some ⟨g, 0, none⟩) 1 cp)).heap.size := by simpa [World.setCell] using hlt
    simp only [Nat.zero_add] at own4
    replace hv4 : IsSecs (w3.setCell ⟨X, 1, none⟩ (.slice (some ⟨g, 0, none⟩) 1 cp)) (.slice oo no po) lo := hv4
    replace own4 : (w3.setCell ⟨X, 1, none⟩ (.slice (some ⟨g, 0, none⟩) 1 cp)).ownsRow U0.heap.size 116 5 (.slice (some ⟨g, 0, none⟩) 1 cp) 1 (flatR [⟨⟨#[116, 49]⟩, cap, filt, err, lo⟩] [.slice oo no po]) := own4
    clear hX' hvo hbo gX kX1 fX1 ob3 q3 hgrow hat hown hlt hB hcs e21 h1 sX obX k1 hu1 hsz
    generalize w3.setCell ⟨X, 1, none⟩ (.slice (some ⟨g, 0, none⟩) 1 cp) = W4 at *
    clear cA cB
    have obR4 := b4.obj obR
    have wr4 := rw0.keepB b4
    have b04 := hu0.trans b4
    by_cases h5 : d % 5 = 0
    · have tm5 : d.tmod 5 = 0 := by rw [Int.tmod_eq_emod_of_nonneg (by omega)]; exact h5
      have tp4 : IsRecs W4 (.slice (some ⟨g, 0, none⟩) 1 cp) [⟨⟨#[116, 49]⟩, cap, filt, err, lo⟩] := recs_own (L := [⟨⟨#[116, 49]⟩, cap, filt, err, lo⟩]) (vs := [.slice oo no po]) own4 (by omega) rfl rfl (fun i r v hr hv => by
        match i with
        | 0 => obtain rfl := Option.some.inj hr; obtain rfl := Option.some.inj hv; exact hv4
        | n + 1 => simp at hr)
      have tpT : IsRecs W4 (.slice (some ⟨g, 0, none⟩) 1 cp) TL := by
        have e := HTL.out
        rw [if_pos h5] at e
        rw [← e]; exact tp4
      clear h5 hz0 hi0 hz1 hz2 pc pf pe tm1 tm2 tm3 tm4 ec3 ed2 edh edh3 cO cP own4 hv4 rw0 b4 hu0 hu0s obR hX
      have hnoX : ∀ i, i = X → ∀ k, (∀ r, W4.cell? ⟨i, k, none⟩ ≠ some (.bool r)) ∧ ∀ s, W4.cell? ⟨i, k, none⟩ ≠ some (.string s) := by
        rintro i rfl k
        rw [obj_cell ob4 k]
        match k with
        | 0 => exact ⟨by simp, by simp⟩
        | 1 => exact ⟨by simp, by simp⟩
        | 2 => exact ⟨by simp, by simp⟩
        | n + 3 => exact ⟨by simp, by simp⟩
      obtain ⟨i0f, hi0f, hz0f, hz1f, hz2f⟩ := info_of fillIF
      have hRne : ¬ w.heap.size = X := by omega
      have hXW := obj_lt ob4
      obtain ⟨base, hbase⟩ : ∃ base, W4.heap.size = base := ⟨_, rfl⟩
      obtain ⟨WL, hWL⟩ : ∃ WL : List Rec, [⟨⟨#[112, 108, 97, 116, 101]⟩, a / 6 % 3 + 1, b / 6 % 4 + 2, c % 4 * 500, la⟩, ⟨⟨#[116, 117, 98, 101]⟩, 1, c / 4 % 3 + 2, d % 3 * 300, lb⟩] = WL := ⟨_, rfl⟩
      have hF0 := HF.out
      rw [hWL] at wr4 hbW hF0
      replace hWL := Lib.hid hWL
      obtain ⟨wsv, hwsv⟩ : ∃ wsv : Value, .slice (some ⟨Wb, 0, none⟩) 2 2 = wsv := ⟨_, rfl⟩
      obtain ⟨tsv, htsv⟩ : ∃ tsv : Value, .slice (some ⟨g, 0, none⟩) 1 cp = tsv := ⟨_, rfl⟩
      rw [hwsv] at wr4
      rw [htsv] at tpT
      have ob9 : W4.heap[X]? = some (.cells #[wsv, tsv, .slice none 0 0] 67 (0, 0)) := by rw [← hwsv, ← htsv]; exact ob4
      clear hwsv htsv ob4 HF HTL
      go_wp2_with fail
      go_loopw [12] (fun iv wr => ∃ (i : Nat) (fv : Value) (fs : List Fl), i ≤ ll.length ∧ iv = .int .i64 i ∧ G (fun k => k = X) W4 wr ∧ wr.heap[X]? = some (.cells #[wsv, tsv, fv] 67 (0, 0)) ∧ wr.ownsRow base 63 4 fv fs.length (flatF fs) ∧ fs ++ fillsF WL i (ll.drop i) = FF ∧ fs.length ≤ i) (fun iv _ => ll.length + 1 - (intOf iv).toNat)
      case atStart => exact ⟨0, .slice none 0 0, [], Nat.zero_le _, rfl, G.refl _ _, ob9, World.ownsRow_nil _ _ _ _, hF0, Nat.zero_le _⟩
      case round =>
        obtain ⟨i, fv, fs, hi, rfl, hG, oX, hown, hF, hfi⟩ := hrel
        clear hF0 ob9
        have bwr : B w wr := hG.b b04 (fun k hk => by omega)
        have oRr := hG.obj (b := w.heap.size) hRne obR4
        have hDk : IsDk wr wsv tsv fv ⟨WL, TL, fs⟩ := ⟨isRecs_keepG wr4 hnoX hG, isRecs_keepG tpT hnoX hG, isFls_own hown⟩
        have y0 : wr.cell? ⟨X, 0, none⟩ = some wsv := obj_cell oX 0
        have y1 : wr.cell? ⟨X, 1, none⟩ = some tsv := obj_cell oX 1
        have y2 : wr.cell? ⟨X, 2, none⟩ = some fv := obj_cell oX 2
        by_cases hl : i < ll.length
        · have hlB : decide ((i : Int) < (ll.length : Int)) = true := decide_eq_true (by omega)
          have hlN : decide (i < ll.length) = true := decide_eq_true hl
          have hlI : (i : Int) < (ll.length : Int) := by omega
          have hi0 : (0 : Int) ≤ (i : Int) := by omega
          have wk1 : IntKind.i64.wrap ((i : Int) + 1) = (i : Int) + 1 := by rw [IntKind.wrap_i64]; omega
          obtain ⟨x, hx⟩ : ∃ x, ll[i] = x := ⟨_, rfl⟩
          have hxe : ll[i]? = some x := by rw [List.getElem?_eq_getElem hl, hx]
          obtain ⟨hx32, lb, lo', hla, hcx⟩ := hU i x hxe
          subst hla
          have hcr := bwr.keep hcx
          have hdrop : ll.drop i = x :: ll.drop (i + 1) := by rw [List.drop_eq_getElem_cons hl, hx]
          rw [hdrop] at hF
          unfold fillsF at hF
          have cAt := r8at_any wsv tsv fv ⟨WL, TL, fs⟩ (i : Int) (by unfold I64; omega) wr hDk hbW
          clear hx hxe hdrop hcx
          simp only at cAt
          cases hat : atW WL (i : Int) with
          | none =>
            rw [hat] at cAt hF
            unfold wellV at cAt
            simp only [Option.isSome_none] at cAt
            go_wp2_with fail
            refine cAt.mono ?_
            rintro _ w5 ⟨rfl, q5⟩
            clear cAt
            have q6 := q5.alloc #[.string ⟨#[]⟩, .int .i64 0, .int .i64 0] 61
            have HZ := Lib.hid (And.intro (hG.trans (q6.g _)) (And.intro (q6.obj oX) (And.intro (ownsRow_keepB hown q6) (And.intro hF (And.intro hfi hl)))))
            clear hG oX hown hF hfi hl hDk bwr oRr q5 q6
            go_wp2
            go_roundw
            case rel =>
              obtain ⟨h1, h2, h3, h4, h5, h6⟩ := HZ.out
              exact ⟨i + 1, fv, fs, by omega, by go_num, h1, h2, h3, h4, by omega⟩
            case measure => have := HZ.out; simp [intOf]; omega
          | some nrc =>
            obtain ⟨n, r, cc⟩ := nrc
            rw [hat] at cAt hF
            dsimp only at hF
            unfold wellV at cAt
            simp only [Option.isSome_some] at cAt
            obtain ⟨r6, hr6⟩ : ∃ r6 : Nat, x % 6 = r6 := ⟨_, rfl⟩
            have rm6 : (x : Int).tmod 6 = (r6 : Int) := by rw [Int.tmod_eq_emod_of_nonneg (by omega)]; omega
            by_cases hz : r6 = 0
            · have hrB : decide ((0 : Int) < (r6 : Int)) = false := decide_eq_false (by omega)
              have hrN : decide (0 < r6) = false := decide_eq_false (by omega)
              rw [hr6, if_neg (by omega)] at hF
              clear hr6 hz
              go_wp2_with fail
              refine cAt.mono ?_
              rintro _ w5 ⟨rfl, q5⟩
              clear cAt
              have q6 := q5.alloc #[.string n, .int .i64 r, .int .i64 cc] 61
              have hcx6 := q6.keep hcr
              have hcx5 := q5.keep hcr
              have HZ := Lib.hid (And.intro (hG.trans (q6.g _)) (And.intro (q6.obj oX) (And.intro (ownsRow_keepB hown q6) (And.intro hF (And.intro hfi hl)))))
              clear hG oX hown hF hfi hl hDk bwr oRr q5 q6
              go_wp2
              go_roundw
              case rel =>
                obtain ⟨h1, h2, h3, h4, h5, h6⟩ := HZ.out
                exact ⟨i + 1, fv, fs, by omega, by go_num, h1, h2, h3, h4, by omega⟩
              case measure => have := HZ.out; simp [intOf]; omega
            · have hrB : decide ((0 : Int) < (r6 : Int)) = true := decide_eq_true (by omega)
              have hrN : decide (0 < r6) = true := decide_eq_true (by omega)
              rw [hr6, if_pos (by omega)] at hF
              obtain ⟨dq, hdq⟩ : ∃ dq : Nat, x / 6 = dq := ⟨_, rfl⟩
              obtain ⟨dm, hdm⟩ : ∃ dm : Nat, dq % 200000 = dm := ⟨_, rfl⟩
              rw [hdq, hdm] at hF
              have n1 : IntKind.u32.wrap ((x : Int).tdiv 6) = (dq : Int) := by rw [Int.tdiv_eq_ediv_of_nonneg (by omega), IntKind.wrap_u32]; omega
              have n1' : IntKind.u32.wrap ((x : Int) / 6) = (dq : Int) := by rw [IntKind.wrap_u32]; omega
              have n2 : (dq : Int).tmod 200000 = (dm : Int) := by rw [Int.tmod_eq_emod_of_nonneg (by omega)]; omega
              have n3 : IntKind.i64.wrap (dm : Int) = (dm : Int) := by rw [IntKind.wrap_i64]; omega
              obtain ⟨VV, hVV⟩ : ∃ VV : Int, 60000 + (dm : Int) = VV := ⟨_, rfl⟩
              have n4 : IntKind.i64.wrap (60000 + (dm : Int)) = VV := by rw [IntKind.wrap_i64]; omega
              rw [hVV] at hF
              clear hr6 hz hdq hdm hVV
              go_wp2_with fail
              refine cAt.mono ?_
              rintro _ w5 ⟨rfl, q5⟩
              clear cAt
              have q6 := q5.alloc #[.string n, .int .i64 r, .int .i64 cc] 61
              have oN := obj_new w5 (.cells #[.string n, .int .i64 r, .int .i64 cc] 61)
              have hcx6 := q6.keep hcr
              have hcx5 := q5.keep hcr
              have hG6 := hG.trans (q6.g _)
              have oX6 := q6.obj oX
              have own6 := ownsRow_keepB hown q6
              have HZ := Lib.hid (And.intro hG6 (And.intro oX6 (And.intro own6 (And.intro hF (And.intro hfi (And.intro hl oN))))))
              clear hG6 oX6 own6 oN hG oX hown hF hDk bwr oRr q5 q6 y0 y1 y2
              go_wp2_with fail
              obtain ⟨hG6, oX6, own6, hF, hfi, hl, oN⟩ := HZ.out
              clear HZ hcx5 hcr
              generalize w5.alloc (.cells #[.string n, .int .i64 r, .int .i64 cc] 61) = w6 at *
              generalize w5.heap.size = N at *
              have qA : B w6 (w6.drew.alloc (.cells #[.string n, .int .i64 r, .int .i64 cc, .int .i64 VV] 63)) := (B.refl w6).drew.alloc _ _
              have hownA := ownsRow_keepB own6 qA
              have hbaseA : base ≤ (w6.drew.alloc (.cells #[.string n, .int .i64 r, .int .i64 cc, .int .i64 VV] 63)).heap.size := by rw [← hbase]; exact (hG6.trans (qA.g _)).size
              have s0 : w6.drew.cell? ⟨X, 2, none⟩ = some fv := obj_cell (w := w6.drew) oX6 2
              have s1 : w6.drew.cell? ⟨N, 0, none⟩ = some (.string n) := obj_cell (w := w6.drew) oN 0
              have s2 : w6.drew.cell? ⟨N, 1, none⟩ = some (.int .i64 r) := obj_cell (w := w6.drew) oN 1
              have s3 : w6.drew.cell? ⟨N, 2, none⟩ = some (.int .i64 cc) := obj_cell (w := w6.drew) oN 2
              have s4 : w6.drew.cell? ⟨lb, lo' + i, none⟩ = some (.int .u32 (x : Int)) := hcx6
              have HX := Lib.hid (And.intro hG6 (And.intro own6 (And.intro hF hl)))
              clear hG6 own6 hF hl
              refine wp_region_noPanic ?_
              refine wp_region_gate (S := fun w' => w'.cell? ⟨X, 2, none⟩ = some fv ∧ w'.cell? ⟨N, 0, none⟩ = some (.string n) ∧ w'.cell? ⟨N, 1, none⟩ = some (.int .i64 r) ∧ w'.cell? ⟨N, 2, none⟩ = some (.int .i64 cc) ∧ w'.cell? ⟨lb, lo' + i, none⟩ = some (.int .u32 (x : Int))) 13 [(0, 3), (1, 0), (2, 0), (3, 3), (4, 3), (5, 3), (6, 0), (7, 3), (8, 3), (9, 3), (10, 3), (11, 3), (12, 2), (13, 4), (14, 3), (15, 4)] [0, 1, 0, 0, 0, 24, 32, 64, 128, 256, 512, 1028, 2048, 4098, 16383, 32767] [0, 1, 0, 0, 0, 24, 32, 64, 128, 256, 512, 1028, 2048, 4098, 0, 24576] [0, 57346, 63492, 0, 0, 0, 65472, 0, 0, 0, 0, 0, 0, 0, 0, 0] (by kernel_rfl) (by kernel_rfl) (fun _ _ _ _ _ h => h) ?_ (fun hH => ?_)
              · exact ⟨s0, s1, s2, s3, s4⟩
              refine wpSeqG_free (d := 105) (v := ?_) rfl rfl (by kernel_rfl) (fun w => ?_) ?_
              rotate_left
              · go_simp <;> with_reducible rfl
              dsimp only [List.set_cons_zero, List.set_cons_succ]
              refine wpSeqG_take (d := 106) (v := ?_) rfl rfl (by kernel_rfl) (fun w hS => ?_) ?_
              rotate_left
              · go_simp <;> with_reducible rfl
              dsimp only [List.set_cons_zero, List.set_cons_succ]
              refine wpSeqG_take (d := 107) (v := ?_) rfl rfl (by kernel_rfl) (fun w hS => ?_) ?_
              rotate_left
              · go_simp <;> with_reducible rfl
              dsimp only [List.set_cons_zero, List.set_cons_succ]
              refine wpSeqG_free (d := 108) (v := ?_) rfl rfl (by kernel_rfl) (fun w => ?_) ?_
              rotate_left
              · go_simp <;> with_reducible rfl
              dsimp only [List.set_cons_zero, List.set_cons_succ]
              refine wpSeqG_free (d := 109) (v := ?_) rfl rfl (by kernel_rfl) (fun w => ?_) ?_
              rotate_left
              · go_simp <;> with_reducible rfl
              dsimp only [List.set_cons_zero, List.set_cons_succ]
              refine wpSeqG_free (d := 110) (v := ?_) rfl rfl (by kernel_rfl) (fun w => ?_) ?_
              rotate_left
              · go_simp <;> with_reducible rfl
              dsimp only [List.set_cons_zero, List.set_cons_succ]
              refine wpSeqG_take (d := 111) (v := ?_) rfl rfl (by kernel_rfl) (fun w hS => ?_) ?_
              rotate_left
              · go_simp <;> with_reducible rfl
              dsimp only [List.set_cons_zero, List.set_cons_succ]
              refine wpSeqG_free (d := 112) (v := ?_) rfl rfl (by kernel_rfl) (fun w => ?_) ?_
              rotate_left
              · go_simp <;> with_reducible rfl
              dsimp only [List.set_cons_zero, List.set_cons_succ]
              refine wpSeqG_free (d := 113) (v := ?_) rfl rfl (by kernel_rfl) (fun w => ?_) ?_
              rotate_left
              · go_simp <;> with_reducible rfl
              dsimp only [List.set_cons_zero, List.set_cons_succ]
              refine wpSeqG_free (d := 114) (v := ?_) rfl rfl (by kernel_rfl) (fun w => ?_) ?_
              rotate_left
              · go_simp <;> with_reducible rfl
              dsimp only [List.set_cons_zero, List.set_cons_succ]
              refine wpSeqG_free (d := 115) (v := ?_) rfl rfl (by kernel_rfl) (fun w => ?_) ?_
              rotate_left
              · go_simp <;> with_reducible rfl
              dsimp only [List.set_cons_zero, List.set_cons_succ]
              refine wpSeqG_free (d := 116) (v := ?_) rfl rfl (by kernel_rfl) (fun w => ?_) ?_
              rotate_left
              · go_simp <;> with_reducible rfl
              dsimp only [List.set_cons_zero, List.set_cons_succ]
              refine wpSeqG_call rfl (by kernel_rfl) (fun K hK => ?_)
              go_simp
              refine hK.out _ _ ?_ (fun hH => ?_)
              · exact ⟨((B.refl _).alloc _ _).keep hH.1, ((B.refl _).alloc _ _).keep hH.2.1, ((B.refl _).alloc _ _).keep hH.2.2.1, ((B.refl _).alloc _ _).keep hH.2.2.2.1, ((B.refl _).alloc _ _).keep hH.2.2.2.2⟩
              clear hK
              refine wpSeqG_gate rfl (by kernel_rfl) (fun K hK => ?_)
              refine wp_append_lies _ _ _ 64 rfl base 63 i0f (.agg #[.string ⟨#[]⟩, .int .i64 0, .int .i64 0, .int .i64 0]) 4 40 (by kernel_rfl) hi0f hz0f hz1f hz2f rfl (by omega) _ _ _ rfl hownA ⟨w6.heap.size, 0, none⟩ 1 1 [.string n, .int .i64 r, .int .i64 cc, .int .i64 VV] rfl rfl (news_plain rfl) (by intro u hu; simp only [List.mem_cons, List.not_mem_nil, or_false] at hu; rcases hu with rfl | rfl | rfl | rfl <;> rfl) (by omega) (by unfold maxLen; omega) (by omega) hbaseA _ rfl ?_
              intro gN cN w9 hownN hgrowN hatN hltN
              have oX9 := obj_grown hgrowN (qA.obj oX6) (farF (qA.obj oX6) hownA (by decide))
              have yX : w9.cell? ⟨X, 2, none⟩ = some fv := obj_cell oX9 2
              have yF := obj_free oX9 2
              try simp only [Act.put, List.setIfInBounds_toArray, List.set_cons_zero, List.set_cons_succ]
              refine hK.out _ _ ?_
              clear hK
              refine wpSeqG_free (d := 119) (v := ?_) rfl rfl (by kernel_rfl) (fun w => ?_) ?_
              rotate_left
              · go_simp <;> with_reducible rfl
              dsimp only [List.set_cons_zero, List.set_cons_succ]
              refine wpSeqG_gate rfl (by kernel_rfl) (fun K hK => ?_)
              go_simp
              refine hK.out _ _ ?_
              clear hK
              refine wpSeqG_done ?_
              refine NoPanic.normal ?_
              all_goals
                obtain ⟨hG6, own6, hF, hl⟩ := HX.out
                have rowsX : fv.ownBlock ≠ some X := farF (qA.obj oX6) hownA (by decide)
                have hG9 : G (fun k => k = X) W4 w9 := (hG6.trans (qA.g _)).grown hgrowN (fun k hk => by
                  have := (ownsRow_obj hownA hk).1
                  right
                  omega)
                have hG10 := hG9.setCell (p := ⟨X, 2, none⟩) (.inl rfl) (.slice (some ⟨gN, 0, none⟩) (fs.length + 1) cN)
                have oX10 : (w9.setCell ⟨X, 2, none⟩ (.slice (some ⟨gN, 0, none⟩) (fs.length + 1) cN)).heap[X]? = some (.cells #[wsv, tsv, .slice (some ⟨gN, 0, none⟩) (fs.length + 1) cN] 67 (0, 0)) := by simpa using obj_set oX9 2 (.slice (some ⟨gN, 0, none⟩) (fs.length + 1) cN)
                have own10 : (w9.setCell ⟨X, 2, none⟩ (.slice (some ⟨gN, 0, none⟩) (fs.length + 1) cN)).ownsRow base 63 4 (.slice (some ⟨gN, 0, none⟩) (fs.length + 1) cN) (fs ++ [(⟨n, r, cc, VV⟩ : Fl)]).length (flatF (fs ++ [(⟨n, r, cc, VV⟩ : Fl)])) := by
                  rw [flatF_snoc, List.length_append]
                  exact ownsRow_setCell_other hownN (a := ⟨X, 2, none⟩) (fun e => farF oX9 hownN (by decide) e) (.slice (some ⟨gN, 0, none⟩) (fs.length + 1) cN)
                have hF10 : (fs ++ [(⟨n, r, cc, VV⟩ : Fl)]) ++ fillsF WL (i + 1) (ll.drop (i + 1)) = FF := by rw [List.append_assoc]; exact hF
                have HZ := Lib.hid (And.intro hG10 (And.intro oX10 (And.intro own10 (And.intro hF10 (And.intro hfi hl)))))
                clear hG9 hG10 oX10 own10 hF10 hF hl hG6 own6 HX rowsX oX9 yX yF hownN hgrowN hatN hltN hownA hbaseA qA oX6 oN hcx6 s0 s1 s2 s3 s4 hH
                generalize w9.setCell ⟨X, 2, none⟩ (.slice (some ⟨gN, 0, none⟩) (fs.length + 1) cN) = w10 at *
                go_wp2
                go_roundw
                case rel =>
                  obtain ⟨h1, h2, h3, h4, h5, h6⟩ := HZ.out
                  exact ⟨i + 1, _, _, by omega, by go_num, h1, h2, h3, h4, by simp; omega⟩
                case measure => have := HZ.out; simp [intOf]; omega
        · have hlB : decide ((i : Int) < (ll.length : Int)) = false := decide_eq_false (by omega)
          have hlN : decide (i < ll.length) = false := decide_eq_false hl
          rw [List.drop_eq_nil_of_le (by omega)] at hF
          unfold fillsF at hF
          rw [List.append_nil] at hF
          subst hF
          obtain ⟨a0, p0, z0⟩ := hDk.ws.form
          obtain ⟨a1, p1, z1⟩ := hDk.ts.form
          obtain ⟨a2, p2, z2⟩ := hDk.fs.form
          subst z0 z1 z2
          have r0 : wr.cell? ⟨w.heap.size, 0, none⟩ = some (.slice none 0 0) := obj_cell oRr 0
          have r1 : wr.cell? ⟨w.heap.size, 1, none⟩ = some (.slice none 0 0) := obj_cell oRr 1
          have r2 : wr.cell? ⟨w.heap.size, 2, none⟩ = some (.slice none 0 0) := obj_cell oRr 2
          have e0 := obj_free oRr 0
          have e1 := obj_free oRr 1
          have e2 := obj_free oRr 2
          have oE := obj_three oRr (.slice a0 WL.length p0) (.slice a1 TL.length p1) (.slice a2 fs.length p2)
          have hqF := b_three bwr (Nat.le_refl _) (.slice a0 WL.length p0) (.slice a1 TL.length p1) (.slice a2 fs.length p2)
          have hnoR : ∀ i, i = w.heap.size → ∀ k, (∀ r, wr.cell? ⟨i, k, none⟩ ≠ some (.bool r)) ∧ ∀ s, wr.cell? ⟨i, k, none⟩ ≠ some (.string s) := by
            rintro i rfl k
            rw [obj_cell oRr k]
            match k with
            | 0 => exact ⟨by simp, by simp⟩
            | 1 => exact ⟨by simp, by simp⟩
            | 2 => exact ⟨by simp, by simp⟩
            | n + 3 => exact ⟨by simp, by simp⟩
          have g5 := g_three wr w.heap.size (.slice a0 WL.length p0) (.slice a1 TL.length p1) (.slice a2 fs.length p2)
          have hown5 := hown.kept (w' := ((wr.setCell ⟨w.heap.size, 0, none⟩ (.slice a0 WL.length p0)).setCell ⟨w.heap.size, 1, none⟩ (.slice a1 TL.length p1)).setCell ⟨w.heap.size, 2, none⟩ (.slice a2 fs.length p2)) (row := some w.heap.size) ⟨g5.os, g5.tape, g5.output, g5.size, fun k hk he => g5.block k hk (fun e => he (by rw [e]))⟩ (.inr (farF oRr hown (by decide)))
          have hDF : IsDk (((wr.setCell ⟨w.heap.size, 0, none⟩ (.slice a0 WL.length p0)).setCell ⟨w.heap.size, 1, none⟩ (.slice a1 TL.length p1)).setCell ⟨w.heap.size, 2, none⟩ (.slice a2 fs.length p2)) (.slice a0 WL.length p0) (.slice a1 TL.length p1) (.slice a2 fs.length p2) ⟨WL, TL, fs⟩ := ⟨isRecs_keepG hDk.ws hnoR g5, isRecs_keepG hDk.ts hnoR g5, isFls_own hown5⟩
          have HZ := Lib.hid (And.intro oE (And.intro hqF hDF))
          clear oE hqF hDF hown5 g5 hnoR hDk hown oRr bwr hG oX wr4 tpT obR4 b04 hnoX hbW hU
          go_wp2
          obtain ⟨oE, hqF, hDF⟩ := HZ.out
          have c0 := obj_cell oE 0
          have c1 := obj_cell oE 1
          have c2 := obj_cell oE 2
          refine bodyPost_ret (v := .agg #[(.slice a0 WL.length p0), (.slice a1 TL.length p1), (.slice a2 fs.length p2)]) (by simp [results, Try.results22, go_sem, c0, c1, c2]) rfl ⟨_, _, _, rfl, by rw [hWL.out]; exact hDF, hqF⟩
    · obtain ⟨r5, e5⟩ : ∃ r, d % 5 = r := ⟨_, rfl⟩
      have tm5 : d.tmod 5 = r5 := by rw [Int.tmod_eq_emod_of_nonneg (by omega)]; exact e5
      have d5 : decide (0 < r5) = true := decide_eq_true (by omega)
      obtain ⟨d30, e30⟩ : ∃ r, d % 30 = r := ⟨_, rfl⟩
      have tm30 : d.tmod 30 = d30 := by rw [Int.tmod_eq_emod_of_nonneg (by omega)]; exact e30
      have w30 : IntKind.i64.wrap d30 = d30 := wrapI (by omega) (by omega)
      clear pc pf pe tm1 tm2 tm3 tm4 ec3 ed2 edh edh3 cO
      have kx1 : W4.cell? ⟨X, 1, none⟩ = some (.slice (some ⟨g, 0, none⟩) 1 cp) := obj_cell ob4 1
      go_wp2_with fail
      refine wp_region_noPanic ?_
      refine wp_region_slots [(0, 73), (1, 74), (2, 75), (3, 76), (4, 77), (5, 78), (6, 79), (7, 80), (8, 81)] [(9, 2), (10, 0), (11, 2)] [0, 1, 0, 4, 8, 0, 32, 80, 128, 322, 1023, 2047] [0, 1, 0, 4, 8, 0, 32, 80, 128, 258, 0, 1536] [0, 1, 0, 4, 12, 0, 32, 124, 252, 511, 1023, 2047] 511 [(fun v _ => v = .pointer (some ⟨X, 1, none⟩)), (fun v _ => v = .slice (some ⟨g, 0, none⟩) 1 cp), (fun v _ => v = .int .u8 d), (fun v _ => v = .int .u8 d30), (fun v _ => v = .int .i64 d30), (fun v _ => v = .int .u8 d), (SecsV (g + 1) lp), (RecV (g + 1) ⟨⟨#[116, 50]⟩, 50000, 40000, d30, lp⟩), (RecRow (g + 1) ⟨⟨#[116, 50]⟩, 50000, 40000, d30, lp⟩)] (by kernel_rfl) (by kernel_rfl) (fun _ _ _ _ h => h) ⟨slot_val _, slot_val _, slot_val _, slot_val _, slot_val _, slot_val _, slot_secs _ _, slot_rec _ _, slot_recrow _ _, trivial⟩ ⟨?_, ?_, ?_, ?_, ?_, ?_, ?_, ?_, ?_, trivial⟩ ?_
      · intro f w' hf hB
        clear hf
        refine slot_op rfl (fun _ => rfl) (fun T hT K hK => ?_)
        simp only [putsL, List.set_cons_zero, List.set_cons_succ] at hT
        subst hT
        go_simp
        exact hK.out _ _ rfl (B.refl _)
      · intro f w' hf hB
        have h0 := hf (0, 73) (by simp) (by rfl)
        clear hf
        have e0 : f 0 = _ := h0
        have k1 := hB.keep kx1
        refine slot_op rfl (fun _ => rfl) (fun T hT K hK => ?_)
        simp only [putsL, List.set_cons_zero, List.set_cons_succ, e0] at hT
        subst hT
        go_simp
        exact hK.out _ _ rfl (B.refl _)
      · intro f w' hf hB
        clear hf
        refine slot_op rfl (fun _ => rfl) (fun T hT K hK => ?_)
        simp only [putsL, List.set_cons_zero, List.set_cons_succ] at hT
        subst hT
        go_simp
        exact hK.out _ _ rfl (B.refl _)
      · intro f w' hf hB
        have h2 := hf (2, 75) (by simp) (by rfl)
        clear hf
        have e2 : f 2 = _ := h2
        refine slot_op rfl (fun _ => rfl) (fun T hT K hK => ?_)
        simp only [putsL, List.set_cons_zero, List.set_cons_succ, e2] at hT
        subst hT
        go_simp
        exact hK.out _ _ rfl (B.refl _)
      · intro f w' hf hB
        have h3 := hf (3, 76) (by simp) (by rfl)
        clear hf
        have e3 : f 3 = _ := h3
        refine slot_op rfl (fun _ => rfl) (fun T hT K hK => ?_)
        simp only [putsL, List.set_cons_zero, List.set_cons_succ, e3] at hT
        subst hT
        go_simp
        exact hK.out _ _ rfl (B.refl _)
      · intro f w' hf hB
        clear hf
        refine slot_op rfl (fun _ => rfl) (fun T hT K hK => ?_)
        simp only [putsL, List.set_cons_zero, List.set_cons_succ] at hT
        subst hT
        go_simp
        exact hK.out _ _ rfl (B.refl _)
      · intro f w' hf hB
        have h5 := hf (5, 78) (by simp) (by rfl)
        clear hf
        have e5 : f 5 = _ := h5
        refine slot_op rfl (fun _ => rfl) (fun T hT K hK => ?_)
        simp only [putsL, List.set_cons_zero, List.set_cons_succ, e5] at hT
        subst hT
        go_simp
        (with_reducible refine (cP _).mono ?_)
        rintro e w2 ⟨vo, rfl, hvo, q, hbo⟩
        obtain ⟨o7, n7, p7, rfl⟩ := hvo.form
        exact hK.out _ _ ⟨_, _, _, rfl, hvo, fun b hb => ⟨Nat.le_trans s4 (Nat.le_trans hB.below.size (hbo b hb)), secs_lt hvo hlp hb⟩⟩ q.b
      · intro f w' hf hB
        have h4 := hf (4, 77) (by simp) (by rfl)
        have h6 := hf (6, 79) (by simp) (by rfl)
        clear hf
        have e4 : f 4 = _ := h4
        obtain ⟨o7, n7, p7, e6, hvo, hbo⟩ := h6
        refine slot_op rfl (fun _ => rfl) (fun T hT K hK => ?_)
        simp only [putsL, List.set_cons_zero, List.set_cons_succ, e4, e6] at hT
        subst hT
        go_simp
        exact hK.out _ _ ⟨o7, n7, p7, rfl, hvo, hbo⟩ (B.refl _)
      · intro f w' hf hB
        have h7 := hf (7, 80) (by simp) (by rfl)
        clear hf
        obtain ⟨o7, n7, p7, e7, hvo, hbo⟩ := h7
        refine slot_op rfl (fun _ => rfl) (fun T hT K hK => ?_)
        simp only [putsL, List.set_cons_zero, List.set_cons_succ, e7] at hT
        subst hT
        go_simp
        refine hK.out _ _ ⟨_, o7, n7, p7, rfl, fun j u hj => ?_, hvo.keepB ((B.refl _).alloc _ _), fun b hb => ⟨(hbo b hb).1, Nat.lt_of_lt_of_le (hbo b hb).2 ((B.refl _).alloc _ _).below.size⟩⟩ ((B.refl _).alloc _ _)
        rw [World.cell?_alloc_new]
        simpa [Rec.cells] using hj
      · intro f w' hf hB T hT
        have h1 : f 1 = _ := hf (1, 74) (by simp)
        have h8 := hf (8, 81) (by simp)
        obtain ⟨B2, o7, n7, p7, e8, hcs, hvp, hbp⟩ := h8
        clear hf
        simp only [putsL, List.set_cons_zero, List.set_cons_succ, h1, e8] at hT
        subst hT
        have obX' := hB.obj ob4
        have own' := ownsRow_keepB own4 hB
        have hv' := hv4.keepB hB
        refine wpSeq_call rfl (by kernel_rfl) (fun K hK => ?_)
        refine wp_append_lies _ (.tmp 74) (.tmp 81) 65 rfl U0.heap.size 116 i0 _ 5 64 Try.underlying65 hi0 hz0 hz1 hz2 rfl (by omega) (.slice (some ⟨g, 0, none⟩) 1 cp) 1 (flatR [⟨⟨#[116, 49]⟩, cap, filt, err, lo⟩] [.slice oo no po]) rfl own' ⟨B2, 0, none⟩ 1 1 (Rec.cells ⟨⟨#[116, 50]⟩, 50000, 40000, d30, lp⟩ (.slice o7 n7 p7)) rfl rfl (fun j u hj => by rw [add0]; exact hcs j u hj) (by simp [Rec.cells, Value.oneCell']) (by omega) (by unfold maxLen; omega) (by omega) (Nat.le_trans b4.below.size hB.below.size) _ rfl (fun g2 cp2 w5 hown hgrow hat hlt => ?_)
        refine hK.out _ _ trivial (fun _ => ?_)
        clear hK
        have sX : X < w'.heap.size := (Array.getElem?_eq_some_iff.1 obX').1
        have hg2 : X < g2 := by
          rcases hat with h | h
          · cases h; exact hgX
          · omega
        have gg : G (fun i => i = g) w' w5 := (G.refl _ w').grown hgrow (fun k hk => .inl (by cases hk; rfl))
        have ob5 := gg.obj (by omega) obX'
        have kX1 := obj_cell ob5 1
        have fX1 := obj_free ob5 1
        refine wpSeq_take (d := 83) (v := ?_) rfl rfl (by kernel_rfl) (fun w hS => ?_) ?_
        rotate_left
        · go_simp <;> with_reducible rfl
        dsimp only [List.set_cons_zero, List.set_cons_succ]
        refine wpSeq_call rfl (by kernel_rfl) (fun K hK => ?_)
        go_simp
        refine hK.out _ _ trivial (fun _ => ?_)
        clear hK
        refine wpSeq_done ?_
        refine NoPanic.normal ?_
        have gX : G (fun i => i = X ∨ i = g) w' (w5.setCell ⟨X, 1, none⟩ (.slice (some ⟨g2, 0, none⟩) 2 cp2)) := G.setCell (S := fun i => i = X ∨ i = g) (p := ⟨X, 1, none⟩) (gg.mono (fun _ _ h => .inr h)) (.inl (.inl rfl)) _
        have b6 : B U0 (w5.setCell ⟨X, 1, none⟩ (.slice (some ⟨g2, 0, none⟩) 2 cp2)) := gX.b (b4.trans hB) (fun i hi => by omega)
        have ob6 := obj_set ob5 1 (.slice (some ⟨g2, 0, none⟩) 2 cp2)
        simp only [List.setIfInBounds_toArray, List.set_cons_succ, List.set_cons_zero] at ob6
        have own6 := ownsRow_setCell_other hown (a := ⟨X, 1, none⟩) (by simp [Value.ownBlock]; omega) (.slice (some ⟨g2, 0, none⟩) 2 cp2)
        replace own6 : (w5.setCell ⟨X, 1, none⟩ (.slice (some ⟨g2, 0, none⟩) 2 cp2)).ownsRow U0.heap.size 116 5 (.slice (some ⟨g2, 0, none⟩) 2 cp2) 2 (flatR [⟨⟨#[116, 49]⟩, cap, filt, err, lo⟩, ⟨⟨#[116, 50]⟩, 50000, 40000, d30, lp⟩] [.slice oo no po, .slice o7 n7 p7]) := own6
        have hv6 := isSecs_keepOwn hv' (fun b hb => by have := hb4 b hb; omega) gX
        have hp6 := isSecs_keepOwn hvp (fun b hb => by have := (hbp b hb).1; omega) gX
        have tp6 : IsRecs (w5.setCell ⟨X, 1, none⟩ (.slice (some ⟨g2, 0, none⟩) 2 cp2)) (.slice (some ⟨g2, 0, none⟩) 2 cp2) [⟨⟨#[116, 49]⟩, cap, filt, err, lo⟩, ⟨⟨#[116, 50]⟩, 50000, 40000, d30, lp⟩] := recs_own (L := [⟨⟨#[116, 49]⟩, cap, filt, err, lo⟩, ⟨⟨#[116, 50]⟩, 50000, 40000, d30, lp⟩]) (vs := [.slice oo no po, .slice o7 n7 p7]) own6 (by omega) rfl rfl (fun i r v hr hv => by
          match i with
          | 0 => obtain rfl := Option.some.inj hr; obtain rfl := Option.some.inj hv; exact hv6
          | 1 => obtain rfl := Option.some.inj hr; obtain rfl := Option.some.inj hv; exact hp6
          | n + 2 => simp at hr)
        have tpT : IsRecs (w5.setCell ⟨X, 1, none⟩ (.slice (some ⟨g2, 0, none⟩) 2 cp2)) (.slice (some ⟨g2, 0, none⟩) 2 cp2) TL := by
          have e := HTL.out
          rw [if_neg h5, e30] at e
          rw [← e]; exact tp6
        replace obR4 := b6.obj obR
        replace wr4 := rw0.keepB b6
        replace b04 := hu0.trans b6
        clear h5 e5 tm5 d5 e30 tm30 w30 kX1 fX1 kx1 ob5 ob4 own4 own' own6 hv4 hv' hv6 hvp hp6 tp6 gX gg hown hgrow hat hlt obX' rw0 b4 b6 hB hu0 hu0s obR hX hz0 hz1 hz2 hi0 hcs hbp hb4 s4 sX hgX h1 e8 cP
        generalize w5.setCell ⟨X, 1, none⟩ (.slice (some ⟨g2, 0, none⟩) 2 cp2) = W6 at *
        have hnoX : ∀ i, i = X → ∀ k, (∀ r, W6.cell? ⟨i, k, none⟩ ≠ some (.bool r)) ∧ ∀ s, W6.cell? ⟨i, k, none⟩ ≠ some (.string s) := by
          rintro i rfl k
          rw [obj_cell ob6 k]
          match k with
          | 0 => exact ⟨by simp, by simp⟩
          | 1 => exact ⟨by simp, by simp⟩
          | 2 => exact ⟨by simp, by simp⟩
          | n + 3 => exact ⟨by simp, by simp⟩
        obtain ⟨i0f, hi0f, hz0f, hz1f, hz2f⟩ := info_of fillIF
        have hRne : ¬ w.heap.size = X := by omega
        have hXW := obj_lt ob6
        obtain ⟨base, hbase⟩ : ∃ base, W6.heap.size = base := ⟨_, rfl⟩
        obtain ⟨WL, hWL⟩ : ∃ WL : List Rec, [⟨⟨#[112, 108, 97, 116, 101]⟩, a / 6 % 3 + 1, b / 6 % 4 + 2, c % 4 * 500, la⟩, ⟨⟨#[116, 117, 98, 101]⟩, 1, c / 4 % 3 + 2, d % 3 * 300, lb⟩] = WL := ⟨_, rfl⟩
        have hF0 := HF.out
        rw [hWL] at wr4 hbW hF0
        replace hWL := Lib.hid hWL
        obtain ⟨wsv, hwsv⟩ : ∃ wsv : Value, .slice (some ⟨Wb, 0, none⟩) 2 2 = wsv := ⟨_, rfl⟩
        obtain ⟨tsv, htsv⟩ : ∃ tsv : Value, .slice (some ⟨g2, 0, none⟩) 2 cp2 = tsv := ⟨_, rfl⟩
        rw [hwsv] at wr4
        rw [htsv] at tpT
        have ob9 : W6.heap[X]? = some (.cells #[wsv, tsv, .slice none 0 0] 67 (0, 0)) := by rw [← hwsv, ← htsv]; exact ob6
        clear hwsv htsv ob6 HF HTL
        go_wp2_with fail
        go_loopw [12] (fun iv wr => ∃ (i : Nat) (fv : Value) (fs : List Fl), i ≤ ll.length ∧ iv = .int .i64 i ∧ G (fun k => k = X) W6 wr ∧ wr.heap[X]? = some (.cells #[wsv, tsv, fv] 67 (0, 0)) ∧ wr.ownsRow base 63 4 fv fs.length (flatF fs) ∧ fs ++ fillsF WL i (ll.drop i) = FF ∧ fs.length ≤ i) (fun iv _ => ll.length + 1 - (intOf iv).toNat)
        case atStart => exact ⟨0, .slice none 0 0, [], Nat.zero_le _, rfl, G.refl _ _, ob9, World.ownsRow_nil _ _ _ _, hF0, Nat.zero_le _⟩
        case round =>
          obtain ⟨i, fv, fs, hi, rfl, hG, oX, hown, hF, hfi⟩ := hrel
          clear hF0 ob9
          have bwr : B w wr := hG.b b04 (fun k hk => by omega)
          have oRr := hG.obj (b := w.heap.size) hRne obR4
          have hDk : IsDk wr wsv tsv fv ⟨WL, TL, fs⟩ := ⟨isRecs_keepG wr4 hnoX hG, isRecs_keepG tpT hnoX hG, isFls_own hown⟩
          have y0 : wr.cell? ⟨X, 0, none⟩ = some wsv := obj_cell oX 0
          have y1 : wr.cell? ⟨X, 1, none⟩ = some tsv := obj_cell oX 1
          have y2 : wr.cell? ⟨X, 2, none⟩ = some fv := obj_cell oX 2
          by_cases hl : i < ll.length
          · have hlB : decide ((i : Int) < (ll.length : Int)) = true := decide_eq_true (by omega)
            have hlN : decide (i < ll.length) = true := decide_eq_true hl
            have hlI : (i : Int) < (ll.length : Int) := by omega
            have hi0 : (0 : Int) ≤ (i : Int) := by omega
            have wk1 : IntKind.i64.wrap ((i : Int) + 1) = (i : Int) + 1 := by rw [IntKind.wrap_i64]; omega
            obtain ⟨x, hx⟩ : ∃ x, ll[i] = x := ⟨_, rfl⟩
            have hxe : ll[i]? = some x := by rw [List.getElem?_eq_getElem hl, hx]
            obtain ⟨hx32, lb, lo', hla, hcx⟩ := hU i x hxe
            subst hla
            have hcr := bwr.keep hcx
            have hdrop : ll.drop i = x :: ll.drop (i + 1) := by rw [List.drop_eq_getElem_cons hl, hx]
            rw [hdrop] at hF
            unfold fillsF at hF
            have cAt := r8at_any wsv tsv fv ⟨WL, TL, fs⟩ (i : Int) (by unfold I64; omega) wr hDk hbW
            clear hx hxe hdrop hcx
            simp only at cAt
            cases hat : atW WL (i : Int) with
            | none =>
              rw [hat] at cAt hF
              unfold wellV at cAt
              simp only [Option.isSome_none] at cAt
              go_wp2_with fail
              refine cAt.mono ?_
              rintro _ w5 ⟨rfl, q5⟩
              clear cAt
              have q6 := q5.alloc #[.string ⟨#[]⟩, .int .i64 0, .int .i64 0] 61
              have HZ := Lib.hid (And.intro (hG.trans (q6.g _)) (And.intro (q6.obj oX) (And.intro (ownsRow_keepB hown q6) (And.intro hF (And.intro hfi hl)))))
              clear hG oX hown hF hfi hl hDk bwr oRr q5 q6
              go_wp2
              go_roundw
              case rel =>
                obtain ⟨h1, h2, h3, h4, h5, h6⟩ := HZ.out
                exact ⟨i + 1, fv, fs, by omega, by go_num, h1, h2, h3, h4, by omega⟩
              case measure => have := HZ.out; simp [intOf]; omega
            | some nrc =>
              obtain ⟨n, r, cc⟩ := nrc
              rw [hat] at cAt hF
              dsimp only at hF
              unfold wellV at cAt
              simp only [Option.isSome_some] at cAt
              obtain ⟨r6, hr6⟩ : ∃ r6 : Nat, x % 6 = r6 := ⟨_, rfl⟩
              have rm6 : (x : Int).tmod 6 = (r6 : Int) := by rw [Int.tmod_eq_emod_of_nonneg (by omega)]; omega
              by_cases hz : r6 = 0
              · have hrB : decide ((0 : Int) < (r6 : Int)) = false := decide_eq_false (by omega)
                have hrN : decide (0 < r6) = false := decide_eq_false (by omega)
                rw [hr6, if_neg (by omega)] at hF
                clear hr6 hz
                go_wp2_with fail
                refine cAt.mono ?_
                rintro _ w5 ⟨rfl, q5⟩
                clear cAt
                have q6 := q5.alloc #[.string n, .int .i64 r, .int .i64 cc] 61
                have hcx6 := q6.keep hcr
                have hcx5 := q5.keep hcr
                have HZ := Lib.hid (And.intro (hG.trans (q6.g _)) (And.intro (q6.obj oX) (And.intro (ownsRow_keepB hown q6) (And.intro hF (And.intro hfi hl)))))
                clear hG oX hown hF hfi hl hDk bwr oRr q5 q6
                go_wp2
                go_roundw
                case rel =>
                  obtain ⟨h1, h2, h3, h4, h5, h6⟩ := HZ.out
                  exact ⟨i + 1, fv, fs, by omega, by go_num, h1, h2, h3, h4, by omega⟩
                case measure => have := HZ.out; simp [intOf]; omega
              · have hrB : decide ((0 : Int) < (r6 : Int)) = true := decide_eq_true (by omega)
                have hrN : decide (0 < r6) = true := decide_eq_true (by omega)
                rw [hr6, if_pos (by omega)] at hF
                obtain ⟨dq, hdq⟩ : ∃ dq : Nat, x / 6 = dq := ⟨_, rfl⟩
                obtain ⟨dm, hdm⟩ : ∃ dm : Nat, dq % 200000 = dm := ⟨_, rfl⟩
                rw [hdq, hdm] at hF
                have n1 : IntKind.u32.wrap ((x : Int).tdiv 6) = (dq : Int) := by rw [Int.tdiv_eq_ediv_of_nonneg (by omega), IntKind.wrap_u32]; omega
                have n1' : IntKind.u32.wrap ((x : Int) / 6) = (dq : Int) := by rw [IntKind.wrap_u32]; omega
                have n2 : (dq : Int).tmod 200000 = (dm : Int) := by rw [Int.tmod_eq_emod_of_nonneg (by omega)]; omega
                have n3 : IntKind.i64.wrap (dm : Int) = (dm : Int) := by rw [IntKind.wrap_i64]; omega
                obtain ⟨VV, hVV⟩ : ∃ VV : Int, 60000 + (dm : Int) = VV := ⟨_, rfl⟩
                have n4 : IntKind.i64.wrap (60000 + (dm : Int)) = VV := by rw [IntKind.wrap_i64]; omega
                rw [hVV] at hF
                clear hr6 hz hdq hdm hVV
                go_wp2_with fail
                refine cAt.mono ?_
                rintro _ w5 ⟨rfl, q5⟩
                clear cAt
                have q6 := q5.alloc #[.string n, .int .i64 r, .int .i64 cc] 61
                have oN := obj_new w5 (.cells #[.string n, .int .i64 r, .int .i64 cc] 61)
                have hcx6 := q6.keep hcr
                have hcx5 := q5.keep hcr
                have hG6 := hG.trans (q6.g _)
                have oX6 := q6.obj oX
                have own6 := ownsRow_keepB hown q6
                have HZ := Lib.hid (And.intro hG6 (And.intro oX6 (And.intro own6 (And.intro hF (And.intro hfi (And.intro hl oN))))))
                clear hG6 oX6 own6 oN hG oX hown hF hDk bwr oRr q5 q6 y0 y1 y2
                go_wp2_with fail
                obtain ⟨hG6, oX6, own6, hF, hfi, hl, oN⟩ := HZ.out
                clear HZ hcx5 hcr
                generalize w5.alloc (.cells #[.string n, .int .i64 r, .int .i64 cc] 61) = w6 at *
                generalize w5.heap.size = N at *
                have qA : B w6 (w6.drew.alloc (.cells #[.string n, .int .i64 r, .int .i64 cc, .int .i64 VV] 63)) := (B.refl w6).drew.alloc _ _
                have hownA := ownsRow_keepB own6 qA
                have hbaseA : base ≤ (w6.drew.alloc (.cells #[.string n, .int .i64 r, .int .i64 cc, .int .i64 VV] 63)).heap.size := by rw [← hbase]; exact (hG6.trans (qA.g _)).size
                have s0 : w6.drew.cell? ⟨X, 2, none⟩ = some fv := obj_cell (w := w6.drew) oX6 2
                have s1 : w6.drew.cell? ⟨N, 0, none⟩ = some (.string n) := obj_cell (w := w6.drew) oN 0
                have s2 : w6.drew.cell? ⟨N, 1, none⟩ = some (.int .i64 r) := obj_cell (w := w6.drew) oN 1
                have s3 : w6.drew.cell? ⟨N, 2, none⟩ = some (.int .i64 cc) := obj_cell (w := w6.drew) oN 2
                have s4 : w6.drew.cell? ⟨lb, lo' + i, none⟩ = some (.int .u32 (x : Int)) := hcx6
                have HX := Lib.hid (And.intro hG6 (And.intro own6 (And.intro hF hl)))
                clear hG6 own6 hF hl
                refine wp_region_noPanic ?_
                refine wp_region_gate (S := fun w' => w'.cell? ⟨X, 2, none⟩ = some fv ∧ w'.cell? ⟨N, 0, none⟩ = some (.string n) ∧ w'.cell? ⟨N, 1, none⟩ = some (.int .i64 r) ∧ w'.cell? ⟨N, 2, none⟩ = some (.int .i64 cc) ∧ w'.cell? ⟨lb, lo' + i, none⟩ = some (.int .u32 (x : Int))) 13 [(0, 3), (1, 0), (2, 0), (3, 3), (4, 3), (5, 3), (6, 0), (7, 3), (8, 3), (9, 3), (10, 3), (11, 3), (12, 2), (13, 4), (14, 3), (15, 4)] [0, 1, 0, 0, 0, 24, 32, 64, 128, 256, 512, 1028, 2048, 4098, 16383, 32767] [0, 1, 0, 0, 0, 24, 32, 64, 128, 256, 512, 1028, 2048, 4098, 0, 24576] [0, 57346, 63492, 0, 0, 0, 65472, 0, 0, 0, 0, 0, 0, 0, 0, 0] (by kernel_rfl) (by kernel_rfl) (fun _ _ _ _ _ h => h) ?_ (fun hH => ?_)
                · exact ⟨s0, s1, s2, s3, s4⟩
                refine wpSeqG_free (d := 105) (v := ?_) rfl rfl (by kernel_rfl) (fun w => ?_) ?_
                rotate_left
                · go_simp <;> with_reducible rfl
                dsimp only [List.set_cons_zero, List.set_cons_succ]
                refine wpSeqG_take (d := 106) (v := ?_) rfl rfl (by kernel_rfl) (fun w hS => ?_) ?_
                rotate_left
                · go_simp <;> with_reducible rfl
                dsimp only [List.set_cons_zero, List.set_cons_succ]
                refine wpSeqG_take (d := 107) (v := ?_) rfl rfl (by kernel_rfl) (fun w hS => ?_) ?_
                rotate_left
                · go_simp <;> with_reducible rfl
                dsimp only [List.set_cons_zero, List.set_cons_succ]
                refine wpSeqG_free (d := 108) (v := ?_) rfl rfl (by kernel_rfl) (fun w => ?_) ?_
                rotate_left
                · go_simp <;> with_reducible rfl
                dsimp only [List.set_cons_zero, List.set_cons_succ]
                refine wpSeqG_free (d := 109) (v := ?_) rfl rfl (by kernel_rfl) (fun w => ?_) ?_
                rotate_left
                · go_simp <;> with_reducible rfl
                dsimp only [List.set_cons_zero, List.set_cons_succ]
                refine wpSeqG_free (d := 110) (v := ?_) rfl rfl (by kernel_rfl) (fun w => ?_) ?_
                rotate_left
                · go_simp <;> with_reducible rfl
                dsimp only [List.set_cons_zero, List.set_cons_succ]
                refine wpSeqG_take (d := 111) (v := ?_) rfl rfl (by kernel_rfl) (fun w hS => ?_) ?_
                rotate_left
                · go_simp <;> with_reducible rfl
                dsimp only [List.set_cons_zero, List.set_cons_succ]
                refine wpSeqG_free (d := 112) (v := ?_) rfl rfl (by kernel_rfl) (fun w => ?_) ?_
                rotate_left
                · go_simp <;> with_reducible rfl
                dsimp only [List.set_cons_zero, List.set_cons_succ]
                refine wpSeqG_free (d := 113) (v := ?_) rfl rfl (by kernel_rfl) (fun w => ?_) ?_
                rotate_left
                · go_simp <;> with_reducible rfl
                dsimp only [List.set_cons_zero, List.set_cons_succ]
                refine wpSeqG_free (d := 114) (v := ?_) rfl rfl (by kernel_rfl) (fun w => ?_) ?_
                rotate_left
                · go_simp <;> with_reducible rfl
                dsimp only [List.set_cons_zero, List.set_cons_succ]
                refine wpSeqG_free (d := 115) (v := ?_) rfl rfl (by kernel_rfl) (fun w => ?_) ?_
                rotate_left
                · go_simp <;> with_reducible rfl
                dsimp only [List.set_cons_zero, List.set_cons_succ]
                refine wpSeqG_free (d := 116) (v := ?_) rfl rfl (by kernel_rfl) (fun w => ?_) ?_
                rotate_left
                · go_simp <;> with_reducible rfl
                dsimp only [List.set_cons_zero, List.set_cons_succ]
                refine wpSeqG_call rfl (by kernel_rfl) (fun K hK => ?_)
                go_simp
                refine hK.out _ _ ?_ (fun hH => ?_)
                · exact ⟨((B.refl _).alloc _ _).keep hH.1, ((B.refl _).alloc _ _).keep hH.2.1, ((B.refl _).alloc _ _).keep hH.2.2.1, ((B.refl _).alloc _ _).keep hH.2.2.2.1, ((B.refl _).alloc _ _).keep hH.2.2.2.2⟩
                clear hK
                refine wpSeqG_gate rfl (by kernel_rfl) (fun K hK => ?_)
                refine wp_append_lies _ _ _ 64 rfl base 63 i0f (.agg #[.string ⟨#[]⟩, .int .i64 0, .int .i64 0, .int .i64 0]) 4 40 (by kernel_rfl) hi0f hz0f hz1f hz2f rfl (by omega) _ _ _ rfl hownA ⟨w6.heap.size, 0, none⟩ 1 1 [.string n, .int .i64 r, .int .i64 cc, .int .i64 VV] rfl rfl (news_plain rfl) (by intro u hu; simp only [List.mem_cons, List.not_mem_nil, or_false] at hu; rcases hu with rfl | rfl | rfl | rfl <;> rfl) (by omega) (by unfold maxLen; omega) (by omega) hbaseA _ rfl ?_
                intro gN cN w9 hownN hgrowN hatN hltN
                have oX9 := obj_grown hgrowN (qA.obj oX6) (farF (qA.obj oX6) hownA (by decide))
                have yX : w9.cell? ⟨X, 2, none⟩ = some fv := obj_cell oX9 2
                have yF := obj_free oX9 2
                try simp only [Act.put, List.setIfInBounds_toArray, List.set_cons_zero, List.set_cons_succ]
                refine hK.out _ _ ?_
                clear hK
                refine wpSeqG_free (d := 119) (v := ?_) rfl rfl (by kernel_rfl) (fun w => ?_) ?_
                rotate_left
                · go_simp <;> with_reducible rfl
                dsimp only [List.set_cons_zero, List.set_cons_succ]
                refine wpSeqG_gate rfl (by kernel_rfl) (fun K hK => ?_)
                go_simp
                refine hK.out _ _ ?_
                clear hK
                refine wpSeqG_done ?_
                refine NoPanic.normal ?_
                all_goals
                  obtain ⟨hG6, own6, hF, hl⟩ := HX.out
                  have rowsX : fv.ownBlock ≠ some X := farF (qA.obj oX6) hownA (by decide)
                  have hG9 : G (fun k => k = X) W6 w9 := (hG6.trans (qA.g _)).grown hgrowN (fun k hk => by
                    have := (ownsRow_obj hownA hk).1
                    right
                    omega)
                  have hG10 := hG9.setCell (p := ⟨X, 2, none⟩) (.inl rfl) (.slice (some ⟨gN, 0, none⟩) (fs.length + 1) cN)
                  have oX10 : (w9.setCell ⟨X, 2, none⟩ (.slice (some ⟨gN, 0, none⟩) (fs.length + 1) cN)).heap[X]? = some (.cells #[wsv, tsv, .slice (some ⟨gN, 0, none⟩) (fs.length + 1) cN] 67 (0, 0)) := by simpa using obj_set oX9 2 (.slice (some ⟨gN, 0, none⟩) (fs.length + 1) cN)
                  have own10 : (w9.setCell ⟨X, 2, none⟩ (.slice (some ⟨gN, 0, none⟩) (fs.length + 1) cN)).ownsRow base 63 4 (.slice (some ⟨gN, 0, none⟩) (fs.length + 1) cN) (fs ++ [(⟨n, r, cc, VV⟩ : Fl)]).length (flatF (fs ++ [(⟨n, r, cc, VV⟩ : Fl)])) := by
                    rw [flatF_snoc, List.length_append]
                    exact ownsRow_setCell_other hownN (a := ⟨X, 2, none⟩) (fun e => farF oX9 hownN (by decide) e) (.slice (some ⟨gN, 0, none⟩) (fs.length + 1) cN)
                  have hF10 : (fs ++ [(⟨n, r, cc, VV⟩ : Fl)]) ++ fillsF WL (i + 1) (ll.drop (i + 1)) = FF := by rw [List.append_assoc]; exact hF
                  have HZ := Lib.hid (And.intro hG10 (And.intro oX10 (And.intro own10 (And.intro hF10 (And.intro hfi hl)))))
                  clear hG9 hG10 oX10 own10 hF10 hF hl hG6 own6 HX rowsX oX9 yX yF hownN hgrowN hatN hltN hownA hbaseA qA oX6 oN hcx6 s0 s1 s2 s3 s4 hH
                  generalize w9.setCell ⟨X, 2, none⟩ (.slice (some ⟨gN, 0, none⟩) (fs.length + 1) cN) = w10 at *
                  go_wp2
                  go_roundw
                  case rel =>
                    obtain ⟨h1, h2, h3, h4, h5, h6⟩ := HZ.out
                    exact ⟨i + 1, _, _, by omega, by go_num, h1, h2, h3, h4, by simp; omega⟩
                  case measure => have := HZ.out; simp [intOf]; omega
          · have hlB : decide ((i : Int) < (ll.length : Int)) = false := decide_eq_false (by omega)
            have hlN : decide (i < ll.length) = false := decide_eq_false hl
            rw [List.drop_eq_nil_of_le (by omega)] at hF
            unfold fillsF at hF
            rw [List.append_nil] at hF
            subst hF
            obtain ⟨a0, p0, z0⟩ := hDk.ws.form
            obtain ⟨a1, p1, z1⟩ := hDk.ts.form
            obtain ⟨a2, p2, z2⟩ := hDk.fs.form
            subst z0 z1 z2
            have r0 : wr.cell? ⟨w.heap.size, 0, none⟩ = some (.slice none 0 0) := obj_cell oRr 0
            have r1 : wr.cell? ⟨w.heap.size, 1, none⟩ = some (.slice none 0 0) := obj_cell oRr 1
            have r2 : wr.cell? ⟨w.heap.size, 2, none⟩ = some (.slice none 0 0) := obj_cell oRr 2
            have e0 := obj_free oRr 0
            have e1 := obj_free oRr 1
            have e2 := obj_free oRr 2
            have oE := obj_three oRr (.slice a0 WL.length p0) (.slice a1 TL.length p1) (.slice a2 fs.length p2)
            have hqF := b_three bwr (Nat.le_refl _) (.slice a0 WL.length p0) (.slice a1 TL.length p1) (.slice a2 fs.length p2)
            have hnoR : ∀ i, i = w.heap.size → ∀ k, (∀ r, wr.cell? ⟨i, k, none⟩ ≠ some (.bool r)) ∧ ∀ s, wr.cell? ⟨i, k, none⟩ ≠ some (.string s) := by
              rintro i rfl k
              rw [obj_cell oRr k]
              match k with
              | 0 => exact ⟨by simp, by simp⟩
              | 1 => exact ⟨by simp, by simp⟩
              | 2 => exact ⟨by simp, by simp⟩
              | n + 3 => exact ⟨by simp, by simp⟩
            have g5 := g_three wr w.heap.size (.slice a0 WL.length p0) (.slice a1 TL.length p1) (.slice a2 fs.length p2)
            have hown5 := hown.kept (w' := ((wr.setCell ⟨w.heap.size, 0, none⟩ (.slice a0 WL.length p0)).setCell ⟨w.heap.size, 1, none⟩ (.slice a1 TL.length p1)).setCell ⟨w.heap.size, 2, none⟩ (.slice a2 fs.length p2)) (row := some w.heap.size) ⟨g5.os, g5.tape, g5.output, g5.size, fun k hk he => g5.block k hk (fun e => he (by rw [e]))⟩ (.inr (farF oRr hown (by decide)))
            have hDF : IsDk (((wr.setCell ⟨w.heap.size, 0, none⟩ (.slice a0 WL.length p0)).setCell ⟨w.heap.size, 1, none⟩ (.slice a1 TL.length p1)).setCell ⟨w.heap.size, 2, none⟩ (.slice a2 fs.length p2)) (.slice a0 WL.length p0) (.slice a1 TL.length p1) (.slice a2 fs.length p2) ⟨WL, TL, fs⟩ := ⟨isRecs_keepG hDk.ws hnoR g5, isRecs_keepG hDk.ts hnoR g5, isFls_own hown5⟩
            have HZ := Lib.hid (And.intro oE (And.intro hqF hDF))
            clear oE hqF hDF hown5 g5 hnoR hDk hown oRr bwr hG oX wr4 tpT obR4 b04 hnoX hbW hU
            go_wp2
            obtain ⟨oE, hqF, hDF⟩ := HZ.out
            have c0 := obj_cell oE 0
            have c1 := obj_cell oE 1
            have c2 := obj_cell oE 2
            refine bodyPost_ret (v := .agg #[(.slice a0 WL.length p0), (.slice a1 TL.length p1), (.slice a2 fs.length p2)]) (by simp [results, Try.results22, go_sem, c0, c1, c2]) rfl ⟨_, _, _, rfl, by rw [hWL.out]; exact hDF, hqF⟩
end Go.Proofs.Ytkhaephmpifcmaa

namespace Go.Proofs.Ytkhaephmpifcmaa
open Go.RowKit
set_option linter.unusedVariables false
theorem at_name : ∀ (ws : List Wr) (k : Int) (n : ByteArray) (r c : Int), atW ws k = some (n, r, c) → ∃ v ∈ ws, v.n = n
  | [], k, n, r, c, h => by cases h
  | w :: ws, k, n, r, c, h => by
    rw [atW] at h
    by_cases h0 : k < 0
    · rw [if_pos h0] at h; cases h
    · rw [if_neg h0] at h
      by_cases h1 : k < w.x * w.y
      · rw [if_pos h1] at h
        simp only [Option.some.injEq, Prod.mk.injEq] at h
        exact ⟨w, List.mem_cons_self .., h.1⟩
      · rw [if_neg h1] at h
        obtain ⟨v, hv, e⟩ := at_name ws _ n r c h
        exact ⟨v, List.mem_cons_of_mem _ hv, e⟩
/-- No two wares bear one name. -/
def namesApart : List Wr → Prop
  | [] => True
  | w :: ws => (∀ v ∈ ws, (w.n.toList == v.n.toList) = false) ∧ namesApart ws
theorem at_index : ∀ (ws : List Wr) (K k : Int) (n : ByteArray) (r c : Int), (∀ x ∈ ws, wareB x) → namesApart ws → atW ws k = some (n, r, c) → indexW ws K n r c = some (K + k)
  | [], K, k, n, r, c, _, _, h => by cases h
  | w :: ws, K, k, n, r, c, hb, ha, h => by
    obtain ⟨b1, b2, b3, b4⟩ := hb w (List.mem_cons_self ..)
    rw [atW] at h
    by_cases h0 : k < 0
    · rw [if_pos h0] at h; cases h
    · rw [if_neg h0] at h
      by_cases h1 : k < w.x * w.y
      · rw [if_pos h1] at h
        simp only [Option.some.injEq, Prod.mk.injEq] at h
        obtain ⟨rfl, rfl, rfl⟩ := h
        have e1 := Int.emod_nonneg k (by omega : w.y ≠ 0)
        have e2 := Int.emod_lt_of_pos k (by omega : 0 < w.y)
        have e3 := Int.ediv_nonneg (by omega : 0 ≤ k) (by omega : 0 ≤ w.y)
        have e4 : k / w.y < w.x := Int.ediv_lt_of_lt_mul (by omega) (by rw [Int.mul_comm] at h1; rw [Int.mul_comm]; exact h1)
        have e5 := Int.mul_ediv_add_emod k w.y
        rw [indexW, if_pos (by simp), if_pos ⟨e3, e4, e1, e2⟩]
        congr 1
        rw [Int.mul_comm (k / w.y) w.y]
        omega
      · rw [if_neg h1] at h
        obtain ⟨v, hv, e⟩ := at_name ws _ n r c h
        have hne := ha.1 v hv
        rw [e] at hne
        rw [indexW, if_neg (by rw [hne]; decide)]
        have := at_index ws (K + w.x * w.y) (k - w.x * w.y) n r c (fun x hx => hb x (List.mem_cons_of_mem _ hx)) ha.2 h
        rw [this]
        congr 1
        omega
theorem fills_mem (ws : List Wr) : ∀ (l : List Nat) (i : Nat) (f : Fl), f ∈ fillsF ws i l → ∃ k : Nat, i ≤ k ∧ atW ws (k : Int) = some (f.n, f.r, f.c) ∧ 60000 ≤ f.v ∧ f.v < 260000
  | [], i, f, h => by simp [fillsF] at h
  | x :: l, i, f, h => by
    have up : ∀ f, f ∈ fillsF ws (i + 1) l → ∃ k : Nat, i ≤ k ∧ atW ws (k : Int) = some (f.n, f.r, f.c) ∧ 60000 ≤ f.v ∧ f.v < 260000 := fun f hf => by
      obtain ⟨k, h1, h2⟩ := fills_mem ws l (i + 1) f hf
      exact ⟨k, by omega, h2⟩
    unfold fillsF at h
    cases hat : atW ws (i : Int) with
    | none => rw [hat] at h; exact up f h
    | some p =>
      obtain ⟨n, r, c⟩ := p
      rw [hat] at h
      dsimp only at h
      by_cases hx : 0 < x % 6
      · rw [if_pos hx] at h
        rcases List.mem_cons.1 h with rfl | h
        · exact ⟨i, Nat.le_refl _, hat, by simp only; omega, by simp only; omega⟩
        · exact up f h
      · rw [if_neg hx] at h
        exact up f h
theorem index_same : ∀ (ws : List Wr) (K : Int) (n m : ByteArray) (r c : Int), n.toList = m.toList → indexW ws K n r c = indexW ws K m r c
  | [], _, _, _, _, _, _ => rfl
  | w :: ws, K, n, m, r, c, h => by rw [indexW, indexW, h, index_same ws _ n m r c h]
theorem fills_apart (ws : List Wr) (hb : ∀ x ∈ ws, wareB x) (ha : namesApart ws) : ∀ (l : List Nat) (i : Nat), (∀ j f, (fillsF ws i l)[j]? = some f → filledW ((fillsF ws i l).take j) f.n f.r f.c = false)
  | [], i => fun j f h => by simp [fillsF] at h
  | x :: l, i => by
    have ih := fills_apart ws hb ha l (i + 1)
    have hm := fills_mem ws l (i + 1)
    unfold fillsF
    cases hat : atW ws (i : Int) with
    | none => exact ih
    | some p =>
      obtain ⟨n, r, c⟩ := p
      dsimp only
      by_cases hx : 0 < x % 6
      · rw [if_pos hx]
        intro j f hj
        cases j with
        | zero => rfl
        | succ j =>
          have hj' : (fillsF ws (i + 1) l)[j]? = some f := by simpa using hj
          have h1 := ih j f hj'
          obtain ⟨k, hk, hak, _⟩ := hm f (List.mem_of_getElem? hj')
          rw [List.take_succ_cons]
          unfold filledW at h1 ⊢
          rw [List.any_cons, h1, Bool.or_false]
          cases hh : ((n.toList == f.n.toList) && decide (r = f.r) && decide (c = f.c))
          · rfl
          · exfalso
            simp only [Bool.and_eq_true, decide_eq_true_eq, beq_iff_eq] at hh
            obtain ⟨⟨e1, rfl⟩, rfl⟩ := hh
            have i1 := at_index ws 0 _ _ _ _ hb ha hat
            have i2 := at_index ws 0 _ _ _ _ hb ha hak
            rw [index_same ws 0 n f.n _ _ e1] at i1
            rw [i1] at i2
            simp only [Option.some.injEq] at i2
            omega
      · rw [if_neg hx]
        exact ih
theorem seat_names (a b c d : Int) : namesApart (wares7 a b c d) := by
  unfold wares7 namesApart namesApart namesApart
  refine ⟨fun v hv => ?_, fun v hv => by simp at hv, trivial⟩
  rcases List.mem_singleton.1 hv with rfl
  unfold namePlate nameTube
  rw [toList_data, toList_data]
  rfl
theorem seat_wares {a b c d : Int} (ha : 0 ≤ a ∧ a ≤ 255) (hb : 0 ≤ b ∧ b ≤ 255) (hc : 0 ≤ c ∧ c ≤ 255) (hd : 0 ≤ d ∧ d ≤ 255) : ∀ x ∈ wares7 a b c d, wareB x := by
  intro x hx
  unfold wares7 at hx
  simp only [List.mem_cons, List.not_mem_nil, or_false] at hx
  rcases hx with rfl | rfl
  · unfold wareB; simp only; omega
  · unfold wareB; simp only; omega
theorem nameS_plate : nameS namePlate = true := by kernel_rfl
theorem nameS_tube : nameS nameTube = true := by kernel_rfl
theorem nameS_t1 : nameS nameT1 = true := by kernel_rfl
theorem nameS_t2 : nameS nameT2 = true := by kernel_rfl
/-- The statements' decks may be. -/
theorem seat_right {a b c d : Int} (ha : 0 ≤ a ∧ a ≤ 255) (hb : 0 ≤ b ∧ b ≤ 255) (hc : 0 ≤ c ∧ c ≤ 255) (hd : 0 ≤ d ∧ d ≤ 255) (l : List Nat) : rightD (seatD a b c d l) = true := by
  have hw := seat_wares ha hb hc hd
  have hn := seat_names a b c d
  have hf : fillsOk (wares7 a b c d) (fillsF (wares7 a b c d) 0 l) = true := by
    unfold fillsOk
    rw [List.all_eq_true]
    intro i hi
    have hlt := List.mem_range.1 hi
    have hF := List.getElem?_eq_getElem hlt
    rw [hF]
    generalize (fillsF (wares7 a b c d) 0 l)[i] = f at hF
    obtain ⟨k, _, hk, v1, v2⟩ := fills_mem _ l 0 f (List.mem_of_getElem? hF)
    have hi2 := at_index _ 0 _ _ _ _ hw hn hk
    have hap := fills_apart _ hw hn l 0 i f hF
    simp only [Bool.and_eq_true, inB_iff, Bool.not_eq_true']
    refine ⟨⟨?_, by omega, by omega⟩, hap⟩
    unfold hasW
    rw [hi2]
    rfl
  unfold rightD seatD
  simp only [Bool.and_eq_true, decide_eq_true_eq]
  refine ⟨⟨⟨⟨by unfold wares7; simp, ?_⟩, ?_⟩, ?_⟩, hf⟩
  · unfold tips7; split <;> simp
  · rw [apartW_iff]
    intro i w hw'
    unfold wares7 at hw' ⊢
    match i with
    | 0 =>
      obtain rfl : _ = w := by simpa using hw'
      refine ⟨?_, rfl⟩
      unfold wareOk
      simp only [nameS_plate, shape_right, Bool.and_true, Bool.true_and, Bool.and_eq_true, inB_iff]
      omega
    | 1 =>
      obtain rfl : _ = w := by simpa using hw'
      refine ⟨?_, ?_⟩
      · unfold wareOk
        simp only [nameS_tube, shape_right, Bool.and_true, Bool.true_and, Bool.and_eq_true, inB_iff]
        omega
      · unfold namedW namePlate nameTube
        simp only [List.take_succ_cons, List.take_zero, List.any_cons, List.any_nil, Bool.or_false]
        rw [toList_data, toList_data]
        rfl
    | n + 2 => simp at hw'
  · rw [apartW_iff]
    intro i w hw'
    have ok1 : tipOk ⟨nameT1, cap7 c, filt7 d, err7 d, outerOf (c % 3).toNat⟩ = true := by
      unfold tipOk
      simp only [nameS_t1, outer_right, Bool.and_true, Bool.true_and, Bool.and_eq_true, inB_iff]
      unfold cap7 filt7 err7
      refine ⟨⟨?_, ?_⟩, ?_⟩ <;> (repeat' split) <;> omega
    have ok2 : tipOk ⟨nameT2, 50000, 40000, d % 30, outerOf (d % 3).toNat⟩ = true := by
      unfold tipOk
      simp only [nameS_t2, outer_right, Bool.and_true, Bool.true_and, Bool.and_eq_true, inB_iff]
      omega
    unfold tips7 at hw' ⊢
    match i with
    | 0 =>
      obtain rfl : _ = w := by simpa using hw'
      exact ⟨ok1, rfl⟩
    | 1 =>
      by_cases h5 : d % 5 = 0
      · rw [if_pos h5] at hw'; simp at hw'
      · rw [if_neg h5] at hw' ⊢
        obtain rfl : _ = w := by simpa using hw'
        refine ⟨ok2, ?_⟩
        unfold namedW nameT1 nameT2
        simp only [List.take_succ_cons, List.take_zero, List.any_cons, List.any_nil, Bool.or_false]
        rw [toList_data, toList_data]
        rfl
    | n + 2 =>
      by_cases h5 : d % 5 = 0
      · rw [if_pos h5] at hw'; simp at hw'
      · rw [if_neg h5] at hw'; simp at hw'
end Go.Proofs.Ytkhaephmpifcmaa

namespace Go.Proofs.Ytkhaephmpifcmaa
open Go.RowKit
set_option linter.unusedVariables false
theorem count_pos : ∀ ws : List Wr, (∀ x ∈ ws, wareB x) → 0 ≤ countW ws
  | [], _ => by decide
  | w :: ws, h => by
    obtain ⟨b1, b2, b3, b4⟩ := h w (List.mem_cons_self ..)
    have := count_pos ws (fun x hx => h x (List.mem_cons_of_mem _ hx))
    have := Int.mul_nonneg (by omega : 0 ≤ w.x) (by omega : 0 ≤ w.y)
    show 0 ≤ w.x * w.y + countW ws
    omega
theorem indexC_none : ∀ (ws : List Wr) (K : Int) (n : ByteArray) (r c : Int), (∀ v ∈ ws, (v.n.toList == n.toList) = false) → indexC ws K n r c = none
  | [], K, n, r, c, _ => rfl
  | w :: ws, K, n, r, c, h => by
    have hw := h w (List.mem_cons_self ..)
    have hb : hasB w.n w.x w.y n r c = false := by unfold hasB; rw [hw]; rfl
    rw [indexC, hb, if_neg (by decide)]
    exact indexC_none ws _ n r c (fun v hv => h v (List.mem_cons_of_mem _ hv))
/-- Where no two wares bear one name the code looks as the document does. -/
theorem indexC_eq : ∀ (ws : List Wr) (K : Int) (n : ByteArray) (r c : Int), namesApart ws → indexC ws K n r c = indexW ws K n r c
  | [], K, n, r, c, _ => rfl
  | w :: ws, K, n, r, c, h => by
    rw [indexC, indexW]
    cases hn : (w.n.toList == n.toList)
    · have hb : hasB w.n w.x w.y n r c = false := by unfold hasB; rw [hn]; rfl
      rw [hb, if_neg (by decide), if_neg (by decide)]
      exact indexC_eq ws _ n r c h.2
    · rw [if_pos rfl]
      by_cases hr : 0 ≤ r ∧ r < w.x ∧ 0 ≤ c ∧ c < w.y
      · have hb : hasB w.n w.x w.y n r c = true := by
          unfold hasB
          rw [hn, decide_eq_true hr.1, decide_eq_true hr.2.1, decide_eq_true hr.2.2.1, decide_eq_true hr.2.2.2]; rfl
        rw [hb, if_pos rfl, if_pos hr]
      · have hb : hasB w.n w.x w.y n r c = false := by
          cases e : hasB w.n w.x w.y n r c
          · rfl
          · have := hasB_in e; exact absurd this hr
        rw [hb, if_neg (by decide), if_neg hr]
        refine indexC_none ws _ n r c (fun v hv => ?_)
        have h1 := h.1 v hv
        rw [beq_iff_eq] at hn
        rw [hn] at h1
        cases e : (v.n.toList == n.toList)
        · rfl
        · rw [beq_iff_eq] at e
          rw [e, beq_self_eq_true] at h1
          cases h1
end Go.Proofs.Ytkhaephmpifcmaa

namespace Go.Proofs.Ytkhaephmpifcmaa
open Go.RowKit
set_option linter.unusedVariables false
theorem ba_eq {a b : ByteArray} (h : a.toList = b.toList) : a = b := by
  rw [Go.Lib.toList_data, Go.Lib.toList_data] at h
  exact ByteArray.ext (Array.toList_inj.1 h)
/-- The tolerance of a well's ware. -/
def tolW (ws : List Wr) (n : ByteArray) : Int := match ws.find? (fun r => r.n.toList == n.toList) with
  | some r => r.z
  | none => 0
def spanF (ws : List Wr) (f : Fl) : Int × Int := (max (f.v - tolW ws f.n) 0, f.v + tolW ws f.n)
def slotF (ws : List Wr) (f : Fl) : Nat := ((indexC ws 0 f.n f.r f.c).getD 0).toNat
def startF (ws : List Wr) (S : List (Int × Int)) (fs : List Fl) : List (Int × Int) := fs.foldl (fun S f => S.set (slotF ws f) (spanF ws f)) S
def startD (d : Dk) : List (Int × Int) := startF d.ws (List.replicate (countW d.ws).toNat (0, 0)) d.fs
theorem startF_take (ws : List Wr) (S : List (Int × Int)) {fs : List Fl} {i : Nat} {f : Fl} (h : fs[i]? = some f) : startF ws S (fs.take (i + 1)) = (startF ws S (fs.take i)).set (slotF ws f) (spanF ws f) := by
  unfold startF
  rw [List.take_add_one, h, List.foldl_append]
  rfl
theorem startF_len (ws : List Wr) : ∀ (fs : List Fl) (S : List (Int × Int)), (startF ws S fs).length = S.length
  | [], _ => rfl
  | f :: fs, S => by
    show (startF ws (S.set (slotF ws f) (spanF ws f)) fs).length = _
    rw [startF_len ws fs, List.length_set]
theorem startD_len (d : Dk) : (startD d).length = (countW d.ws).toNat := by
  unfold startD
  rw [startF_len, List.length_replicate]
/-- Spans as cells. -/
def flatP (S : List (Int × Int)) : List Value := S.flatMap (fun s => [.int .i64 s.1, .int .i64 s.2])
theorem flatP_len (S : List (Int × Int)) : (flatP S).length = S.length * 2 := by
  induction S with
  | nil => rfl
  | cons x l ih =>
    show ([Value.int .i64 x.1, .int .i64 x.2] ++ flatP l).length = _
    rw [List.length_append, ih, List.length_cons]
    simp
    omega
theorem flatP_get : ∀ (S : List (Int × Int)) (i : Nat) (s : Int × Int), S[i]? = some s → (flatP S)[i * 2]? = some (.int .i64 s.1) ∧ (flatP S)[i * 2 + 1]? = some (.int .i64 s.2)
  | [], _, _, h => by simp at h
  | x :: l, 0, s, h => by
    obtain rfl : x = s := by simpa using h
    exact ⟨rfl, rfl⟩
  | x :: l, i + 1, s, h => by
    have ih := flatP_get l i s (by simpa using h)
    have e1 : (i + 1) * 2 = i * 2 + 2 := by omega
    rw [e1]
    exact ih
theorem flatP_set : ∀ (S : List (Int × Int)) (i : Nat) (a b : Int), i < S.length → ((flatP S).set (i * 2) (.int .i64 a)).set (i * 2 + 1) (.int .i64 b) = flatP (S.set i (a, b))
  | [], _, _, _, h => by simp at h
  | x :: l, 0, a, b, _ => rfl
  | x :: l, i + 1, a, b, h => by
    have ih := flatP_set l i a b (by simpa using h)
    have e1 : (i + 1) * 2 = i * 2 + 2 := by omega
    rw [e1]
    show Value.int .i64 x.1 :: Value.int .i64 x.2 :: (((flatP l).set (i * 2) (.int .i64 a)).set (i * 2 + 1) (.int .i64 b)) = _
    rw [ih]
    rfl
theorem made_spans (n : Nat) : (madeCells #[.int .i64 0, .int .i64 0] (n * 2)).toList = flatP (List.replicate n (0, 0)) := by
  apply List.ext_getElem?
  intro j
  by_cases hj : j < n * 2
  · obtain ⟨i, r, rfl, hr⟩ : ∃ i r, j = i * 2 + r ∧ r < 2 := ⟨j / 2, j % 2, by omega, by omega⟩
    have hi : (List.replicate n ((0 : Int), (0 : Int)))[i]? = some (0, 0) := by rw [List.getElem?_replicate, if_pos (by omega)]
    have hg := flatP_get _ i _ hi
    have hm : (madeCells #[.int .i64 0, .int .i64 0] (n * 2)).toList[i * 2 + r]? = some (.int .i64 0) := by
      unfold madeCells
      rw [Array.getElem?_toList, Array.getElem?_map, Array.getElem?_range]
      simp only [hj, if_true, Option.map_some]
      rcases (by omega : r = 0 ∨ r = 1) with rfl | rfl
      · have : (i * 2 + 0) % (#[Value.int .i64 0, .int .i64 0] : Array Value).size = 0 := by show (i * 2 + 0) % 2 = 0; omega
        rw [this]; rfl
      · have : (i * 2 + 1) % (#[Value.int .i64 0, .int .i64 0] : Array Value).size = 1 := by show (i * 2 + 1) % 2 = 1; omega
        rw [this]; rfl
    rw [hm]
    rcases (by omega : r = 0 ∨ r = 1) with rfl | rfl
    · exact hg.1.symm
    · exact hg.2.symm
  · rw [List.getElem?_eq_none, List.getElem?_eq_none]
    · rw [flatP_len, List.length_replicate]; omega
    · rw [Array.length_toList, size_madeCells]; omega
/-- Names that are apart. -/
theorem namesApart_of : ∀ {ws : List Wr}, (∀ (i j : Nat) a b, ws[i]? = some a → ws[j]? = some b → i < j → (a.n.toList == b.n.toList) = false) → namesApart ws
  | [], _ => trivial
  | w :: ws, h => by
    refine ⟨fun v hv => ?_, namesApart_of fun i j a b ha hb hij => h (i + 1) (j + 1) a b (by simpa using ha) (by simpa using hb) (by omega)⟩
    obtain ⟨j, hj⟩ := List.getElem?_of_mem hv
    exact h 0 (j + 1) w v rfl (by simpa using hj) (by omega)
theorem apart_names {ok : Wr → Bool} {ws : List Wr} (hA : apartW ok ws = true) : namesApart ws := namesApart_of fun i j a b ha hb hij => by
  have hap := (apart_at hA hb).2
  unfold namedW at hap
  rw [List.any_eq_false] at hap
  have := hap a (List.mem_of_getElem? (show (ws.take j)[i]? = some a by rw [List.getElem?_take, if_pos hij]; exact ha))
  simpa using this
theorem indexC_in : ∀ (ws : List Wr) (K : Int) (n : ByteArray) (r c k : Int), (∀ x ∈ ws, wareB x) → indexC ws K n r c = some k → K ≤ k ∧ k < K + countW ws
  | [], _, _, _, _, _, _, h => by cases h
  | w :: ws, K, n, r, c, k, hb, h => by
    obtain ⟨b1, b2, b3, b4⟩ := hb w (List.mem_cons_self ..)
    have hp := count_pos ws (fun x hx => hb x (List.mem_cons_of_mem _ hx))
    rw [indexC] at h
    show K ≤ k ∧ k < K + (w.x * w.y + countW ws)
    have hxy : 0 ≤ w.x * w.y := Int.mul_nonneg (by omega) (by omega)
    split at h
    · rename_i hh
      obtain ⟨h1, h2, h3, h4⟩ := hasB_in hh
      have e := Option.some.inj h
      have m1 : 0 ≤ r * w.y := Int.mul_nonneg h1 (by omega)
      have m2 : (r + 1) * w.y ≤ w.x * w.y := Int.mul_le_mul_of_nonneg_right (by omega) (by omega)
      rw [Int.add_mul, Int.one_mul] at m2
      omega
    · have ih := indexC_in ws _ n r c k (fun x hx => hb x (List.mem_cons_of_mem _ hx)) h
      omega
theorem count_le : ∀ ws : List Wr, (∀ x ∈ ws, wareB x) → countW ws ≤ 96 * ws.length
  | [], _ => by simp [countW]
  | w :: ws, h => by
    obtain ⟨b1, b2, b3, b4⟩ := h w (List.mem_cons_self ..)
    have := count_le ws (fun x hx => h x (List.mem_cons_of_mem _ hx))
    have m2 : w.x * w.y ≤ 8 * 12 := mul_le (by omega) b2 (by omega) b4
    show w.x * w.y + countW ws ≤ _
    rw [List.length_cons]
    omega
theorem right_fill {d : Dk} (h : rightD d = true) {i : Nat} {f : Fl} (hf : d.fs[i]? = some f) : (∃ k, indexC d.ws 0 f.n f.r f.c = some k ∧ 0 ≤ k ∧ k < countW d.ws) ∧ 0 ≤ f.v ∧ f.v ≤ 20000000 := by
  obtain ⟨_, _, pW, _⟩ := right_parts9 h
  have hF : fillsOk d.ws d.fs = true := by
    unfold rightD at h
    simp only [Bool.and_eq_true] at h
    exact h.2
  cases hx : (hasW d.ws f.n f.r f.c && inB f.v 0 20000000 && !filledW (d.fs.take i) f.n f.r f.c) with
  | false => rw [fl_no hf hx] at hF; cases hF
  | true =>
    simp only [Bool.and_eq_true, inB, decide_eq_true_eq] at hx
    refine ⟨?_, hx.1.2⟩
    have h1 := hx.1.1
    unfold hasW at h1
    rw [← indexC_eq d.ws 0 f.n f.r f.c (apart_names pW)] at h1
    obtain ⟨k, hk⟩ := Option.isSome_iff_exists.1 h1
    have := indexC_in d.ws 0 f.n f.r f.c k (wares_in pW) hk
    exact ⟨k, hk, this.1, by omega⟩
theorem tolW_at {ok : Wr → Bool} {ws : List Wr} (hA : apartW ok ws = true) {i : Nat} {r : Wr} (hr : ws[i]? = some r) : tolW ws r.n = r.z := by
  have h : ∀ (ws : List Wr), namesApart ws → r ∈ ws → ws.find? (fun x => x.n.toList == r.n.toList) = some r := fun ws => by
    induction ws with
    | nil => intro _ h; cases h
    | cons w ws ih =>
      intro hn hm
      cases e : (w.n.toList == r.n.toList) with
      | true =>
        rw [List.find?_cons]
        simp only [e]
        rcases List.mem_cons.1 hm with h1 | hm
        · rw [h1]
        · have := hn.1 r hm
          rw [e] at this
          cases this
      | false =>
        rw [List.find?_cons]
        simp only [e]
        rcases List.mem_cons.1 hm with h1 | hm
        · rw [h1, beq_self_eq_true] at e
          cases e
        · exact ih hn.2 hm
  unfold tolW
  rw [h ws (apart_names hA) (List.mem_of_getElem? hr)]
theorem beq_ba (a b : ByteArray) : (a == b) = (a.toList == b.toList) := beq_toListBytes a b
end Go.Proofs.Ytkhaephmpifcmaa

namespace Go.Proofs.Ytkhaephmpifcmaa
open Go.RowKit
set_option linter.unusedVariables false
abbrev Sp2 := Int × Int
/-- Is there such a well? -/
def hasS (W : List Sp2) (i : Int) : Bool := decide (0 ≤ i) && decide (i < (W.length : Int))
def getS (W : List Sp2) (i : Int) : Sp2 := W.getD i.toNat (0, 0)
def drawOk (W : List Sp2) (i v e : Int) : Bool := hasS W i && inB v 0 1000000000 && inB e 0 1000000000 && decide (v + e ≤ (getS W i).1)
def lessS (v e : Int) : Int := max (v - e) 0
def drawW (W : List Sp2) (i v e : Int) : List Sp2 := if drawOk W i v e then W.set i.toNat ((getS W i).1 - (v + e), (getS W i).2 - lessS v e) else W
def drawT (W : List Sp2) (T : Sp2) (i v e : Int) : Sp2 := if drawOk W i v e then (T.1 + lessS v e, T.2 + v + e) else T
def giveW (W : List Sp2) (T : Sp2) (i : Int) : List Sp2 := if hasS W i then W.set i.toNat ((getS W i).1 + T.1, (getS W i).2 + T.2) else W
def giveT (W : List Sp2) (T : Sp2) (i : Int) : Sp2 := if hasS W i then (0, 0) else T
def sumHi (W : List Sp2) : Int := (W.map (·.2)).sum
/-- Nothing is below nought, and all together no more than M. -/
structure WB (W : List Sp2) (T : Sp2) (M : Int) : Prop where
  wells : ∀ s ∈ W, 0 ≤ s.1 ∧ s.1 ≤ s.2
  tip : 0 ≤ T.1 ∧ T.1 ≤ T.2
  sum : sumHi W + T.2 ≤ M
theorem hasS_ix {W : List Sp2} {i : Int} (h : hasS W i = true) : 0 ≤ i ∧ i.toNat < W.length ∧ W[i.toNat]? = some (getS W i) := by
  unfold hasS at h
  simp only [Bool.and_eq_true, decide_eq_true_eq] at h
  have hi : i.toNat < W.length := by omega
  exact ⟨h.1, hi, by unfold getS; rw [List.getElem?_eq_getElem hi, List.getD_eq_getElem?_getD, List.getElem?_eq_getElem hi]; rfl⟩
theorem drawW_no {W : List Sp2} {i v e : Int} (h : drawOk W i v e = false) : drawW W i v e = W := by unfold drawW; rw [h]; simp
theorem drawT_no {W : List Sp2} {T : Sp2} {i v e : Int} (h : drawOk W i v e = false) : drawT W T i v e = T := by unfold drawT; rw [h]; simp
theorem giveW_no {W : List Sp2} {T : Sp2} {i : Int} (h : hasS W i = false) : giveW W T i = W := by unfold giveW; rw [h]; simp
theorem giveT_no {W : List Sp2} {T : Sp2} {i : Int} (h : hasS W i = false) : giveT W T i = T := by unfold giveT; rw [h]; simp
theorem drawW_len (W : List Sp2) (i v e : Int) : (drawW W i v e).length = W.length := by unfold drawW; split <;> simp
theorem giveW_len (W : List Sp2) (T : Sp2) (i : Int) : (giveW W T i).length = W.length := by unfold giveW; split <;> simp
theorem sumHi_nonneg : ∀ (W : List Sp2), (∀ s ∈ W, 0 ≤ s.1 ∧ s.1 ≤ s.2) → 0 ≤ sumHi W
  | [], _ => Int.le_refl _
  | s :: W, h => by
    have a := sumHi_nonneg W (fun x hx => h x (List.mem_cons_of_mem _ hx))
    have b := h s List.mem_cons_self
    unfold sumHi at *
    simp only [List.map_cons, List.sum_cons]
    omega
theorem sumHi_at : ∀ (W : List Sp2) (k : Nat) (s : Sp2), (∀ s ∈ W, 0 ≤ s.1 ∧ s.1 ≤ s.2) → W[k]? = some s → 0 ≤ s.1 ∧ s.1 ≤ s.2 ∧ s.2 ≤ sumHi W
  | [], k, s, _, h => by simp at h
  | x :: W, 0, s, h, e => by
    obtain rfl : x = s := by simpa using e
    have a := sumHi_nonneg W (fun y hy => h y (List.mem_cons_of_mem _ hy))
    have b := h x List.mem_cons_self
    unfold sumHi at *
    simp only [List.map_cons, List.sum_cons]
    omega
  | x :: W, k + 1, s, h, e => by
    have a := sumHi_at W k s (fun y hy => h y (List.mem_cons_of_mem _ hy)) (by simpa using e)
    have b := h x List.mem_cons_self
    unfold sumHi at *
    simp only [List.map_cons, List.sum_cons]
    omega
theorem sumHi_set : ∀ (W : List Sp2) (k : Nat) (s t : Sp2), W[k]? = some s → sumHi (W.set k t) = sumHi W - s.2 + t.2
  | [], k, s, t, h => by simp at h
  | x :: W, 0, s, t, e => by
    obtain rfl : x = s := by simpa using e
    unfold sumHi
    simp only [List.set_cons_zero, List.map_cons, List.sum_cons]
    omega
  | x :: W, k + 1, s, t, e => by
    have a := sumHi_set W k s t (by simpa using e)
    unfold sumHi at *
    simp only [List.set_cons_succ, List.map_cons, List.sum_cons]
    omega
theorem drawOk_parts {W : List Sp2} {i v e : Int} (h : drawOk W i v e = true) : hasS W i = true ∧ (0 ≤ v ∧ v ≤ 1000000000) ∧ (0 ≤ e ∧ e ≤ 1000000000) ∧ v + e ≤ (getS W i).1 := by
  unfold drawOk inB at h
  simp only [Bool.and_eq_true, decide_eq_true_eq] at h
  exact ⟨h.1.1.1, h.1.1.2, h.1.2, h.2⟩
theorem WB.at_ {W : List Sp2} {T : Sp2} {M i : Int} (h : WB W T M) (hi : hasS W i = true) : 0 ≤ (getS W i).1 ∧ (getS W i).1 ≤ (getS W i).2 ∧ (getS W i).2 + T.2 ≤ M ∧ 0 ≤ T.1 ∧ T.1 ≤ T.2 := by
  obtain ⟨_, _, hg⟩ := hasS_ix hi
  have := sumHi_at W _ _ h.wells hg
  have := h.sum
  have := h.tip
  omega
theorem WB.draw {W : List Sp2} {T : Sp2} {M : Int} (h : WB W T M) (i v e : Int) : WB (drawW W i v e) (drawT W T i v e) (M + 2000000000) := by
  unfold drawW drawT
  by_cases c : drawOk W i v e = true
  · rw [if_pos c, if_pos c]
    obtain ⟨hi, hv, he, hl⟩ := drawOk_parts c
    obtain ⟨_, hlt, hg⟩ := hasS_ix hi
    obtain ⟨a1, a2, a3, a4, a5⟩ := h.at_ hi
    unfold lessS
    refine ⟨fun s hs => ?_, by simp only; omega, ?_⟩
    · rcases List.mem_or_eq_of_mem_set hs with h1 | rfl
      · exact h.wells s h1
      · simp only; omega
    · rw [sumHi_set W _ _ _ hg]
      have := h.sum
      simp only
      omega
  · rw [if_neg c, if_neg c]
    exact ⟨h.wells, h.tip, by have := h.sum; omega⟩
theorem WB.give {W : List Sp2} {T : Sp2} {M : Int} (h : WB W T M) (i : Int) : WB (giveW W T i) (giveT W T i) M := by
  unfold giveW giveT
  by_cases c : hasS W i = true
  · rw [if_pos c, if_pos c]
    obtain ⟨_, hlt, hg⟩ := hasS_ix c
    obtain ⟨a1, a2, a3, a4, a5⟩ := h.at_ c
    refine ⟨fun s hs => ?_, by simp only; omega, ?_⟩
    · rcases List.mem_or_eq_of_mem_set hs with h1 | rfl
      · exact h.wells s h1
      · simp only; omega
    · rw [sumHi_set W _ _ _ hg]
      have := h.sum
      simp only
      omega
  · rw [if_neg c, if_neg c]; exact h
theorem WB.more {W : List Sp2} {T : Sp2} {M N : Int} (h : WB W T M) (hn : M ≤ N) : WB W T N := ⟨h.wells, h.tip, by have := h.sum; omega⟩
end Go.Proofs.Ytkhaephmpifcmaa

namespace Go.Proofs.Ytkhaephmpifcmaa
open Go.RowKit
theorem own_full {w : World} {base : Nat} {e : TypeId} {size n c : Nat} {o : Option Addr} {xs : List Value} (h : w.ownsRow base e size (.slice o n c) n xs) (hn : 0 < n) : ∃ g, o = some ⟨g, 0, none⟩ ∧ base ≤ g ∧ n ≤ c ∧ c ≤ maxLen := by
  rcases h.2 with ⟨h0, _⟩ | ⟨g, cap, cur, h0, hb, _, hnc, hm, _⟩
  · simp only [Value.slice.injEq] at h0; omega
  · simp only [Value.slice.injEq] at h0
    obtain ⟨rfl, _, rfl⟩ := h0
    exact ⟨g, rfl, hb, hnc, hm⟩
end Go.Proofs.Ytkhaephmpifcmaa

namespace Go.Proofs.Ytkhaephmpifcmaa
open Go.RowKit
set_option linter.unusedVariables false
/-- The blocks from lo on, below hi. -/
abbrev Rng (lo hi : Nat) : Nat → Prop := fun b => lo ≤ b ∧ b < hi
/-- A state of the type ty at v: all its blocks lie from lo on, below hi. -/
structure StA (ty : TypeId) (w : World) (lo hi b : Nat) (o : Option Addr) (c : Nat) (W : List Sp2) (T : Sp2) : Prop where
  blo : lo ≤ b
  bhi : b < hi
  top : hi ≤ w.heap.size
  obj : w.heap[b]? = some (.cells #[.slice o W.length c, .int .i64 T.1, .int .i64 T.2] ty (0, 0))
  row : w.ownsRow lo 38 2 (.slice o W.length c) W.length (flatP W)
  rhi : ∀ g, o = some g → g.block < hi
  apart : ∀ g, o = some g → g.block ≠ b
def StT (ty : TypeId) (w : World) (lo hi : Nat) (v : Value) (W : List Sp2) (T : Sp2) : Prop := ∃ b o c, v = .pointer (some ⟨b, 0, none⟩) ∧ StA ty w lo hi b o c W T
theorem own_onR {w w' : World} {base hi e size n c : Nat} {o : Option Addr} {xs : List Value} (h : w.ownsRow base e size (.slice o n c) n xs) (ho : ∀ g, o = some g → g.block < hi) (hb : ∀ i, base ≤ i → i < hi → w'.heap[i]? = w.heap[i]?) : w'.ownsRow base e size (.slice o n c) n xs := by
  refine ⟨h.1, ?_⟩
  rcases h.2 with hn | ⟨g, cap, cur, h0, hbg, hg, rest⟩
  · exact .inl hn
  · have e0 := h0
    simp only [Value.slice.injEq] at h0
    have := ho _ h0.1
    exact .inr ⟨g, cap, cur, e0, hbg, (hb g hbg this).trans hg, rest⟩
theorem StA.on {ty : TypeId} {w w' : World} {lo hi b c : Nat} {o : Option Addr} {W : List Sp2} {T : Sp2} (h : StA ty w lo hi b o c W T) (hs : w.heap.size ≤ w'.heap.size) (hb : ∀ i, lo ≤ i → i < hi → w'.heap[i]? = w.heap[i]?) : StA ty w' lo hi b o c W T :=
  ⟨h.blo, h.bhi, Nat.le_trans h.top hs, (hb b h.blo h.bhi).trans h.obj, own_onR h.row h.rhi hb, h.rhi, h.apart⟩
theorem StT.on {ty : TypeId} {w w' : World} {lo hi : Nat} {v : Value} {W : List Sp2} {T : Sp2} (h : StT ty w lo hi v W T) (hs : w.heap.size ≤ w'.heap.size) (hb : ∀ i, lo ≤ i → i < hi → w'.heap[i]? = w.heap[i]?) : StT ty w' lo hi v W T := by
  obtain ⟨b, o, c, rfl, h⟩ := h
  exact ⟨b, o, c, rfl, h.on hs hb⟩
theorem StA.keepB {ty : TypeId} {w w' : World} {lo hi b c : Nat} {o : Option Addr} {W : List Sp2} {T : Sp2} (h : StA ty w lo hi b o c W T) (q : B w w') : StA ty w' lo hi b o c W T :=
  h.on q.below.size fun i _ h2 => q.below.block i (Nat.lt_of_lt_of_le h2 h.top)
/-- A well of it, read. -/
theorem StA.at_ {ty : TypeId} {w : World} {lo hi b c : Nat} {o : Option Addr} {W : List Sp2} {T : Sp2} (h : StA ty w lo hi b o c W T) {k : Nat} {s : Sp2} (hk : W[k]? = some s) :
    ∃ g, o = some ⟨g, 0, none⟩ ∧ lo ≤ g ∧ g < hi ∧ g ≠ b ∧ w.cell? ⟨g, k * 2, none⟩ = some (.int .i64 s.1) ∧ w.cell? ⟨g, k * 2 + 1, none⟩ = some (.int .i64 s.2) ∧ w.frozen? ⟨g, k * 2, none⟩ = false ∧ w.frozen? ⟨g, k * 2 + 1, none⟩ = false := by
  have hl : k < W.length := by obtain ⟨h, _⟩ := List.getElem?_eq_some_iff.1 hk; exact h
  obtain ⟨g, rfl, hg, _, _⟩ := own_full h.row (by omega)
  obtain ⟨f1, f2⟩ := flatP_get W k s hk
  exact ⟨g, rfl, hg, h.rhi _ rfl, h.apart _ rfl, (World.ownsRow.cellAt h.row (k * 2) (by omega)).trans f1, (World.ownsRow.cellAt h.row (k * 2 + 1) (by omega)).trans f2, World.ownsRow.frozenAt h.row _, World.ownsRow.frozenAt h.row _⟩
theorem G.set2 {w : World} {lo hi g k j : Nat} (h : lo ≤ g ∧ g < hi) (u v : Value) : G (Rng lo hi) w ((w.setCell ⟨g, k, none⟩ u).setCell ⟨g, j, none⟩ v) :=
  ((G.refl _ w).setCell (.inl h) u).setCell (.inl h) v
/-- A well of it, written. -/
theorem StA.setW {ty : TypeId} {w : World} {lo hi b c g : Nat} {W : List Sp2} {T : Sp2} (h : StA ty w lo hi b (some ⟨g, 0, none⟩) c W T) {k : Nat} (hk : k < W.length) (x y : Int) :
    StA ty ((w.setCell ⟨g, k * 2, none⟩ (.int .i64 x)).setCell ⟨g, k * 2 + 1, none⟩ (.int .i64 y)) lo hi b (some ⟨g, 0, none⟩) c (W.set k (x, y)) T := by
  obtain ⟨r1, e1⟩ := World.ownsRow.stored h.row (k * 2) (.int .i64 x)
  obtain ⟨r2, e2⟩ := World.ownsRow.stored r1 (k * 2 + 1) (.int .i64 y)
  rw [flatP_set W k x y hk] at r2
  have hgb := h.apart _ rfl
  have hgl : lo ≤ g ∧ g < hi := ⟨by
    rcases h.row.2 with ⟨h0, _⟩ | ⟨g', _, _, h0, hb, _⟩
    · simp at h0
    · simp only [Value.slice.injEq, Option.some.injEq, Addr.mk.injEq, and_true, true_and] at h0
      omega, h.rhi _ rfl⟩
  have gg := G.set2 (w := w) (k := k * 2) (j := k * 2 + 1) hgl (.int .i64 x) (.int .i64 y)
  have ho := gg.block b (Nat.lt_of_lt_of_le h.bhi h.top)
  have o1 := obj_other (p := ⟨g, k * 2, none⟩) h.obj (fun e => hgb e.symm) (.int .i64 x)
  have o2 := obj_other (p := ⟨g, k * 2 + 1, none⟩) o1 (fun e => hgb e.symm) (.int .i64 y)
  have hl : (W.set k (x, y)).length = W.length := List.length_set
  clear ho
  exact ⟨h.blo, h.bhi, Nat.le_trans h.top gg.size, by rw [hl]; exact o2, by rw [hl]; exact r2, h.rhi, h.apart⟩
/-- The tip's span, written. -/
theorem StA.setT {ty : TypeId} {w : World} {lo hi b c : Nat} {o : Option Addr} {W : List Sp2} {T : Sp2} (h : StA ty w lo hi b o c W T) (x y : Int) :
    StA ty ((w.setCell ⟨b, 1, none⟩ (.int .i64 x)).setCell ⟨b, 2, none⟩ (.int .i64 y)) lo hi b o c W (x, y) := by
  have o2 := obj_set (obj_set h.obj 1 (.int .i64 x)) 2 (.int .i64 y)
  have gg := G.set2 (w := w) (k := 1) (j := 2) ⟨h.blo, h.bhi⟩ (.int .i64 x) (.int .i64 y)
  refine ⟨h.blo, h.bhi, Nat.le_trans h.top gg.size, o2, ?_, h.rhi, h.apart⟩
  have hne : ∀ g, o = some g → g.block ≠ b := h.apart
  refine ⟨h.row.1, ?_⟩
  rcases h.row.2 with hn | ⟨g, cap, cur, h0, hbg, hg, rest⟩
  · exact .inl hn
  · have e0 := h0
    simp only [Value.slice.injEq] at h0
    have hn := hne _ h0.1
    exact .inr ⟨g, cap, cur, e0, hbg, obj_other (p := ⟨b, 2, none⟩) (obj_other (p := ⟨b, 1, none⟩) hg hn _) hn _, rest⟩
theorem B.rng {w w' : World} (h : B w w') (lo hi : Nat) : G (Rng lo hi) w w' := h.g _
end Go.Proofs.Ytkhaephmpifcmaa

namespace Go.Proofs.Ytkhaephmpifcmaa
open Go.RowKit
set_option linter.unusedVariables false
def atS (W : List Sp2) (i : Int) : Sp2 := if hasS W i then getS W i else (0, 0)
structure TrkC (St : World → Nat → Nat → Value → List Sp2 → Sp2 → Prop) : Prop where
  on : ∀ {w w' lo hi v W T}, St w lo hi v W T → w.heap.size ≤ w'.heap.size → (∀ b, lo ≤ b → b < hi → w'.heap[b]? = w.heap[b]?) → St w' lo hi v W T
  top : ∀ {w lo hi v W T}, St w lo hi v W T → hi ≤ w.heap.size
  ptr : ∀ {w lo hi v W T}, St w lo hi v W T → ∃ a, v = .pointer (some a)
  new : ∀ (P : Bp) (w : World) (X : List Th), BoardM P w 0 [] X → rightD P.d = true → P.d.fs.length ≤ 1000 → Calls Try.prog 9 #[.pointer (some ⟨P.b, 0, none⟩)] w fun e w' => ∃ v, e = .returned v ∧ St w' w.heap.size w'.heap.size v (startD P.d) (0, 0) ∧ B w w'
  at_ : ∀ (w : World) (lo hi : Nat) (v : Value) (W : List Sp2) (T : Sp2) (i : Int), St w lo hi v W T → I64 i → W.length ≤ 1000000 → Calls Try.prog 15 #[v, .int .i64 i] w fun e w' => e = .returned (.tuple #[.agg #[.int .i64 (atS W i).1, .int .i64 (atS W i).2], .bool (hasS W i)]) ∧ B w w'
  tip : ∀ (w : World) (lo hi : Nat) (v : Value) (W : List Sp2) (T : Sp2), St w lo hi v W T → Calls Try.prog 16 #[v] w fun e w' => e = .returned (.agg #[.int .i64 T.1, .int .i64 T.2]) ∧ B w w'
  draw : ∀ (w : World) (lo hi : Nat) (v : Value) (W : List Sp2) (T : Sp2) (i x e M : Int), St w lo hi v W T → WB W T M → M ≤ 4000000000000000000 → I64 i → I64 x → I64 e → W.length ≤ 1000000 →
    Calls Try.prog 11 #[v, .int .i64 i, .int .i64 x, .int .i64 e] w fun r w' => r = .returned (.bool (drawOk W i x e)) ∧ St w' lo hi v (drawW W i x e) (drawT W T i x e) ∧ G (Rng lo hi) w w'
  give : ∀ (w : World) (lo hi : Nat) (v : Value) (W : List Sp2) (T : Sp2) (i M : Int), St w lo hi v W T → WB W T M → M ≤ 4000000000000000000 → I64 i → W.length ≤ 1000000 →
    Calls Try.prog 13 #[v, .int .i64 i] w fun r w' => r = .returned (.bool (hasS W i)) ∧ St w' lo hi v (giveW W T i) (giveT W T i) ∧ G (Rng lo hi) w w'
/-- Is nothing in the tip? -/
structure DropC (St : World → Nat → Nat → Value → List Sp2 → Sp2 → Prop) : Prop where
  drop : ∀ (w : World) (lo hi : Nat) (v : Value) (W : List Sp2) (T : Sp2), St w lo hi v W T → Calls Try.prog 17 #[v] w fun e w' => e = .returned (.bool (decide (T.1 = 0) && decide (T.2 = 0))) ∧ B w w'
/-- A copy; a state of no board. -/
structure CloneC (St : World → Nat → Nat → Value → List Sp2 → Sp2 → Prop) : Prop where
  clone : ∀ (w : World) (lo hi : Nat) (v : Value) (W : List Sp2) (T : Sp2), St w lo hi v W T → W.length ≤ 1000000 → Calls Try.prog 18 #[v] w fun e w' => ∃ v', e = .returned v' ∧ St w' w.heap.size w'.heap.size v' W T ∧ B w w'
  none : ∀ (w : World), Calls Try.prog 9 #[.pointer none] w fun e w' => ∃ v, e = .returned v ∧ St w' w.heap.size w'.heap.size v [] (0, 0) ∧ B w w'
theorem TrkC.keepB {St : World → Nat → Nat → Value → List Sp2 → Sp2 → Prop} (c : TrkC St) {w w' : World} {lo hi : Nat} {v : Value} {W : List Sp2} {T : Sp2} (h : St w lo hi v W T) (q : B w w') : St w' lo hi v W T :=
  c.on h q.below.size fun b _ h2 => q.below.block b (Nat.lt_of_lt_of_le h2 (c.top h))
end Go.Proofs.Ytkhaephmpifcmaa

namespace Go.Proofs.Ytkhaephmpifcmaa
open Go.RowKit Go.Maps Go.WideMaps
set_option linter.unusedVariables false
set_option maxRecDepth 100000 in
set_option maxHeartbeats 4000000 in
theorem dnew_yes (wv tv fv : Value) (d : Dk) (w : World) (h : IsDk w wv tv fv d) (hr : rightD d = true) (hzw : ∀ r ∈ d.ws, r.n.size ≤ maxLen) (hsI : ∀ r ∈ d.ws, I64 r.x ∧ I64 r.y) (hzt : ∀ r ∈ d.ts, r.n.size ≤ maxLen) (hzf : ∀ f ∈ d.fs, f.n.size ≤ maxLen ∧ I64 f.r ∧ I64 f.c) (hf9 : d.fs.length < 1000) :
    Calls Try.prog 21 #[.agg #[wv, tv, fv]] w fun e w' => ∃ (P : Bp) (X : List Th), e = .returned (.tuple #[.pointer (some ⟨P.b, 0, none⟩), .int .i64 0]) ∧ P.d = d ∧ BoardM P w' 0 [] X ∧ w.heap.size ≤ P.lo ∧ P.top = w'.heap.size ∧ B w w' := by
  obtain ⟨ao, ac, bo, bc, co, cc, rfl, rfl, rfl⟩ := h.forms
  obtain ⟨p8, p4, pW, pT⟩ := right_parts9 hr
  have q0 : B w (w.alloc (.cells #[.slice ao d.ws.length ac, .slice bo d.ts.length bc, .slice co d.fs.length cc] 67)) := (B.refl w).alloc _ _
  have hD0 := h.keepB q0
  have hs0 := q0.below.size
  have oD0 := obj_new w (.cells #[.slice ao d.ws.length ac, .slice bo d.ts.length bc, .slice co d.fs.length cc] 67)
  have cR := right9_any _ _ _ d _ hD0 hzw hsI hzt hzf hf9
  rw [hr] at cR
  have l8 : ∀ r ∈ d.ws, r.l.length ≤ 1000000 := fun r hr' => by
    obtain ⟨i, hi, e⟩ := List.getElem_of_mem hr'
    have := right_all (wareOk_right (apart_at pW (show d.ws[i]? = some r by rw [List.getElem?_eq_getElem hi, e])).1)
    omega
  have l4 : ∀ r ∈ d.ts, r.l.length ≤ 1000000 := fun r hr' => by
    obtain ⟨i, hi, e⟩ := List.getElem_of_mem hr'
    have := right_all (tipOk_right (apart_at pT (show d.ts[i]? = some r by rw [List.getElem?_eq_getElem hi, e])).1)
    omega
  have hmm := @run_makeMap Try.prog
  have hnot : ∀ (x : Bool) (w : World), (Op.unary .not (.bool x)).run Try.prog w = .ok (.bool (!x)) w := fun _ _ => rfl
  go_enter Try.func21, Try.ntmps21
  go_wp2_with fail
  generalize w.alloc (.cells #[.slice ao d.ws.length ac, .slice bo d.ts.length bc, .slice co d.fs.length cc] 67) = w0 at *
  refine cR.mono ?_
  rintro e w1 ⟨rfl, q1⟩
  have k0 := obj_cell (q1.obj oD0) 0
  have k1 := obj_cell (q1.obj oD0) 1
  have k2 := obj_cell (q1.obj oD0) 2
  have cC := copied_any _ _ _ d w1 (hD0.keepB q1) l8 l4 (by omega) (by omega) (by omega)
  have hwlo : w.heap.size ≤ w1.heap.size := Nat.le_trans hs0 q1.below.size
  have b1 := q0.trans q1
  clear q0 q1 hD0 oD0 cR hs0 h
  go_wp2_with fail
  refine cC.mono ?_
  rintro e w2 ⟨o1, c1, o2, c2, o3, c3, ss, tt, rfl, HO, q2⟩
  go_wp2_with fail
  refine (cnew_any CTab w2).mono ?_
  rintro e w3 ⟨c, bm, base, rfl, hC3, hbm, hb3, q3⟩
  subst hb3
  have q4 : B w3 (((w3.alloc (.map #[] 0)).alloc (.map #[] 0)).alloc (.cells #[.slice o1 d.ws.length c1, .slice o2 d.ts.length c2, .slice o3 d.fs.length c3, .pointer (some ⟨c, 0, none⟩), .map (some w3.heap.size), .map (some (w3.heap.size + 1))] 99)) := (((B.refl w3).map _ _).map _ _).alloc _ _
  have s4 : (w3.alloc (.map #[] 0)).heap.size = w3.heap.size + 1 := by simp
  have s4b : ((w3.alloc (.map #[] 0)).alloc (.map #[] 0)).heap.size = w3.heap.size + 2 := by simp
  have s4c : (((w3.alloc (.map #[] 0)).alloc (.map #[] 0)).alloc (.cells #[.slice o1 d.ws.length c1, .slice o2 d.ts.length c2, .slice o3 d.fs.length c3, .pointer (some ⟨c, 0, none⟩), .map (some w3.heap.size), .map (some (w3.heap.size + 1))] 99)).heap.size = w3.heap.size + 3 := by simp
  have oB : (((w3.alloc (.map #[] 0)).alloc (.map #[] 0)).alloc (.cells #[.slice o1 d.ws.length c1, .slice o2 d.ts.length c2, .slice o3 d.fs.length c3, .pointer (some ⟨c, 0, none⟩), .map (some w3.heap.size), .map (some (w3.heap.size + 1))] 99)).heap[w3.heap.size + 2]? = some (.cells #[.slice o1 d.ws.length c1, .slice o2 d.ts.length c2, .slice o3 d.fs.length c3, .pointer (some ⟨c, 0, none⟩), .map (some w3.heap.size), .map (some (w3.heap.size + 1))] 99 (0, 0)) := by rw [← s4b]; exact obj_new _ _
  have hM1 : ThMap (((w3.alloc (.map #[] 0)).alloc (.map #[] 0)).alloc (.cells #[.slice o1 d.ws.length c1, .slice o2 d.ts.length c2, .slice o3 d.fs.length c3, .pointer (some ⟨c, 0, none⟩), .map (some w3.heap.size), .map (some (w3.heap.size + 1))] 99)) w3.heap.size [] [] := ((ThMap.new w3).g (S := fun _ => False) (G.alloc (G.refl _ _) _) (fun h => h)).g (S := fun _ => False) (G.alloc (G.refl _ _) _) (fun h => h)
  have hM2 : ThMap (((w3.alloc (.map #[] 0)).alloc (.map #[] 0)).alloc (.cells #[.slice o1 d.ws.length c1, .slice o2 d.ts.length c2, .slice o3 d.fs.length c3, .pointer (some ⟨c, 0, none⟩), .map (some w3.heap.size), .map (some (w3.heap.size + 1))] 99)) (w3.heap.size + 1) [] [] := by
    have := (ThMap.new (w3.alloc (.map #[] 0))).g (S := fun _ => False) (G.alloc (G.refl _ _) (.cells #[.slice o1 d.ws.length c1, .slice o2 d.ts.length c2, .slice o3 d.fs.length c3, .pointer (some ⟨c, 0, none⟩), .map (some w3.heap.size), .map (some (w3.heap.size + 1))] 99)) (fun h => h)
    rw [s4] at this
    exact this
  have hC4 := CacheM.keepB hC3 q4
  have hcb := hC3.lb
  have hcl := hC3.lt
  have HC := Lib.hid hC4
  have HM := Lib.hid (And.intro hM1 hM2)
  have hoB := Lib.hid oB
  have b24 := q3.trans q4
  have b12 := b1.trans q2
  have hhi : w1.heap.size ≤ w2.heap.size := q2.below.size
  clear q3 q4 hC4 hM1 hM2 oB hC3 k0 k1 k2 cC b1 q2 s4
  go_wp2_with fail
  have oB := hoB.out
  clear hoB s4b
  generalize (((w3.alloc (.map #[] 0)).alloc (.map #[] 0)).alloc (.cells #[.slice o1 d.ws.length c1, .slice o2 d.ts.length c2, .slice o3 d.fs.length c3, .pointer (some ⟨c, 0, none⟩), .map (some w3.heap.size), .map (some (w3.heap.size + 1))] 99)) = W4 at *
  generalize hb : w3.heap.size + 2 = b at *
  generalize hmt : w3.heap.size + 1 = mt at *
  generalize hmw : w3.heap.size = mw at *
  generalize hlo : w1.heap.size = lo at *
  generalize hh' : w2.heap.size = hh at *
  obtain ⟨Wsz, hWsz⟩ : ∃ z, W4.heap.size = z := ⟨_, rfl⟩
  have hS0 : NewS d lo hh b mw mt w2 W4 W4 [] 0 0 := ⟨G.refl _ _, rfl, fun j r h => by omega, fun j r h => by omega, HM.out.1, HM.out.2, fun x h => (by cases h), fun x h => (by cases h), fun x h => (by cases h), List.Pairwise.nil⟩
  go_loopw [25] (fun iv wr => ∃ (i : Nat) (X : List Th), i ≤ d.ws.length ∧ iv = .int .i64 i ∧ NewS d lo hh b mw mt w2 W4 wr X i 0) (fun iv _ => d.ws.length + 1 - (intOf iv).toNat)
  case atStart => exact ⟨0, [], Nat.zero_le _, rfl, hS0⟩
  case round =>
  
    obtain ⟨i, X, hi, rfl, hS⟩ := hrel
    obtain ⟨wl, rfl⟩ : ∃ wl : World, wl = wr := ⟨_, rfl⟩
    have oBr := hS.g.obj (by show ¬ (b = mw ∨ b = mt); omega) oB
    have bwr : B w2 wl := hS.g.b b24 (fun i hi => by rcases hi with rfl | rfl <;> omega)
    by_cases hl : i < d.ws.length
    · have hlB : decide ((i : Int) < (d.ws.length : Int)) = true := decide_eq_true (by omega)
      have hlN : decide (i < d.ws.length) = true := decide_eq_true hl
      have hlI : (i : Int) < (d.ws.length : Int) := by omega
      have hi0 : (0 : Int) ≤ (i : Int) := by omega
      have wk1 : IntKind.i64.wrap ((i : Int) + 1) = (i : Int) + 1 := by rw [IntKind.wrap_i64]; omega
      have HOr := HO.on (fun i _ h2 => bwr.below.block i h2)
      have hr : d.ws[i]? = some d.ws[i] := List.getElem?_eq_getElem (by omega)
      have hv : ss[i]? = some (ss[i]'(by have := HO.sl; omega)) := List.getElem?_eq_getElem _
      have hsec := (HO.heldW i _ _ hr hv).keepB bwr
      rw [hh'] at hsec
      obtain ⟨vo, vn, vc, hvv⟩ := hsec.now.form
      rw [hvv] at hv hsec
      clear hvv
      have hrow := HOr.ws
      obtain ⟨g, cp, hsl, hgk, hglt⟩ := hrow.form (by omega)
      simp only [Value.slice.injEq, true_and] at hsl
      obtain ⟨rfl, rfl⟩ := hsl
      have hrc := fun j (hj : j < 5) => (hrow.cellAt (i * 5 + j) (by omega)).trans (flatR_get d.ws ss i j _ _ hr hv hj)
      have y0 := hrc 0 (by omega)
      have y1 := hrc 1 (by omega)
      have y2 := hrc 2 (by omega)
      have y3 := hrc 3 (by omega)
      have y4 := hrc 4 (by omega)
      obtain ⟨pok, pap⟩ := apart_at pW hr
      have hR := wareOk_right pok
      rw [← names_map] at pap
      have hnz := hzw _ (List.mem_of_getElem? hr)
      generalize d.ws[i] = r at *
      obtain ⟨N, RX, RY, RZ, RL⟩ := r
      simp only [Rec.cells, List.getElem?_cons_zero, List.getElem?_cons_succ] at y0 y1 y2 y3 y4
      simp only at hR pap hnz hsec
      rw [Nat.add_zero] at y0
      have y0' : wl.cell? ⟨g, i * 5, none⟩ = some (.string N) := y0
      obtain ⟨D, hD, hDm, hDA, hDH⟩ := hS.wm
      obtain ⟨kk, hkk⟩ : ∃ kk, ((d.ws.take i).map (·.n)).length = kk := ⟨_, rfl⟩
      have hk8 : kk ≤ 8 := by rw [← hkk]; simp; omega
      rw [hkk] at hD
      have key := key9 N hnz
      have HK := Lib.hid (And.intro hkk (And.intro (show (((d.ws.take i).map (·.n)).length = ((X.take i).map (·.b)).length) by have := hS.len; simp; omega) (And.intro hDA (And.intro hDH (And.intro pap (And.intro hR (And.intro hsec (And.intro hr hl))))))))
      have HS := Lib.hid (And.intro hS bwr)
      have hgs := hS.g.size
      clear hS bwr hDA hDH pap hR hsec hr hkk hv HOr hrow hrc pok y0 hglt hgk hDm
      have s3 := obj_cell oBr 4
      have Gxs : wl.heap.size = wl.heap.size := rfl
      go_wp2_with fail
      have g0 : (wl.alloc (.cells #[.string N, .int .i64 RX, .int .i64 RY, .int .i64 RZ, .slice vo vn vc] 58)).cell? ⟨wl.heap.size, 0, none⟩ = some (.string N) := obj_cell (obj_new _ _) 0
      have g4 : (wl.alloc (.cells #[.string N, .int .i64 RX, .int .i64 RY, .int .i64 RZ, .slice vo vn vc] 58)).cell? ⟨wl.heap.size, 4, none⟩ = some (.slice vo vn vc) := obj_cell (obj_new _ _) 4
      have qx : B wl (wl.alloc (.cells #[.string N, .int .i64 RX, .int .i64 RY, .int .i64 RZ, .slice vo vn vc] 58)) := (B.refl _).alloc _ _
      have hDx := hD.alloc (.cells #[.string N, .int .i64 RX, .int .i64 RY, .int .i64 RZ, .slice vo vn vc] 58)
      have zx : (wl.alloc (.cells #[.string N, .int .i64 RX, .int .i64 RY, .int .i64 RZ, .slice vo vn vc] 58)).heap.size = wl.heap.size + 1 := by simp
      have hsx : Wsz ≤ wl.heap.size := Nat.le_trans (Nat.le_of_eq hWsz.symm) hgs
      replace s3 := qx.keep s3
      have HZx := Lib.hid zx
      clear Gxs hD y0' y1 y2 y3 y4 zx
      generalize hWx : wl.alloc (.cells #[.string N, .int .i64 RX, .int .i64 RY, .int .i64 RZ, .slice vo vn vc] 58) = Wx at *
      generalize hGx : wl.heap.size = Gx at *
      have cU := fun (w : World) (hE : w.ownsMap Try.prog 9 ptrElem mw kk D) => hE.store str_law Try.underlying97 (by unfold maxLen; omega) key (ptrElem_at Wx.heap.size)
      replace hDx : Wx.drew.ownsMap Try.prog 9 ptrElem mw kk D := hDx
      refine wp_region_noPanic ?_
      refine wp_region_gate (S := fun w' => B Wx w' ∧ w'.cell? ⟨b, 4, none⟩ = some (.map (some mw)) ∧ w'.cell? ⟨Gx, 0, none⟩ = some (.string N) ∧ w'.cell? ⟨Gx, 4, none⟩ = some (.slice vo vn vc) ∧ w'.ownsMap Try.prog 9 ptrElem mw kk D) 11 [(0, 3), (1, 3), (2, 3), (3, 0), (4, 3), (5, 0), (6, 3), (7, 3), (8, 0), (9, 3), (10, 2), (11, 4)] [0, 1, 2, 4, 0, 16, 0, 0, 128, 320, 512, 2047] [0, 1, 2, 4, 0, 16, 0, 0, 128, 320, 512, 1064] [0, 0, 0, 2056, 0, 2080, 0, 0, 3840, 0, 0, 0] (by kernel_rfl) (by kernel_rfl) (fun _ _ _ _ _ h => h) ?_ (fun hH => ?_)
      · exact ⟨(B.refl _).drew, s3, g0, g4, hDx⟩
      refine wpSeqG_free (d := 30) (v := ?_) rfl rfl (by kernel_rfl) (fun w => ?_) ?_
      rotate_left
      · go_simp <;> with_reducible rfl
      dsimp only [List.set_cons_zero, List.set_cons_succ]
      refine wpSeqG_free (d := 31) (v := ?_) rfl rfl (by kernel_rfl) (fun w => ?_) ?_
      rotate_left
      · go_simp <;> with_reducible rfl
      dsimp only [List.set_cons_zero, List.set_cons_succ]
      refine wpSeqG_free (d := 32) (v := ?_) rfl rfl (by kernel_rfl) (fun w => ?_) ?_
      rotate_left
      · go_simp <;> with_reducible rfl
      dsimp only [List.set_cons_zero, List.set_cons_succ]
      refine wpSeqG_take (d := 33) (v := ?_) rfl rfl (by kernel_rfl) (fun w hS => ?_) ?_
      rotate_left
      · go_simp <;> with_reducible rfl
      dsimp only [List.set_cons_zero, List.set_cons_succ]
      refine wpSeqG_free (d := 34) (v := ?_) rfl rfl (by kernel_rfl) (fun w => ?_) ?_
      rotate_left
      · go_simp <;> with_reducible rfl
      dsimp only [List.set_cons_zero, List.set_cons_succ]
      refine wpSeqG_take (d := 35) (v := ?_) rfl rfl (by kernel_rfl) (fun w hS => ?_) ?_
      rotate_left
      · go_simp <;> with_reducible rfl
      dsimp only [List.set_cons_zero, List.set_cons_succ]
      refine wpSeqG_free (d := 36) (v := ?_) rfl rfl (by kernel_rfl) (fun w => ?_) ?_
      rotate_left
      · go_simp <;> with_reducible rfl
      dsimp only [List.set_cons_zero, List.set_cons_succ]
      refine wpSeqG_free (d := 37) (v := ?_) rfl rfl (by kernel_rfl) (fun w => ?_) ?_
      rotate_left
      · go_simp <;> with_reducible rfl
      dsimp only [List.set_cons_zero, List.set_cons_succ]
      refine wpSeqG_take (d := 38) (v := ?_) rfl rfl (by kernel_rfl) (fun w hS => ?_) ?_
      rotate_left
      · go_simp <;> with_reducible rfl
      dsimp only [List.set_cons_zero, List.set_cons_succ]
      refine wpSeqG_free (d := 39) (v := ?_) rfl rfl (by kernel_rfl) (fun w => ?_) ?_
      rotate_left
      · go_simp <;> with_reducible rfl
      dsimp only [List.set_cons_zero, List.set_cons_succ]
      refine wpSeqG_call rfl (by kernel_rfl) (fun K hK => ?_)
      go_simp
      refine hK.out _ _ ?_ (fun hH => ?_)
      · exact ⟨hH.1.alloc _ _, ((B.refl _).alloc _ _).keep hH.2.1, ((B.refl _).alloc _ _).keep hH.2.2.1, ((B.refl _).alloc _ _).keep hH.2.2.2.1, hH.2.2.2.2.alloc _⟩
      clear hK
      refine wpSeqG_gate rfl (by kernel_rfl) (fun K hK => ?_)
      go_simp
      obtain ⟨w4, e4, hE4, ht4⟩ := cU _ hH.2.2.2.2
      rw [e4]
      go_simp
      refine hK.out _ _ ?_
      clear hK
      refine wpSeqG_done ?_
      refine NoPanic.normal ?_
      obtain ⟨hkk, hlen, hDA, hDH, pap, hR, hsec, hr, hl⟩ := HK.out
      obtain ⟨hS, bwr⟩ := HS.out
      have zx := HZx.out
      have ob := obj_new Wx.drew (.cells #[.int .i64 (i : Int), .slice vo vn vc, .int .u32 0, .int .i32 0, .int .u32 0, .pointer none] 114)
      replace ob : (Wx.drew.alloc (.cells #[.int .i64 (i : Int), .slice vo vn vc, .int .u32 0, .int .i32 0, .int .u32 0, .pointer none] 114)).heap[Wx.heap.size]? = _ := ob
      have gA := ht4.grown
      have gN : G (fun k => k = mw) wl w4 := ((qx.g (fun k => k = mw)).trans ((((B.refl Wx).drew).alloc _ _).g _)).grown gA (fun k hk => .inl (Option.some.inj hk).symm)
      have zt : Wx.heap.size ≠ mw := by omega
      have hz9 : Wx.heap.size < (Wx.drew.alloc (.cells #[.int .i64 (i : Int), .slice vo vn vc, .int .u32 0, .int .i32 0, .int .u32 0, .pointer none] 114)).heap.size := obj_lt ob
      have ob4 := (gA.block Wx.heap.size hz9 (fun e => zt (Option.some.inj e))).trans ob
      obtain ⟨hA4, hH4⟩ := th_put (b := Wx.heap.size) hDx.isMap hlen hDA hDH pap
      have hTM : ThMap w4 mw (((d.ws.take i).map (·.n)) ++ [N]) (((X.take i).map (·.b)) ++ [Wx.heap.size]) := ⟨_, by rw [List.length_append, hkk]; exact hE4, hE4.isMap, hA4, hH4⟩
      have hgs4 := gA.size
      have hN := hS.addW (r := ⟨N, RX, RY, RZ, RL⟩) hr (by omega) (by omega) gN (Nat.lt_of_lt_of_le hz9 hgs4) (by omega) (by omega) (by omega) ob4 (gN.held hsec (fun k hk1 hk2 hk3 => by omega)) hR hTM
      have HN := Lib.hid (And.intro hN hl)
      clear hN hTM hA4 hH4 ob4 hz9 gN gA ob hS bwr hDA hDH pap hR hsec hr hkk HK HS hE4 ht4 e4 hH cU hDx hgs4
      go_wp2
      go_roundw
      case rel => exact ⟨i + 1, _, by have := HN.out.2; omega, by go_num, HN.out.1⟩
      case measure => have := HN.out.2; simp [intOf]; omega
    · have hlB : decide ((i : Int) < (d.ws.length : Int)) = false := decide_eq_false (by omega)
      have hlN : decide (i < d.ws.length) = false := decide_eq_false hl
      obtain rfl : i = d.ws.length := by omega
      have sT := obj_cell oBr 1
      have oBq := oBr
      go_wp2_with fail
      go_loopw [48] (fun iv wr => ∃ (i : Nat) (X : List Th), i ≤ d.ts.length ∧ iv = .int .i64 i ∧ NewS d lo hh b mw mt w2 W4 wr X d.ws.length i) (fun iv _ => d.ts.length + 1 - (intOf iv).toNat)
      case atStart => exact ⟨0, X, Nat.zero_le _, rfl, hS⟩
      case round =>
        clear hS X
        obtain ⟨i, X, hi, rfl, hS⟩ := hrel
        obtain ⟨wl, rfl⟩ : ∃ wl : World, wl = wr := ⟨_, rfl⟩
        have oBr := hS.g.obj (by show ¬ (b = mw ∨ b = mt); omega) oB
        have bwr : B w2 wl := hS.g.b b24 (fun i hi => by rcases hi with rfl | rfl <;> omega)
        by_cases hl : i < d.ts.length
        · have hlB : decide ((i : Int) < (d.ts.length : Int)) = true := decide_eq_true (by omega)
          have hlN : decide (i < d.ts.length) = true := decide_eq_true hl
          have hlI : (i : Int) < (d.ts.length : Int) := by omega
          have hi0 : (0 : Int) ≤ (i : Int) := by omega
          have wk1 : IntKind.i64.wrap ((i : Int) + 1) = (i : Int) + 1 := by rw [IntKind.wrap_i64]; omega
          have HOr := HO.on (fun i _ h2 => bwr.below.block i h2)
          have hr : d.ts[i]? = some d.ts[i] := List.getElem?_eq_getElem (by omega)
          have hv : tt[i]? = some (tt[i]'(by have := HO.tl; omega)) := List.getElem?_eq_getElem _
          have hsec := (HO.heldT i _ _ hr hv).keepB bwr
          rw [hh'] at hsec
          obtain ⟨vo, vn, vc, hvv⟩ := hsec.now.form
          rw [hvv] at hv hsec
          clear hvv
          have hrow := HOr.ts
          obtain ⟨g, cp, hsl, hgk, hglt⟩ := hrow.form (by omega)
          simp only [Value.slice.injEq, true_and] at hsl
          obtain ⟨rfl, rfl⟩ := hsl
          have hrc := fun j (hj : j < 5) => (hrow.cellAt (i * 5 + j) (by omega)).trans (flatR_get d.ts tt i j _ _ hr hv hj)
          have y0 := hrc 0 (by omega)
          have y1 := hrc 1 (by omega)
          have y2 := hrc 2 (by omega)
          have y3 := hrc 3 (by omega)
          have y4 := hrc 4 (by omega)
          obtain ⟨pok, pap⟩ := apart_at pT hr
          have hR := tipOk_right pok
          rw [← names_map] at pap
          have hnz := hzt _ (List.mem_of_getElem? hr)
          generalize d.ts[i] = r at *
          obtain ⟨N, RX, RY, RZ, RL⟩ := r
          simp only [Rec.cells, List.getElem?_cons_zero, List.getElem?_cons_succ] at y0 y1 y2 y3 y4
          simp only at hR pap hnz hsec
          rw [Nat.add_zero] at y0
          have y0' : wl.cell? ⟨g, i * 5, none⟩ = some (.string N) := y0
          obtain ⟨D, hD, hDm, hDA, hDH⟩ := hS.tm
          obtain ⟨kk, hkk⟩ : ∃ kk, ((d.ts.take i).map (·.n)).length = kk := ⟨_, rfl⟩
          have hk8 : kk ≤ 8 := by rw [← hkk]; simp; omega
          rw [hkk] at hD
          have key := key9 N hnz
          have HK := Lib.hid (And.intro hkk (And.intro (show (((d.ts.take i).map (·.n)).length = ((X.drop d.ws.length).map (·.b)).length) by have := hS.len; simp; omega) (And.intro hDA (And.intro hDH (And.intro pap (And.intro hR (And.intro hsec (And.intro hr hl))))))))
          have HS := Lib.hid (And.intro hS bwr)
          have hgs := hS.g.size
          clear hS bwr hDA hDH pap hR hsec hr hkk hv HOr hrow hrc pok y0 hglt hgk hDm
          have s3 := obj_cell oBr 5
          have Gxs : wl.heap.size = wl.heap.size := rfl
          go_wp2_with fail
          have g0 : (wl.alloc (.cells #[.string N, .int .i64 RX, .int .i64 RY, .int .i64 RZ, .slice vo vn vc] 116)).cell? ⟨wl.heap.size, 0, none⟩ = some (.string N) := obj_cell (obj_new _ _) 0
          have g4 : (wl.alloc (.cells #[.string N, .int .i64 RX, .int .i64 RY, .int .i64 RZ, .slice vo vn vc] 116)).cell? ⟨wl.heap.size, 4, none⟩ = some (.slice vo vn vc) := obj_cell (obj_new _ _) 4
          have qx : B wl (wl.alloc (.cells #[.string N, .int .i64 RX, .int .i64 RY, .int .i64 RZ, .slice vo vn vc] 116)) := (B.refl _).alloc _ _
          have hDx := hD.alloc (.cells #[.string N, .int .i64 RX, .int .i64 RY, .int .i64 RZ, .slice vo vn vc] 116)
          have zx : (wl.alloc (.cells #[.string N, .int .i64 RX, .int .i64 RY, .int .i64 RZ, .slice vo vn vc] 116)).heap.size = wl.heap.size + 1 := by simp
          have hsx : Wsz ≤ wl.heap.size := Nat.le_trans (Nat.le_of_eq hWsz.symm) hgs
          replace s3 := qx.keep s3
          have HZx := Lib.hid zx
          clear Gxs hD y0' y1 y2 y3 y4 zx
          generalize hWx : wl.alloc (.cells #[.string N, .int .i64 RX, .int .i64 RY, .int .i64 RZ, .slice vo vn vc] 116) = Wx at *
          generalize hGx : wl.heap.size = Gx at *
          have cU := fun (w : World) (hE : w.ownsMap Try.prog 9 ptrElem mt kk D) => hE.store str_law Try.underlying97 (by unfold maxLen; omega) key (ptrElem_at Wx.heap.size)
          replace hDx : Wx.drew.ownsMap Try.prog 9 ptrElem mt kk D := hDx
          refine wp_region_noPanic ?_
          refine wp_region_gate (S := fun w' => B Wx w' ∧ w'.cell? ⟨b, 5, none⟩ = some (.map (some mt)) ∧ w'.cell? ⟨Gx, 0, none⟩ = some (.string N) ∧ w'.cell? ⟨Gx, 4, none⟩ = some (.slice vo vn vc) ∧ w'.ownsMap Try.prog 9 ptrElem mt kk D) 11 [(0, 3), (1, 3), (2, 3), (3, 0), (4, 3), (5, 0), (6, 3), (7, 3), (8, 0), (9, 3), (10, 2), (11, 4)] [0, 1, 2, 4, 0, 16, 0, 0, 128, 320, 512, 2047] [0, 1, 2, 4, 0, 16, 0, 0, 128, 320, 512, 1064] [0, 0, 0, 2056, 0, 2080, 0, 0, 3840, 0, 0, 0] (by kernel_rfl) (by kernel_rfl) (fun _ _ _ _ _ h => h) ?_ (fun hH => ?_)
          · exact ⟨(B.refl _).drew, s3, g0, g4, hDx⟩
          refine wpSeqG_free (d := 53) (v := ?_) rfl rfl (by kernel_rfl) (fun w => ?_) ?_
          rotate_left
          · go_simp <;> with_reducible rfl
          dsimp only [List.set_cons_zero, List.set_cons_succ]
          refine wpSeqG_free (d := 54) (v := ?_) rfl rfl (by kernel_rfl) (fun w => ?_) ?_
          rotate_left
          · go_simp <;> with_reducible rfl
          dsimp only [List.set_cons_zero, List.set_cons_succ]
          refine wpSeqG_free (d := 55) (v := ?_) rfl rfl (by kernel_rfl) (fun w => ?_) ?_
          rotate_left
          · go_simp <;> with_reducible rfl
          dsimp only [List.set_cons_zero, List.set_cons_succ]
          refine wpSeqG_take (d := 56) (v := ?_) rfl rfl (by kernel_rfl) (fun w hS => ?_) ?_
          rotate_left
          · go_simp <;> with_reducible rfl
          dsimp only [List.set_cons_zero, List.set_cons_succ]
          refine wpSeqG_free (d := 57) (v := ?_) rfl rfl (by kernel_rfl) (fun w => ?_) ?_
          rotate_left
          · go_simp <;> with_reducible rfl
          dsimp only [List.set_cons_zero, List.set_cons_succ]
          refine wpSeqG_take (d := 58) (v := ?_) rfl rfl (by kernel_rfl) (fun w hS => ?_) ?_
          rotate_left
          · go_simp <;> with_reducible rfl
          dsimp only [List.set_cons_zero, List.set_cons_succ]
          refine wpSeqG_free (d := 59) (v := ?_) rfl rfl (by kernel_rfl) (fun w => ?_) ?_
          rotate_left
          · go_simp <;> with_reducible rfl
          dsimp only [List.set_cons_zero, List.set_cons_succ]
          refine wpSeqG_free (d := 60) (v := ?_) rfl rfl (by kernel_rfl) (fun w => ?_) ?_
          rotate_left
          · go_simp <;> with_reducible rfl
          dsimp only [List.set_cons_zero, List.set_cons_succ]
          refine wpSeqG_take (d := 61) (v := ?_) rfl rfl (by kernel_rfl) (fun w hS => ?_) ?_
          rotate_left
          · go_simp <;> with_reducible rfl
          dsimp only [List.set_cons_zero, List.set_cons_succ]
          refine wpSeqG_free (d := 62) (v := ?_) rfl rfl (by kernel_rfl) (fun w => ?_) ?_
          rotate_left
          · go_simp <;> with_reducible rfl
          dsimp only [List.set_cons_zero, List.set_cons_succ]
          refine wpSeqG_call rfl (by kernel_rfl) (fun K hK => ?_)
          go_simp
          refine hK.out _ _ ?_ (fun hH => ?_)
          · exact ⟨hH.1.alloc _ _, ((B.refl _).alloc _ _).keep hH.2.1, ((B.refl _).alloc _ _).keep hH.2.2.1, ((B.refl _).alloc _ _).keep hH.2.2.2.1, hH.2.2.2.2.alloc _⟩
          clear hK
          refine wpSeqG_gate rfl (by kernel_rfl) (fun K hK => ?_)
          go_simp
          obtain ⟨w4, e4, hE4, ht4⟩ := cU _ hH.2.2.2.2
          rw [e4]
          go_simp
          refine hK.out _ _ ?_
          clear hK
          refine wpSeqG_done ?_
          refine NoPanic.normal ?_
          obtain ⟨hkk, hlen, hDA, hDH, pap, hR, hsec, hr, hl⟩ := HK.out
          obtain ⟨hS, bwr⟩ := HS.out
          have zx := HZx.out
          have ob := obj_new Wx.drew (.cells #[.int .i64 (i : Int), .slice vo vn vc, .int .u32 0, .int .i32 0, .int .u32 0, .pointer none] 114)
          replace ob : (Wx.drew.alloc (.cells #[.int .i64 (i : Int), .slice vo vn vc, .int .u32 0, .int .i32 0, .int .u32 0, .pointer none] 114)).heap[Wx.heap.size]? = _ := ob
          have gA := ht4.grown
          have gN : G (fun k => k = mt) wl w4 := ((qx.g (fun k => k = mt)).trans ((((B.refl Wx).drew).alloc _ _).g _)).grown gA (fun k hk => .inl (Option.some.inj hk).symm)
          have zt : Wx.heap.size ≠ mt := by omega
          have hz9 : Wx.heap.size < (Wx.drew.alloc (.cells #[.int .i64 (i : Int), .slice vo vn vc, .int .u32 0, .int .i32 0, .int .u32 0, .pointer none] 114)).heap.size := obj_lt ob
          have ob4 := (gA.block Wx.heap.size hz9 (fun e => zt (Option.some.inj e))).trans ob
          obtain ⟨hA4, hH4⟩ := th_put (b := Wx.heap.size) hDx.isMap hlen hDA hDH pap
          have hTM : ThMap w4 mt (((d.ts.take i).map (·.n)) ++ [N]) (((X.drop d.ws.length).map (·.b)) ++ [Wx.heap.size]) := ⟨_, by rw [List.length_append, hkk]; exact hE4, hE4.isMap, hA4, hH4⟩
          have hgs4 := gA.size
          have hN := hS.addT (r := ⟨N, RX, RY, RZ, RL⟩) hr (by omega) (by omega) gN (Nat.lt_of_lt_of_le hz9 hgs4) (by omega) (by omega) (by omega) ob4 (gN.held hsec (fun k hk1 hk2 hk3 => by omega)) hR hTM
          have HN := Lib.hid (And.intro hN hl)
          clear hN hTM hA4 hH4 ob4 hz9 gN gA ob hS bwr hDA hDH pap hR hsec hr hkk HK HS hE4 ht4 e4 hH cU hDx hgs4
          go_wp2
          go_roundw
          case rel => exact ⟨i + 1, _, by have := HN.out.2; omega, by go_num, HN.out.1⟩
          case measure => have := HN.out.2; simp [intOf]; omega
        · have hlB : decide ((i : Int) < (d.ts.length : Int)) = false := decide_eq_false (by omega)
          have hlN : decide (i < d.ts.length) = false := decide_eq_false hl
          obtain rfl : i = d.ts.length := by omega
          have hN := hS
          obtain ⟨Xe, hXe⟩ : ∃ Xe : List Th, X = Xe := ⟨_, rfl⟩
          have hlen := hN.len
          have t1 : X.take d.ws.length ++ X.drop d.ws.length = X := List.take_append_drop _ _
          have hBM : BoardM ⟨b, lo, hh, c, bm, mw, mw, mt, wl.heap.size, .slice o1 d.ws.length c1, .slice o2 d.ts.length c2, .slice o3 d.fs.length c3, d, (X.take d.ws.length).map (·.b), (X.drop d.ws.length).map (·.b)⟩ wl 0 [] X := by
            have hgsz := hN.g.size
            refine ⟨oBr, ?_, hr, ?_, ?_, ?_, (show lo ≤ hh by omega), (show hh ≤ bm by omega), (show mw ≤ mw by omega), (show mw < mt by omega), (show mt < b by omega), (show b < wl.heap.size by omega), Nat.le_refl _,
              (show X.map (·.b) = (X.take d.ws.length).map (·.b) ++ (X.drop d.ws.length).map (·.b) by rw [← List.map_append, t1]), fun x hx => hN.blt x hx, hN.bap, fun e he => (by cases he), hN.at_, fun i r hr' => hN.xw i r (List.getElem?_eq_some_iff.1 hr').1 hr', fun i r hr' => hN.xt i r (List.getElem?_eq_some_iff.1 hr').1 hr',
              (show ((X.take d.ws.length).map (·.b)).length = d.ws.length by simp; omega), (show ((X.drop d.ws.length).map (·.b)).length = d.ts.length by simp; omega), ?_, Nat.le_refl _⟩
            · have := HO.held.keepB bwr
              rw [hh'] at this
              exact this
            · exact CacheM.apartG HC.out hN.g (fun i hi => by
                have hi' : i = mw ∨ i = mt := hi
                have h1 : i ≠ c := by omega
                have h2 : i ≠ bm := by omega
                exact ⟨h1, h2, fun e he => by cases he⟩)
            · have := hN.wm
              rw [List.take_of_length_le (Nat.le_refl _)] at this
              exact this
            · have := hN.tm
              rw [List.take_of_length_le (Nat.le_refl _)] at this
              exact this
            · rw [List.filter_eq_nil_iff.2 (fun x hx => by rw [hN.nil x hx]; simp)]
              rfl
          have hBW := b12.trans bwr
          have HZ := Lib.hid (And.intro hBM hBW)
          clear hBM hN hS hXe
          go_wp2
          go_ret2
          refine ⟨_, ?_, ?_, ⟨X, HZ.out.1⟩, hwlo, rfl, HZ.out.2⟩
          · rfl
          · rfl
end Go.Proofs.Ytkhaephmpifcmaa

namespace Go.Proofs.Ytkhaephmpifcmaa
open Go.RowKit
theorem amount_any (a : Int) (ha : I64 a) (w : World) :
    Calls Try.prog 82 #[.int .i64 a] w fun e w' => e = .returned (.int .u64 (a.natAbs : Int)) ∧ w = w' := by
  unfold I64 at ha
  obtain ⟨h1, h2⟩ := ha
  by_cases hn : a < 0
  · have e : IntKind.u64.wrap (-IntKind.u64.wrap a) = (a.natAbs : Int) := by rw [wrapU, wrapU]; omega
    go_enter Try.func82, Try.ntmps82
    go_wp2
    go_ret
    exact ⟨rfl, rfl⟩
  · have e : IntKind.u64.wrap a = (a.natAbs : Int) := by rw [wrapU]; omega
    go_enter Try.func82, Try.ntmps82
    go_wp2
    go_ret
    exact ⟨rfl, rfl⟩
/-- The halves of a product. -/
def hi64 (x y : Nat) : Nat := x * y / 18446744073709551616
def lo64 (x y : Nat) : Nat := x * y % 18446744073709551616
theorem low_or (p m : Nat) (hp : p < 4294967296) : bits .or .u64 (p : Int) ((m * 4294967296 % 18446744073709551616 : Nat) : Int) = ((p + m * 4294967296 % 18446744073709551616 : Nat) : Int) := by
  rw [bits_or_u64_nat _ _ (by omega) (Nat.mod_lt _ (by omega)), Nat.or_comm, or_join 32 _ _ (by omega) (by omega)]
  omega
/-- The numbers that the walk meets. -/
theorem times_nums (x y : Nat) (hx : x < 18446744073709551616) (hy : y < 18446744073709551616) :
    ∃ a0 a1 b0 b1 P Z R S P0 P1 Z0 Z1 R0 R1 ML LO : Nat,
      bits .and .u64 (x : Int) 4294967295 = (a0 : Int) ∧ (x : Int) / 4294967296 = (a1 : Int) ∧ bits .and .u64 (y : Int) 4294967295 = (b0 : Int) ∧ (y : Int) / 4294967296 = (b1 : Int) ∧
      IntKind.u64.wrap ((a0 : Int) * (b0 : Int)) = (P : Int) ∧ IntKind.u64.wrap ((a1 : Int) * (b0 : Int)) = (Z : Int) ∧ IntKind.u64.wrap ((a0 : Int) * (b1 : Int)) = (R : Int) ∧ IntKind.u64.wrap ((a1 : Int) * (b1 : Int)) = (S : Int) ∧
      bits .and .u64 (P : Int) 4294967295 = (P0 : Int) ∧ (P : Int) / 4294967296 = (P1 : Int) ∧ bits .and .u64 (Z : Int) 4294967295 = (Z0 : Int) ∧ (Z : Int) / 4294967296 = (Z1 : Int) ∧ bits .and .u64 (R : Int) 4294967295 = (R0 : Int) ∧ (R : Int) / 4294967296 = (R1 : Int) ∧
      (P0 < 4294967296 ∧ P1 < 4294967296 ∧ Z0 < 4294967296 ∧ Z1 < 4294967296 ∧ R0 < 4294967296 ∧ R1 < 4294967296 ∧ S ≤ 18446744065119617025) ∧
      IntKind.u64.wrap (((P1 : Int) + (Z0 : Int) + (R0 : Int)) * 4294967296) = (ML : Int) ∧ bits .or .u64 (P0 : Int) (ML : Int) = (LO : Int) ∧
      IntKind.u64.wrap ((S : Int) + (Z1 : Int) + (R1 : Int) + ((P1 : Int) + (Z0 : Int) + (R0 : Int)) / 4294967296) = (hi64 x y : Int) ∧ LO = lo64 x y := by
  have e : x * y = (x / 4294967296) * (y / 4294967296) * (4294967296 * 4294967296) + ((x / 4294967296) * (y % 4294967296) + (x % 4294967296) * (y / 4294967296)) * 4294967296 + (x % 4294967296) * (y % 4294967296) := by
    rw [← Lib.split_mul, Nat.div_add_mod' x 4294967296, Nat.div_add_mod' y 4294967296]
  have ha := Lib.half_mul_le (a := x / 4294967296) (b := y / 4294967296) (by omega) (by omega)
  have hb := Lib.half_mul_le (a := x / 4294967296) (b := y % 4294967296) (by omega) (by omega)
  have hc := Lib.half_mul_le (a := x % 4294967296) (b := y / 4294967296) (by omega) (by omega)
  have hd := Lib.half_mul_le (a := x % 4294967296) (b := y % 4294967296) (by omega) (by omega)
  have m0 := maskN x hx
  have m1 := maskN y hy
  have d0 : (x : Int) / 4294967296 = ((x / 4294967296 : Nat) : Int) := by omega
  have d1 : (y : Int) / 4294967296 = ((y / 4294967296 : Nat) : Int) := by omega
  unfold hi64 lo64
  rw [e]
  clear e
  generalize x / 4294967296 = a1 at *
  generalize x % 4294967296 = a0 at *
  generalize y / 4294967296 = b1 at *
  generalize y % 4294967296 = b0 at *
  refine ⟨a0, a1, b0, b1, a0 * b0, a1 * b0, a0 * b1, a1 * b1, a0 * b0 % 4294967296, a0 * b0 / 4294967296, a1 * b0 % 4294967296, a1 * b0 / 4294967296, a0 * b1 % 4294967296, a0 * b1 / 4294967296,
    (a0 * b0 / 4294967296 + a1 * b0 % 4294967296 + a0 * b1 % 4294967296) * 4294967296 % 18446744073709551616, a0 * b0 % 4294967296 + (a0 * b0 / 4294967296 + a1 * b0 % 4294967296 + a0 * b1 % 4294967296) * 4294967296 % 18446744073709551616,
    m0, d0, m1, d1, ?_, ?_, ?_, ?_, ?_, ?_, ?_, ?_, ?_, ?_, ?_, ?_, ?_, ?_, ?_⟩
  · rw [← Int.natCast_mul]; exact wrapN _ (by omega)
  · rw [← Int.natCast_mul]; exact wrapN _ (by omega)
  · rw [← Int.natCast_mul]; exact wrapN _ (by omega)
  · rw [← Int.natCast_mul]; exact wrapN _ (by omega)
  all_goals
    generalize a0 * b0 = P at *
    generalize a1 * b0 = Z at *
    generalize a0 * b1 = R at *
    generalize a1 * b1 = S at *
  · exact maskN _ (by omega)
  · omega
  · exact maskN _ (by omega)
  · omega
  · exact maskN _ (by omega)
  · omega
  · omega
  · rw [← wrapM]; congr 1
  · exact low_or _ _ (by omega)
  · rw [wrapU]; omega
  · omega
/-- The document's product of halves. -/
theorem times_any (x y : Nat) (hx : x < 18446744073709551616) (hy : y < 18446744073709551616) (w : World) :
    Calls Try.prog 81 #[.int .u64 x, .int .u64 y] w fun e w' => e = .returned (.agg #[.int .u64 (hi64 x y), .int .u64 (lo64 x y)]) ∧ Q w w' := by
  obtain ⟨a0, a1, b0, b1, P, Z, R, S, P0, P1, Z0, Z1, R0, R1, ML, LO, e1, e2, e3, e4, e5, e6, e7, e8, e9, e10, e11, e12, e13, e14, ⟨u1, u2, u3, u4, u5, u6, u7⟩, e15, e16, e17, e18⟩ := times_nums x y hx hy
  subst e18
  go_enter Try.func81, Try.ntmps81
  go_wp2
  refine bodyPost_ret (v := .agg #[.int .u64 (hi64 x y), .int .u64 (lo64 x y)]) (by simp [results, Try.results81, go_sem]) rfl ⟨rfl, ?_⟩
  exact (Q.refl w).alloc _ _
/-- Is an amount of halves, with a sign, a number of 64 bits? -/
theorem long_fits (hi lo : Nat) (neg : Bool) (hlo : lo < 18446744073709551616) : I64 (sg neg (hi * 18446744073709551616 + lo)) ↔ (hi = 0 ∧ (lo < 9223372036854775808 ∨ (lo = 9223372036854775808 ∧ neg = true))) := by
  cases neg
  · rw [sg_fits_pos]; simp; omega
  · rw [sg_fits_neg]; simp; omega
theorem rsigned_any (hi lo : Nat) (neg : Bool) (hlo : lo < 18446744073709551616) (w : World) :
    Calls Try.prog 84 #[.agg #[.int .u64 hi, .int .u64 lo], .bool neg] w fun e w' => e = .returned (.tuple #[.int .i64 (qv (sg neg (hi * 18446744073709551616 + lo))), .bool (decide (I64 (sg neg (hi * 18446744073709551616 + lo))))]) ∧ Q w w' := by
  have hf := long_fits hi lo neg hlo
  by_cases h : I64 (sg neg (hi * 18446744073709551616 + lo))
  · rw [qv_yes h, decide_eq_true h]
    obtain ⟨rfl, h'⟩ := hf.1 h
    rw [Nat.zero_mul, Nat.zero_add]
    have b1 : decide ((9223372036854775808 : Int) < (lo : Int)) = false := decide_eq_false (by omega)
    clear hf h
    cases neg
    · have b2 : ((lo : Int) == 9223372036854775808) = false := by rw [beq_eq_false_iff_ne]; simp at h'; omega
      have e : IntKind.i64.wrap (lo : Int) = sg false lo := by rw [IntKind.wrap_i64]; unfold sg; simp at h' ⊢; omega
      clear h'
      go_enter Try.func84, Try.ntmps84
      go_wp2
      go_ret2
      exact ⟨rfl, (Q.refl w).alloc _ _⟩
    · have e : IntKind.i64.wrap (IntKind.u64.wrap (-(lo : Int))) = sg true lo := by rw [IntKind.wrap_i64, wrapU]; unfold sg; simp at h' ⊢; omega
      have b2 : ((lo : Int) == 9223372036854775808) = true ∨ ((lo : Int) == 9223372036854775808) = false := by cases (lo : Int) == 9223372036854775808 <;> simp
      clear h'
      rcases b2 with b2 | b2
      all_goals
        go_enter Try.func84, Try.ntmps84
        go_wp2
        go_ret2
        exact ⟨rfl, (Q.refl w).alloc _ _⟩
  · rw [qv_no h, decide_eq_false h]
    have h' : ¬ (hi = 0 ∧ (lo < 9223372036854775808 ∨ (lo = 9223372036854775808 ∧ neg = true))) := fun c => h (hf.2 c)
    clear hf h
    by_cases h0 : hi = 0
    · subst h0
      by_cases h1 : 9223372036854775808 < lo
      · have b1 : decide ((9223372036854775808 : Int) < (lo : Int)) = true := decide_eq_true (by omega)
        clear h' h1
        go_enter Try.func84, Try.ntmps84
        go_wp2
        go_ret2
        exact ⟨rfl, (Q.refl w).alloc _ _⟩
      · have h2 : lo = 9223372036854775808 := by
          by_cases c : lo < 9223372036854775808
          · exact absurd ⟨rfl, Or.inl c⟩ h'
          · omega
        have h3 : neg = false := by
          cases neg
          · rfl
          · exact absurd ⟨rfl, Or.inr ⟨h2, rfl⟩⟩ h'
        have b1 : decide ((9223372036854775808 : Int) < (lo : Int)) = false := decide_eq_false (by omega)
        have b2 : ((lo : Int) == 9223372036854775808) = true := by rw [beq_iff_eq]; omega
        subst h3
        clear h' h1 h2
        go_enter Try.func84, Try.ntmps84
        go_wp2
        go_ret2
        exact ⟨rfl, (Q.refl w).alloc _ _⟩
    · have b0 : ((hi : Int) != 0) = true := by simpa using h0
      clear h' h0
      go_enter Try.func84, Try.ntmps84
      go_wp2
      go_ret2
      exact ⟨rfl, (Q.refl w).alloc _ _⟩
theorem told_any (v : Int) (c : Prop) [Decidable c] (w : World) :
    Calls Try.prog 83 #[.int .i64 v, .bool (decide c)] w fun e w' => e = .returned (.tuple #[.int .i64 (if c then v else 0), .int .i64 (if c then 0 else 21)]) ∧ w = w' := by
  by_cases h : c
  · rw [decide_eq_true h, if_pos h, if_pos h]
    clear h
    go_enter Try.func83, Try.ntmps83
    go_wp2
    go_ret2
    exact ⟨rfl, rfl⟩
  · rw [decide_eq_false h, if_neg h, if_neg h]
    clear h
    go_enter Try.func83, Try.ntmps83
    go_wp2
    go_ret2
    exact ⟨rfl, rfl⟩
/-- What 'told' says of a number that 'signed' gave. -/
theorem told_qv (v : Int) (w : World) :
    Calls Try.prog 83 #[.int .i64 (qv v), .bool (decide (I64 v))] w fun e w' => e = .returned (.tuple #[.int .i64 (qv v), .int .i64 (qe v)]) ∧ w = w' := by
  refine (told_any (qv v) (I64 v) w).mono fun e w' h => ⟨?_, h.2⟩
  rw [h.1]
  by_cases c : I64 v
  · rw [if_pos c, if_pos c, qe_yes c]
  · rw [if_neg c, if_neg c, qv_no c, qe_no c]
theorem halves (x y : Nat) : hi64 x y * 18446744073709551616 + lo64 x y = x * y := Nat.div_add_mod' _ _
theorem lo64_lt (x y : Nat) : lo64 x y < 18446744073709551616 := Nat.mod_lt _ (by omega)
end Go.Proofs.Ytkhaephmpifcmaa

namespace Go.Proofs.Ytkhaephmpifcmaa
/-- The document's division, bit by bit: with n bits to go. -/
structure Dv (N D n qh ql r : Nat) : Prop where
  quo : qh * 18446744073709551616 + ql = N / 2 ^ n / D * 2 ^ n
  rest : r = N / 2 ^ n % D
  lo : ql < 18446744073709551616
theorem two64 (m : Nat) (h : 64 ≤ m) : 2 ^ m = 18446744073709551616 * 2 ^ (m - 64) := by
  rw [show (18446744073709551616 : Nat) = 2 ^ 64 from by decide, ← Nat.pow_add, show 64 + (m - 64) = m by omega]
theorem low64 (m : Nat) (h : m < 64) : (18446744073709551616 : Nat) = 2 ^ m * (2 * 2 ^ (63 - m)) := by
  have e : 64 = m + (1 + (63 - m)) := by omega
  rw [show (18446744073709551616 : Nat) = 2 ^ 64 from by decide]
  conv => lhs; rw [e]
  rw [Nat.pow_add, Nat.pow_add, Nat.pow_one]
theorem bit_high (hi lo m : Nat) (hlo : lo < 18446744073709551616) (hm : 64 ≤ m) : (hi * 18446744073709551616 + lo) / 2 ^ m = hi / 2 ^ (m - 64) := by
  rw [two64 m hm, ← Nat.div_div_eq_div_mul]
  congr 1
  omega
theorem bit_low (hi lo m : Nat) (hm : m < 64) : (hi * 18446744073709551616 + lo) / 2 ^ m % 2 = lo / 2 ^ m % 2 := by
  rw [low64 m hm, Nat.mul_comm hi, Nat.mul_assoc, Nat.mul_add_div (Nat.two_pow_pos m), Nat.mul_assoc, Nat.mul_add_mod]
/-- One bit more: the quotient and the rest. -/
theorem div_step (X D b : Nat) (hD : 0 < D) (hb : b < 2) :
    (D ≤ 2 * (X % D) + b → (2 * X + b) / D = 2 * (X / D) + 1 ∧ (2 * X + b) % D = 2 * (X % D) + b - D) ∧
    (¬ D ≤ 2 * (X % D) + b → (2 * X + b) / D = 2 * (X / D) ∧ (2 * X + b) % D = 2 * (X % D) + b) := by
  have h := Nat.div_add_mod X D
  have hl := Nat.mod_lt X hD
  generalize X / D = q at *
  generalize X % D = r at *
  constructor
  · intro c
    have e : 2 * X + b = (2 * r + b - D) + D * (2 * q + 1) := by rw [Nat.mul_add, Nat.mul_left_comm]; omega
    rw [e, Nat.add_mul_div_left _ _ hD, Nat.add_mul_mod_self_left, Nat.div_eq_of_lt (by omega), Nat.mod_eq_of_lt (by omega)]
    omega
  · intro c
    have e : 2 * X + b = (2 * r + b) + D * (2 * q) := by rw [Nat.mul_left_comm]; omega
    rw [e, Nat.add_mul_div_left _ _ hD, Nat.add_mul_mod_self_left, Nat.div_eq_of_lt (by omega), Nat.mod_eq_of_lt (by omega)]
    omega
theorem half_step (N m : Nat) : N / 2 ^ m = 2 * (N / 2 ^ (m + 1)) + N / 2 ^ m % 2 := by
  rw [Nat.pow_succ, ← Nat.div_div_eq_div_mul]; omega
theorem Dv.take {N D m qh ql r : Nat} (hD : 0 < D) (d : Dv N D (m + 1) qh ql r) (h : D ≤ 2 * r + N / 2 ^ m % 2) :
    qh * 18446744073709551616 + ql + 2 ^ m = N / 2 ^ m / D * 2 ^ m ∧ 2 * r + N / 2 ^ m % 2 - D = N / 2 ^ m % D := by
  have s := (div_step (N / 2 ^ (m + 1)) D (N / 2 ^ m % 2) hD (Nat.mod_lt _ (by omega))).1
  rw [← d.rest, ← half_step] at s
  have s' := s h
  have q := d.quo
  refine ⟨?_, s'.2.symm⟩
  rw [q, s'.1, Nat.pow_succ, Nat.add_mul, Nat.mul_comm 2, Nat.mul_assoc, Nat.mul_comm (2 ^ m) 2, Nat.one_mul]
theorem Dv.leave {N D m qh ql r : Nat} (hD : 0 < D) (d : Dv N D (m + 1) qh ql r) (h : ¬ D ≤ 2 * r + N / 2 ^ m % 2) : Dv N D m qh ql (2 * r + N / 2 ^ m % 2) := by
  have s := (div_step (N / 2 ^ (m + 1)) D (N / 2 ^ m % 2) hD (Nat.mod_lt _ (by omega))).2
  rw [← d.rest, ← half_step] at s
  have s' := s h
  have q := d.quo
  refine ⟨?_, s'.2.symm, d.lo⟩
  rw [q, s'.1]
  generalize N / 2 ^ (m + 1) / D = X
  rw [Nat.pow_succ, Nat.mul_comm 2 X, Nat.mul_assoc, Nat.mul_comm (2 ^ m) 2]
theorem Dv.hi_lt {N D n qh ql r : Nat} (d : Dv N D n qh ql r) (hN : N < 18446744073709551616 * 18446744073709551616) : qh < 18446744073709551616 := by
  have q := d.quo
  have h1 : N / 2 ^ n / D * 2 ^ n ≤ N := Nat.le_trans (Nat.mul_le_mul_right _ (Nat.div_le_self _ _)) (Nat.div_mul_le_self _ _)
  omega
theorem Dv.dvd {N D n qh ql r : Nat} (d : Dv N D n qh ql r) : 2 ^ n ∣ qh * 18446744073709551616 + ql := ⟨N / 2 ^ n / D, by rw [d.quo, Nat.mul_comm]⟩
/-- The bit of the quotient that is set, in its half. -/
theorem set_high {N D m qh ql r : Nat} (d : Dv N D (m + 1) qh ql r) (hN : N < 18446744073709551616 * 18446744073709551616) (hm : 64 ≤ m) (hm2 : m < 128) :
    IntKind.u64.wrap ((2 : Int) ^ (m - 64)) = ((2 ^ (m - 64) : Nat) : Int) ∧ bits .or .u64 (qh : Int) ((2 ^ (m - 64) : Nat) : Int) = ((qh + 2 ^ (m - 64) : Nat) : Int) ∧
      (qh + 2 ^ (m - 64)) * 18446744073709551616 + ql = qh * 18446744073709551616 + ql + 2 ^ m := by
  have hp : 2 ^ (m - 64) ≤ 2 ^ 63 := Nat.pow_le_pow_right (by omega) (by omega)
  have hd := d.dvd
  have hlo := d.lo
  have h64 : 2 ^ (m + 1) = 18446744073709551616 * 2 ^ (m + 1 - 64) := two64 (m + 1) (by omega)
  have hq : 2 ^ (m - 64 + 1) ∣ qh := by
    rw [h64, show m + 1 - 64 = m - 64 + 1 by omega] at hd
    obtain ⟨k, hk⟩ := hd
    rw [Nat.mul_assoc] at hk
    refine ⟨k, ?_⟩
    omega
  refine ⟨?_, ?_, ?_⟩
  · rw [show ((2 : Int) ^ (m - 64)) = ((2 ^ (m - 64) : Nat) : Int) by push_cast; rfl]; exact wrapN _ (by omega)
  · rw [bits_or_u64_nat _ _ (d.hi_lt hN) (by omega), or_join (m - 64 + 1) _ _ hq (Nat.pow_lt_pow_right (by omega) (by omega))]
  · rw [two64 m hm, Nat.add_mul, Nat.mul_comm (2 ^ (m - 64))]; omega
theorem set_low {N D m qh ql r : Nat} (d : Dv N D (m + 1) qh ql r) (hm : m < 64) :
    IntKind.u64.wrap ((2 : Int) ^ m) = ((2 ^ m : Nat) : Int) ∧ bits .or .u64 (ql : Int) ((2 ^ m : Nat) : Int) = ((ql + 2 ^ m : Nat) : Int) ∧ ql + 2 ^ m < 18446744073709551616 := by
  have hp : 2 ^ m ≤ 2 ^ 63 := Nat.pow_le_pow_right (by omega) (by omega)
  have hd := d.dvd
  have hlo := d.lo
  have h64 := low64 m hm
  have hq : 2 ^ (m + 1) ∣ ql := by
    have h1 : 2 ^ (m + 1) ∣ qh * 18446744073709551616 := by
      rw [h64, ← Nat.mul_assoc (2 ^ m), ← Nat.pow_succ]
      exact ⟨qh * 2 ^ (63 - m), by rw [Nat.mul_left_comm]⟩
    exact (Nat.dvd_add_right h1).1 hd
  refine ⟨?_, ?_, ?_⟩
  · rw [show ((2 : Int) ^ m) = ((2 ^ m : Nat) : Int) by push_cast; rfl]; exact wrapN _ (by omega)
  · rw [bits_or_u64_nat _ _ hlo (by omega), or_join (m + 1) _ _ hq (Nat.pow_lt_pow_right (by omega) (by omega))]
  · obtain ⟨k, hk⟩ := hq
    have h2 : 2 ^ m * (2 * k) < 2 ^ m * (2 * 2 ^ (63 - m)) := by rw [← h64, ← Nat.mul_assoc, ← Nat.pow_succ, ← hk]; exact hlo
    have h3 := Nat.lt_of_mul_lt_mul_left h2
    have h4 := Nat.mul_le_mul_left (2 ^ m) (show 2 * k + 2 ≤ 2 * 2 ^ (63 - m) by omega)
    rw [← h64, Nat.mul_add, ← Nat.mul_assoc, ← Nat.pow_succ, ← hk] at h4
    omega
theorem mask1 (a : Nat) (ha : a < 18446744073709551616) : bits .and .u64 (a : Int) 1 = ((a % 2 : Nat) : Int) := by
  have h := bits_and_u64_nat a 1 ha (by omega)
  have e : a &&& 1 = a % 2 := Nat.and_two_pow_sub_one_eq_mod a 1
  rw [e] at h
  exact h
theorem or_bit1 (a b : Nat) (hb : b < 2) : bits .or .u64 ((a * 2 % 18446744073709551616 : Nat) : Int) (b : Int) = ((a * 2 % 18446744073709551616 + b : Nat) : Int) := by
  rw [bits_or_u64_nat _ _ (Nat.mod_lt _ (by omega)) (by omega), or_join 1 _ _ (by omega) (by omega)]
/-- What a round does to the rest, and which way it goes. -/
theorem rest_ways (r b D : Nat) (hb : b < 2) (hr : r < D) (hD : D < 18446744073709551616) :
    ∃ O R2 R3 : Nat, (r : Int) / 9223372036854775808 = (O : Int) ∧ IntKind.u64.wrap ((r : Int) * 2) = (R2 : Int) ∧ bits .or .u64 (R2 : Int) (b : Int) = (R3 : Int) ∧
      ((D ≤ 2 * r + b ∧ ∃ R4 : Nat, IntKind.u64.wrap ((R3 : Int) - (D : Int)) = (R4 : Int) ∧ R4 = 2 * r + b - D ∧ (((O : Int) == 1) = true ∨ (((O : Int) == 1) = false ∧ decide (D ≤ R3) = true))) ∨
       (¬ D ≤ 2 * r + b ∧ R3 = 2 * r + b ∧ ((O : Int) == 1) = false ∧ decide (D ≤ R3) = false)) := by
  refine ⟨r / 9223372036854775808, r * 2 % 18446744073709551616, r * 2 % 18446744073709551616 + b, by omega, ?_, or_bit1 r b hb, ?_⟩
  · rw [show ((r : Int) * 2) = ((r * 2 : Nat) : Int) by omega]; exact wrapM _
  · by_cases h : D ≤ 2 * r + b
    · refine Or.inl ⟨h, 2 * r + b - D, ?_, rfl, ?_⟩
      · rw [wrapU]; omega
      · by_cases c : r / 9223372036854775808 = 1
        · exact Or.inl (by rw [beq_iff_eq]; omega)
        · exact Or.inr ⟨by rw [beq_eq_false_iff_ne]; omega, decide_eq_true (by omega)⟩
    · exact Or.inr ⟨h, by omega, by rw [beq_eq_false_iff_ne]; omega, decide_eq_false (by omega)⟩
/-- The bit that a round reads. -/
theorem bit_read_high (hi lo m : Nat) (hhi : hi < 18446744073709551616) (hlo : lo < 18446744073709551616) (hm : 64 ≤ m) :
    bits .and .u64 ((hi : Int) / 2 ^ (m - 64)) 1 = (((hi * 18446744073709551616 + lo) / 2 ^ m % 2 : Nat) : Int) := by
  rw [bit_high hi lo m hlo hm, ← mask1 _ (Nat.lt_of_le_of_lt (Nat.div_le_self _ _) hhi)]
  push_cast; rfl
theorem bit_read_low (hi lo m : Nat) (hlo : lo < 18446744073709551616) (hm : m < 64) :
    bits .and .u64 ((lo : Int) / 2 ^ (m % 64)) 1 = (((hi * 18446744073709551616 + lo) / 2 ^ m % 2 : Nat) : Int) := by
  rw [bit_low hi lo m hm, ← mask1 _ (Nat.lt_of_le_of_lt (Nat.div_le_self _ _) hlo), Nat.mod_eq_of_lt hm]
  push_cast; rfl
theorem Dv.first (N D : Nat) (hN : N < 18446744073709551616 * 18446744073709551616) : Dv N D 128 0 0 0 := by
  have h : N / 2 ^ 128 = 0 := Nat.div_eq_of_lt (Nat.lt_of_lt_of_eq hN (by decide))
  exact ⟨by rw [h, Nat.zero_div, Nat.zero_mul], by rw [h, Nat.zero_mod], by decide⟩
end Go.Proofs.Ytkhaephmpifcmaa

namespace Go.Proofs.Ytkhaephmpifcmaa
open Go.RowKit
/-- What a round keeps: the halves that are read, those that are written, and all that was there. -/
structure Kept (hi lo qh ql : Nat) (w wr : World) : Prop where
  x0 : wr.cell? ⟨w.heap.size, 0, none⟩ = some (.int .u64 hi)
  x1 : wr.cell? ⟨w.heap.size, 1, none⟩ = some (.int .u64 lo)
  y0 : wr.cell? ⟨w.heap.size + 1 + 1, 0, none⟩ = some (.int .u64 qh)
  y1 : wr.cell? ⟨w.heap.size + 1 + 1, 1, none⟩ = some (.int .u64 ql)
  z0 : wr.frozen? ⟨w.heap.size + 1 + 1, 0, none⟩ = false
  z1 : wr.frozen? ⟨w.heap.size + 1 + 1, 1, none⟩ = false
  r0 : ∃ v, wr.cell? ⟨w.heap.size + 1, 0, none⟩ = some v
  r1 : ∃ v, wr.cell? ⟨w.heap.size + 1, 1, none⟩ = some v
  s0 : wr.frozen? ⟨w.heap.size + 1, 0, none⟩ = false
  s1 : wr.frozen? ⟨w.heap.size + 1, 1, none⟩ = false
  q : Q w wr
theorem Kept.high {hi lo qh ql : Nat} {w wr : World} (h : Kept hi lo qh ql w wr) (x : Nat) : Kept hi lo x ql w (wr.setCell ⟨w.heap.size + 1 + 1, 0, none⟩ (.int .u64 x)).drew := by
  have y0 := h.y0
  obtain ⟨v0, e0⟩ := h.r0
  obtain ⟨v1, e1⟩ := h.r1
  exact ⟨by simp [go_sem, h.x0], by simp [go_sem, h.x1], by simp [go_sem, h.y0], by simp [go_sem, h.y1], by simp [go_sem, h.z0], by simp [go_sem, h.z1], ⟨v0, by simp [go_sem, e0]⟩, ⟨v1, by simp [go_sem, e1]⟩, by simp [go_sem, h.s0], by simp [go_sem, h.s1], (h.q.setCell (by simp; omega) _).drew⟩
theorem Kept.low {hi lo qh ql : Nat} {w wr : World} (h : Kept hi lo qh ql w wr) (x : Nat) : Kept hi lo qh x w (wr.setCell ⟨w.heap.size + 1 + 1, 1, none⟩ (.int .u64 x)).drew := by
  have y1 := h.y1
  obtain ⟨v0, e0⟩ := h.r0
  obtain ⟨v1, e1⟩ := h.r1
  exact ⟨by simp [go_sem, h.x0], by simp [go_sem, h.x1], by simp [go_sem, h.y0], by simp [go_sem, h.y1], by simp [go_sem, h.z0], by simp [go_sem, h.z1], ⟨v0, by simp [go_sem, e0]⟩, ⟨v1, by simp [go_sem, e1]⟩, by simp [go_sem, h.s0], by simp [go_sem, h.s1], (h.q.setCell (by simp; omega) _).drew⟩
set_option maxRecDepth 100000 in
theorem divided_any (hi lo D : Nat) (hD : 0 < D) (hDl : D < 18446744073709551616) (hhi : hi < 18446744073709551616) (hlo : lo < 18446744073709551616) (w : World) :
    Calls Try.prog 80 #[.agg #[.int .u64 hi, .int .u64 lo], .int .u64 D] w fun e w' => (∃ qh ql : Nat, qh * 18446744073709551616 + ql = dq hi lo D ∧ ql < 18446744073709551616 ∧ e = .returned (.tuple #[.agg #[.int .u64 qh, .int .u64 ql], .bool (decide (0 < dr hi lo D))])) ∧ Q w w' := by
  have hN : hi * 18446744073709551616 + lo < 18446744073709551616 * 18446744073709551616 := by omega
  have D0 := Dv.first _ D hN
  go_enter Try.func80, Try.ntmps80
  go_wp2
  go_loopw [7, 8] (fun x y wr => ∃ n r qh ql : Nat, n ≤ 128 ∧ Dv (hi * 18446744073709551616 + lo) D n qh ql r ∧ x = .int .u64 r ∧ y = .int .i64 ((n : Int) - 1) ∧ Kept hi lo qh ql w wr) (fun _ y _ => (intOf y + 1).toNat)
  case atStart =>
    refine ⟨128, 0, 0, 0, Nat.le_refl _, D0, rfl, rfl, ?_⟩
    exact ⟨by simp [go_sem], by simp [go_sem], by simp [go_sem], by simp [go_sem], by simp [go_sem], by simp [go_sem], ⟨_, by simp [go_sem]; rfl⟩, ⟨_, by simp [go_sem]; rfl⟩, by simp [go_sem], by simp [go_sem], (((Q.refl w).alloc _ _).alloc _ _).alloc _ _⟩
  case round =>
    clear D0
    obtain ⟨n, r, qh, ql, hn, hd, rfl, rfl, hk⟩ := hrel
    cases n with
    | zero =>
      have y0 := hk.y0
      have y1 := hk.y1
      have s0 := hk.s0
      have s1 := hk.s1
      obtain ⟨v0, r0⟩ := hk.r0
      obtain ⟨v1, r1⟩ := hk.r1
      have e1 : ((0 : Nat) : Int) - 1 = -1 := by omega
      rw [e1]
      clear e1
      have hquo := hd.quo
      have hrest := hd.rest
      have hlo' := hd.lo
      rw [Nat.pow_zero, Nat.div_one, Nat.mul_one] at hquo
      rw [Nat.pow_zero, Nat.div_one] at hrest
      have HQ := Lib.hid hquo
      have hR0 : ((r : Int) != 0) = decide (0 < dr hi lo D) := by
        have : dr hi lo D = r := hrest.symm
        rw [this, Bool.eq_iff_iff]; simp; omega
      generalize hrb : decide (0 < dr hi lo D) = rb at *
      have Hrb := Lib.hid hrb
      clear hquo hrest hd hrb
      go_wp2
      refine bodyPost_ret (v := .tuple #[.agg #[.int .u64 qh, .int .u64 ql], .bool rb]) (by simp [results, Try.results80, go_sem, r0, r1]) rfl ⟨⟨qh, ql, HQ.out, hlo', by rw [Hrb.out]⟩, ?_⟩
      exact (hk.q.setCell (by simp) _).setCell (by simp) _
    | succ m =>
      have e1 : ((m + 1 : Nat) : Int) - 1 = (m : Int) := by omega
      rw [e1]
      clear e1
      have hrD : r < D := by rw [hd.rest]; exact Nat.mod_lt _ hD
      have hb2 : (hi * 18446744073709551616 + lo) / 2 ^ m % 2 < 2 := Nat.mod_lt _ (by omega)
      obtain ⟨O, R2, R3, o1, o2, o3, ways⟩ := rest_ways r _ D hb2 hrD hDl
      have y0 := hk.y0
      have z0 := hk.z0
      have y1 := hk.y1
      have z1 := hk.z1
      have x0 := hk.x0
      have x1 := hk.x1
      by_cases hm : 64 ≤ m
      · have hB : decide ((63 : Int) < (m : Int)) = true := decide_eq_true (by omega)
        have hbit := bit_read_high hi lo m hhi hlo hm
        rcases ways with ⟨c1, R4, c2, c3, c4⟩ | ⟨c1, c2, c3, c4⟩
        · obtain ⟨t1, t2, t3⟩ := set_high hd hN hm (by omega)
          have tk := hd.take hD c1
          rw [← t3, ← c3] at tk
          have hd' : Dv (hi * 18446744073709551616 + lo) D m (qh + 2 ^ (m - 64)) ql R4 := ⟨tk.1, tk.2, hd.lo⟩
          clear tk t3 c1 c3 hd
          generalize (hi * 18446744073709551616 + lo) / 2 ^ m % 2 = b at *
          generalize 2 ^ (m - 64) = T at *
          generalize qh + T = X at *
          rcases c4 with c4 | ⟨c4, c5⟩
          all_goals
            go_wp2
            go_region
            go_wp2
            go_roundw
            case rel => exact ⟨m, R4, X, ql, by omega, hd', rfl, rfl, hk.high X⟩
            case measure => simp [intOf]
        · have hd' := hd.leave hD c1
          rw [← c2] at hd'
          clear c1 c2 hd
          generalize (hi * 18446744073709551616 + lo) / 2 ^ m % 2 = b at *
          go_wp2
          go_roundw
          case rel => exact ⟨m, R3, qh, ql, by omega, hd', rfl, rfl, hk⟩
          case measure => simp [intOf]
      · have hB : decide ((63 : Int) < (m : Int)) = false := decide_eq_false (by omega)
        have hbit := bit_read_low hi lo m hlo (by omega)
        rcases ways with ⟨c1, R4, c2, c3, c4⟩ | ⟨c1, c2, c3, c4⟩
        · obtain ⟨t1, t2, t3⟩ := set_low hd (by omega)
          have tk := hd.take hD c1
          rw [← c3, Nat.add_assoc] at tk
          have hd' : Dv (hi * 18446744073709551616 + lo) D m qh (ql + 2 ^ m) R4 := ⟨tk.1, tk.2, t3⟩
          clear tk t3 c1 c3 hd
          generalize (hi * 18446744073709551616 + lo) / 2 ^ m % 2 = b at *
          generalize 2 ^ m = T at *
          generalize ql + T = X at *
          rcases c4 with c4 | ⟨c4, c5⟩
          all_goals
            go_wp2
            go_region
            go_wp2
            go_roundw
            case rel => exact ⟨m, R4, qh, X, by omega, hd', rfl, rfl, hk.low X⟩
            case measure => simp [intOf]
        · have hd' := hd.leave hD c1
          rw [← c2] at hd'
          clear c1 c2 hd
          generalize (hi * 18446744073709551616 + lo) / 2 ^ m % 2 = b at *
          go_wp2
          go_roundw
          case rel => exact ⟨m, R3, qh, ql, by omega, hd', rfl, rfl, hk⟩
          case measure => simp [intOf]
/-- The quotient's halves, and one more. -/
theorem up_one (qh ql : Nat) (h : ql < 18446744073709551616) (h2 : qh < 18446744073709551615) :
    (∃ l : Nat, IntKind.u64.wrap ((ql : Int) + 1) = (l : Int) ∧ ((l : Int) == 0) = false ∧ l < 18446744073709551616 ∧ qh * 18446744073709551616 + l = qh * 18446744073709551616 + ql + 1) ∨
    (∃ k : Nat, IntKind.u64.wrap ((ql : Int) + 1) = 0 ∧ IntKind.u64.wrap ((qh : Int) + 1) = (k : Int) ∧ k * 18446744073709551616 + 0 = qh * 18446744073709551616 + ql + 1) := by
  by_cases c : ql = 18446744073709551615
  · refine Or.inr ⟨qh + 1, ?_, ?_, by omega⟩
    · rw [wrapU]; omega
    · rw [wrapU]; omega
  · refine Or.inl ⟨ql + 1, ?_, ?_, by omega, by omega⟩
    · rw [wrapU]; omega
    · rw [beq_eq_false_iff_ne]; omega
/-- As a caller spells the halves. -/
theorem rsigned_int (x z : Int) (hi lo : Nat) (neg : Bool) (hx : x = (hi : Int)) (hz : z = (lo : Int)) (hlo : lo < 18446744073709551616) (v : Int) (hv : sg neg (hi * 18446744073709551616 + lo) = v) (w : World) :
    Calls Try.prog 84 #[.agg #[.int .u64 x, .int .u64 z], .bool neg] w fun e w' => e = .returned (.tuple #[.int .i64 (qv v), .bool (decide (I64 v))]) ∧ Q w w' := by
  subst hx hz hv
  exact rsigned_any hi lo neg hlo w
theorem rmuldiv_zero (a b : Int) (up : Bool) (w : World) :
    Calls Try.prog 79 #[.int .i64 a, .int .i64 b, .int .i64 0, .bool up] w fun e w' => e = .returned (.tuple #[.int .i64 0, .int .i64 22]) ∧ w = w' := by
  go_enter Try.func79, Try.ntmps79
  go_wp2
  go_ret2
  exact ⟨rfl, rfl⟩
set_option maxHeartbeats 1000000 in
theorem rmuldiv_any (a b y : Int) (up : Bool) (ha : I64 a) (hb : I64 b) (hy : I64 y) (w : World) :
    Calls Try.prog 79 #[.int .i64 a, .int .i64 b, .int .i64 y, .bool up] w fun e w' => e = .returned (.tuple #[.int .i64 (mv a b y up), .int .i64 (me a b y up)]) ∧ Q w w' := by
  by_cases h0 : y = 0
  · subst h0
    exact (rmuldiv_zero a b up w).mono fun _ _ h => ⟨by rw [h.1]; rfl, by rw [← h.2]; exact Q.refl _⟩
  · have em : mv a b y up = qv (mq a b y up) ∧ me a b y up = qe (mq a b y up) := ⟨if_neg h0, if_neg h0⟩
    rw [em.1, em.2, mq_eq a b y up h0]
    clear em
    have hne : (y == 0) = false := by simpa using h0
    have nbT : y < 0 → (decide (a < 0) == decide (b < 0)) = nb a b y := fun h => by unfold nb; rw [decide_eq_true h]; cases decide (a < 0) <;> cases decide (b < 0) <;> rfl
    have nbF : ¬ y < 0 → (decide (a < 0) == decide (b < 0)) = !nb a b y := fun h => by unfold nb; rw [decide_eq_false h]; cases decide (a < 0) <;> cases decide (b < 0) <;> rfl
    generalize nb a b y = neg at *
    have cA := fun w => amount_any a ha w
    have cB := fun w => amount_any b hb w
    have cY := fun w => amount_any y hy w
    have lA := (abs_lt a ha).1
    have lB := (abs_lt b hb).1
    have lY := (abs_lt y hy).1
    have pY : 0 < y.natAbs := by omega
    have lA2 := (abs_lt a ha).2
    have lB2 := (abs_lt b hb).2
    generalize a.natAbs = A at *
    generalize b.natAbs = B at *
    generalize y.natAbs = Y at *
    have cT := fun w => times_any A B lA lB w
    have lH : hi64 A B < 18446744073709551616 := by
      unfold hi64
      rw [Nat.div_lt_iff_lt_mul (by omega)]
      have := Nat.mul_le_mul (Nat.le_of_lt_succ lA) (Nat.le_of_lt_succ lB)
      omega
    have cD := fun w => divided_any (hi64 A B) (lo64 A B) Y pY lY lH (lo64_lt _ _) w
    have hh := halves A B
    have hprod : A * B ≤ 9223372036854775808 * 9223372036854775808 := Nat.mul_le_mul lA2 lB2
    have hdq : dq (hi64 A B) (lo64 A B) Y = A * B / Y := by unfold dq; rw [hh]
    have hdr : dr (hi64 A B) (lo64 A B) Y = A * B % Y := by unfold dr; rw [hh]
    rw [hdq, hdr] at cD
    generalize hi64 A B = H at *
    generalize lo64 A B = L at *
    clear hh hdq hdr lA lB lA2 lB2
    have hql : A * B / Y ≤ 9223372036854775808 * 9223372036854775808 := Nat.le_trans (Nat.div_le_self _ _) hprod
    unfold qu
    generalize A * B / Y = K at *
    generalize A * B % Y = R at *
    clear hprod ha hb hy h0
    have hys : (decide (y < 0) = true ∧ (decide (a < 0) == decide (b < 0)) = neg) ∨ (decide (y < 0) = false ∧ (decide (a < 0) == decide (b < 0)) = !neg) := by
      by_cases h : y < 0
      · exact Or.inl ⟨decide_eq_true h, nbT h⟩
      · exact Or.inr ⟨decide_eq_false h, nbF h⟩
    clear nbT nbF
    have ways : (decide (0 < R) = false ∧ (K + if (up != neg && decide (0 < R)) = true then 1 else 0) = K) ∨
        (decide (0 < R) = true ∧ neg = up ∧ (K + if (up != neg && decide (0 < R)) = true then 1 else 0) = K) ∨
        (decide (0 < R) = true ∧ neg = !up ∧ (K + if (up != neg && decide (0 < R)) = true then 1 else 0) = K + 1) := by
      by_cases hR : 0 < R
      · by_cases hu : neg = up
        · exact Or.inr (Or.inl ⟨decide_eq_true hR, hu, by rw [hu]; simp⟩)
        · have hn : neg = !up := by revert hu; cases up <;> cases neg <;> simp
          exact Or.inr (Or.inr ⟨decide_eq_true hR, hn, by rw [hn]; simp [hR]⟩)
      · exact Or.inl ⟨decide_eq_false hR, by simp [hR]⟩
    rcases ways with ⟨k1, k2⟩ | ⟨k1, k3, k2⟩ | ⟨k1, k3, k2⟩
    · rw [k2]
      rw [k1] at cD
      clear k1 k2
      have cG := fun w => told_qv (sg neg K) w
      generalize hv : sg neg K = v at *
      have Hv := Lib.hid hv
      clear hv
      rcases hys with ⟨j1, j2⟩ | ⟨j1, j2⟩
      all_goals
        go_enter Try.func79, Try.ntmps79
        go_wp2_with fail
        refine (cA _).mono ?_
        rintro e w1 ⟨rfl, rfl⟩
        go_wp2_with fail
        refine (cB _).mono ?_
        rintro e w1 ⟨rfl, rfl⟩
        go_wp2_with fail
        refine (cT _).mono ?_
        rintro e w1 ⟨rfl, q1⟩
        go_wp2_with fail
        refine (cY _).mono ?_
        rintro e w2 ⟨rfl, rfl⟩
        go_wp2_with fail
        refine (cD _).mono ?_
        rintro e w2 ⟨⟨qh, ql, u1, u2, rfl⟩, q2⟩
        have U1 := Lib.hid u1
        clear u1
        go_wp2_with fail
        refine (rsigned_int _ _ qh ql _ rfl rfl u2 v (by rw [U1.out]; exact Hv.out) _).mono ?_
        rintro e w3 ⟨rfl, q3⟩
        go_wp2_with fail
        refine (cG _).mono ?_
        rintro e w4 ⟨rfl, rfl⟩
        go_wp2
        go_ret2
        exact ⟨rfl, ((q1.trans q2).alloc _ _).trans q3⟩
    · rw [k2]
      rw [k1] at cD
      clear k1 k2
      subst k3
      have cG := fun w => told_qv (sg neg K) w
      generalize hv : sg neg K = v at *
      have Hv := Lib.hid hv
      clear hv
      cases neg
      all_goals
        rcases hys with ⟨j1, j2⟩ | ⟨j1, j2⟩
        all_goals
          go_enter Try.func79, Try.ntmps79
          go_wp2_with fail
          refine (cA _).mono ?_
          rintro e w1 ⟨rfl, rfl⟩
          go_wp2_with fail
          refine (cB _).mono ?_
          rintro e w1 ⟨rfl, rfl⟩
          go_wp2_with fail
          refine (cT _).mono ?_
          rintro e w1 ⟨rfl, q1⟩
          go_wp2_with fail
          refine (cY _).mono ?_
          rintro e w2 ⟨rfl, rfl⟩
          go_wp2_with fail
          refine (cD _).mono ?_
          rintro e w2 ⟨⟨qh, ql, u1, u2, rfl⟩, q2⟩
          have U1 := Lib.hid u1
          clear u1
          go_wp2_with fail
          refine (rsigned_int _ _ qh ql _ rfl rfl u2 v (by rw [U1.out]; exact Hv.out) _).mono ?_
          rintro e w3 ⟨rfl, q3⟩
          go_wp2_with fail
          refine (cG _).mono ?_
          rintro e w4 ⟨rfl, rfl⟩
          go_wp2
          go_ret2
          exact ⟨rfl, ((q1.trans q2).alloc _ _).trans q3⟩
    · rw [k2]
      rw [k1] at cD
      clear k1 k2
      have cG := fun w => told_qv (sg neg (K + 1)) w
      generalize hv : sg neg (K + 1) = v at *
      have Hv := Lib.hid hv
      clear hv
      subst k3
      cases up
      all_goals
        rcases hys with ⟨j1, j2⟩ | ⟨j1, j2⟩
        all_goals
          go_enter Try.func79, Try.ntmps79
          go_wp2_with fail
          refine (cA _).mono ?_
          rintro e w1 ⟨rfl, rfl⟩
          go_wp2_with fail
          refine (cB _).mono ?_
          rintro e w1 ⟨rfl, rfl⟩
          go_wp2_with fail
          refine (cT _).mono ?_
          rintro e w1 ⟨rfl, q1⟩
          go_wp2_with fail
          refine (cY _).mono ?_
          rintro e w2 ⟨rfl, rfl⟩
          go_wp2_with fail
          refine (cD _).mono ?_
          rintro e w2 ⟨⟨qh, ql, u1, u2, rfl⟩, q2⟩
          have ups := up_one qh ql u2 (by omega)
          have U1 := Lib.hid u1
          clear u1
          rcases ups with ⟨l, p1, p2, p3, p4⟩ | ⟨l, p1, p2, p3⟩
          · have P4 := Lib.hid p4
            clear p4
            go_wp2_with fail
            refine (rsigned_int _ _ qh l _ rfl rfl p3 v (by rw [P4.out, U1.out]; exact Hv.out) _).mono ?_
            rintro e w3 ⟨rfl, q3⟩
            go_wp2_with fail
            refine (cG _).mono ?_
            rintro e w4 ⟨rfl, rfl⟩
            go_wp2
            go_ret2
            exact ⟨rfl, ((q1.trans q2).alloc _ _).trans q3⟩
          · have P3 := Lib.hid p3
            clear p3
            go_wp2_with fail
            refine (rsigned_int _ _ l 0 _ rfl rfl (by omega) v (by rw [P3.out, U1.out]; exact Hv.out) _).mono ?_
            rintro e w3 ⟨rfl, q3⟩
            go_wp2_with fail
            refine (cG _).mono ?_
            rintro e w4 ⟨rfl, rfl⟩
            go_wp2
            go_ret2
            exact ⟨rfl, ((q1.trans q2).alloc _ _).trans q3⟩
end Go.Proofs.Ytkhaephmpifcmaa

namespace Go.Proofs.Ytkhaephmpifcmaa
open Go.RowKit
theorem straight_any (x0 x1 at_ h : Int) (up : Bool) (a0 : 0 ≤ x0) (b0 : x0 ≤ 20000) (a1 : 0 ≤ x1) (b1 : x1 ≤ 20000) (h0 : 0 ≤ at_) (h1 : at_ ≤ h) (hh : 1 ≤ h) (hI : I64 h) (w : World) :
    Calls Try.prog 75 #[.int .i64 x0, .int .i64 x1, .int .i64 at_, .int .i64 h, .bool up] w fun e w' => e = .returned (.int .i64 (sideM x0 x1 at_ h up)) ∧ Q w w' := by
  obtain ⟨f1, f2, f3, f4⟩ := side_fits a0 b0 a1 b1 h0 h1 hh up
  have c := fun w => rmuldiv_any (x1 - x0) at_ h up (by unfold I64; omega) (by unfold I64 at *; omega) hI w
  have e1 : IntKind.i64.wrap (x1 - x0) = x1 - x0 := wrapI (by omega) (by omega)
  unfold sideM at *
  generalize mv (x1 - x0) at_ h up = g at *
  generalize me (x1 - x0) at_ h up = g' at *
  have e2 : IntKind.i64.wrap (x0 + g) = x0 + g := wrapI (by omega) (by omega)
  clear f1 f2 f3 f4
  go_enter Try.func75, Try.ntmps75
  go_wp2_with fail
  refine (c _).mono ?_
  rintro e w1 ⟨rfl, h⟩
  go_wp2
  go_ret
  exact ⟨rfl, h⟩
set_option maxHeartbeats 4000000 in
theorem r3side_any (r : Bool) (h a0 b0 a1 b1 at_ : Int) (up : Bool) (w : World) (hI : Sec.I ⟨r, h, a0, b0, a1, b1⟩) (_hat : I64 at_) :
    Calls Try.prog 64 #[.agg #[.bool r, .int .i64 h, .int .i64 a0, .int .i64 b0, .int .i64 a1, .int .i64 b1], .int .i64 at_, .bool up] w fun e w' =>
      e = .returned (.tuple #[.int .i64 (sideOf ⟨r, h, a0, b0, a1, b1⟩ at_ up).1, .int .i64 (sideOf ⟨r, h, a0, b0, a1, b1⟩ at_ up).2]) ∧ Q w w' := by
  obtain ⟨i1, i2, i3, i4, i5⟩ := hI
  simp only at i1 i2 i3 i4 i5
  have c1 := fun w => in_any a0 0 20000 w
  have c2 := fun w => in_any a1 0 20000 w
  have c3 := fun w => in_any b0 0 20000 w
  have c4 := fun w => in_any b1 0 20000 w
  have hno : ¬ (1 ≤ h ∧ inB a0 0 20000 = true ∧ inB a1 0 20000 = true ∧ inB b0 0 20000 = true ∧ inB b1 0 20000 = true) → sideOf ⟨r, h, a0, b0, a1, b1⟩ at_ up = (0, 0) := fun c => if_neg c
  by_cases hh : h < 1
  · have hB : decide (h < 1) = true := decide_eq_true hh
    rw [hno (fun x => by omega)]
    clear hno
    go_enter Try.func64, Try.ntmps64
    go_wp2
    go_ret2
    exact ⟨rfl, (Q.refl w).alloc _ _⟩
  have hB : decide (h < 1) = false := decide_eq_false hh
  have ways1 : inB a0 0 20000 = false ∨ inB a0 0 20000 = true := by cases inB a0 0 20000 <;> simp
  rcases ways1 with q1 | q1
  · rw [hno (fun x => by have y := x.2; simp [q1] at y)]
    rw [q1] at c1
    clear hno
    go_enter Try.func64, Try.ntmps64
    go_wp2_with fail
    refine (c1 _).mono ?_
    rintro e w1 ⟨rfl, rfl⟩
    go_wp2
    go_ret2
    exact ⟨rfl, (Q.refl w).alloc _ _⟩
  rw [q1] at c1
  have ways2 : inB a1 0 20000 = false ∨ inB a1 0 20000 = true := by cases inB a1 0 20000 <;> simp
  rcases ways2 with q2 | q2
  · rw [hno (fun x => by have y := x.2; simp [q2] at y)]
    rw [q2] at c2
    clear hno
    go_enter Try.func64, Try.ntmps64
    go_wp2_with fail
    refine (c1 _).mono ?_
    rintro e w1 ⟨rfl, rfl⟩
    go_wp2_with fail
    refine (c2 _).mono ?_
    rintro e w1 ⟨rfl, rfl⟩
    go_wp2
    go_ret2
    exact ⟨rfl, (Q.refl w).alloc _ _⟩
  rw [q2] at c2
  have ways3 : inB b0 0 20000 = false ∨ inB b0 0 20000 = true := by cases inB b0 0 20000 <;> simp
  rcases ways3 with q3 | q3
  · rw [hno (fun x => by have y := x.2; simp [q3] at y)]
    rw [q3] at c3
    clear hno
    go_enter Try.func64, Try.ntmps64
    go_wp2_with fail
    refine (c1 _).mono ?_
    rintro e w1 ⟨rfl, rfl⟩
    go_wp2_with fail
    refine (c2 _).mono ?_
    rintro e w1 ⟨rfl, rfl⟩
    go_wp2_with fail
    refine (c3 _).mono ?_
    rintro e w1 ⟨rfl, rfl⟩
    go_wp2
    go_ret2
    exact ⟨rfl, (Q.refl w).alloc _ _⟩
  rw [q3] at c3
  have ways4 : inB b1 0 20000 = false ∨ inB b1 0 20000 = true := by cases inB b1 0 20000 <;> simp
  rcases ways4 with q4 | q4
  · rw [hno (fun x => by have y := x.2; simp [q4] at y)]
    rw [q4] at c4
    clear hno
    go_enter Try.func64, Try.ntmps64
    go_wp2_with fail
    refine (c1 _).mono ?_
    rintro e w1 ⟨rfl, rfl⟩
    go_wp2_with fail
    refine (c2 _).mono ?_
    rintro e w1 ⟨rfl, rfl⟩
    go_wp2_with fail
    refine (c3 _).mono ?_
    rintro e w1 ⟨rfl, rfl⟩
    go_wp2_with fail
    refine (c4 _).mono ?_
    rintro e w1 ⟨rfl, rfl⟩
    go_wp2
    go_ret2
    exact ⟨rfl, (Q.refl w).alloc _ _⟩
  rw [q4] at c4
  have e : sideOf ⟨r, h, a0, b0, a1, b1⟩ at_ up = (sideM a0 a1 (min (max at_ 0) h) h up, if r then 0 else sideM b0 b1 (min (max at_ 0) h) h up) := if_pos ⟨by simp only; omega, q1, q2, q3, q4⟩
  rw [e]
  clear e hno
  rw [inB_iff] at q1 q2 q3 q4
  obtain ⟨p, hp⟩ : ∃ p, max at_ 0 = p := ⟨_, rfl⟩
  obtain ⟨q, hq⟩ : ∃ q, min p h = q := ⟨_, rfl⟩
  rw [hp, hq]
  have d1 := fun w => straight_any a0 a1 q h up q1.1 q1.2 q2.1 q2.2 (by omega) (by omega) (by omega) i1 w
  have d2 := fun w => straight_any b0 b1 q h up q3.1 q3.2 q4.1 q4.2 (by omega) (by omega) (by omega) i1 w
  generalize sideM a0 a1 q h up = A at *
  generalize sideM b0 b1 q h up = D at *
  clear q1 q2 q3 q4 i1 i2 i3 i4 i5 _hat hh
  cases r
  · go_enter Try.func64, Try.ntmps64
    go_wp2_with fail
    refine (c1 _).mono ?_
    rintro e w1 ⟨rfl, rfl⟩
    go_wp2_with fail
    refine (c2 _).mono ?_
    rintro e w1 ⟨rfl, rfl⟩
    go_wp2_with fail
    refine (c3 _).mono ?_
    rintro e w1 ⟨rfl, rfl⟩
    go_wp2_with fail
    refine (c4 _).mono ?_
    rintro e w1 ⟨rfl, rfl⟩
    go_wp2_with fail
    have g := Q.refl (w.alloc (.cells #[.bool false, .int .i64 h, .int .i64 a0, .int .i64 b0, .int .i64 a1, .int .i64 b1] 91))
    have g0 := (Q.refl w).alloc #[.bool false, .int .i64 h, .int .i64 a0, .int .i64 b0, .int .i64 a1, .int .i64 b1] 91
    have z0 : (w.alloc (.cells #[.bool false, .int .i64 h, .int .i64 a0, .int .i64 b0, .int .i64 a1, .int .i64 b1] 91)).cell? ⟨w.heap.size, 0, none⟩ = some (.bool false) := by simp [go_sem]
    have z1 : (w.alloc (.cells #[.bool false, .int .i64 h, .int .i64 a0, .int .i64 b0, .int .i64 a1, .int .i64 b1] 91)).cell? ⟨w.heap.size, 1, none⟩ = some (.int .i64 h) := by simp [go_sem]
    have z2 : (w.alloc (.cells #[.bool false, .int .i64 h, .int .i64 a0, .int .i64 b0, .int .i64 a1, .int .i64 b1] 91)).cell? ⟨w.heap.size, 2, none⟩ = some (.int .i64 a0) := by simp [go_sem]
    have z3 : (w.alloc (.cells #[.bool false, .int .i64 h, .int .i64 a0, .int .i64 b0, .int .i64 a1, .int .i64 b1] 91)).cell? ⟨w.heap.size, 3, none⟩ = some (.int .i64 b0) := by simp [go_sem]
    have z4 : (w.alloc (.cells #[.bool false, .int .i64 h, .int .i64 a0, .int .i64 b0, .int .i64 a1, .int .i64 b1] 91)).cell? ⟨w.heap.size, 4, none⟩ = some (.int .i64 a1) := by simp [go_sem]
    have z5 : (w.alloc (.cells #[.bool false, .int .i64 h, .int .i64 a0, .int .i64 b0, .int .i64 a1, .int .i64 b1] 91)).cell? ⟨w.heap.size, 5, none⟩ = some (.int .i64 b1) := by simp [go_sem]
    generalize w.alloc (.cells #[.bool false, .int .i64 h, .int .i64 a0, .int .i64 b0, .int .i64 a1, .int .i64 b1] 91) = WW at *
    obtain ⟨BB, hBB⟩ : ∃ BB, w.heap.size = BB := ⟨_, rfl⟩
    rw [hBB] at z0 z1 z2 z3 z4 z5
    try rw [hBB]
    refine wp_region_noPanic ?_
    refine wp_region_seq (S := fun w' => w'.cell? ⟨BB, 0, none⟩ = some (.bool false) ∧ w'.cell? ⟨BB, 1, none⟩ = some (.int .i64 h) ∧ w'.cell? ⟨BB, 2, none⟩ = some (.int .i64 a0) ∧ w'.cell? ⟨BB, 3, none⟩ = some (.int .i64 b0) ∧ w'.cell? ⟨BB, 4, none⟩ = some (.int .i64 a1) ∧ w'.cell? ⟨BB, 5, none⟩ = some (.int .i64 b1) ∧ Q WW w') [(0, 0), (1, 0), (2, 0), (3, 0), (4, 0), (5, 0), (6, 0), (7, 0), (9, 0), (10, 0), (11, 0), (12, 0), (13, 0), (14, 0), (15, 0), (16, 0), (8, 2), (17, 2), (18, 0), (19, 0)] [0, 1, 0, 4, 0, 0, 32, 0, 218, 0, 512, 0, 2048, 0, 0, 16384, 0, 111872, 131583, 524287] [0, 1, 0, 4, 0, 0, 32, 0, 218, 0, 512, 0, 2048, 0, 0, 16384, 0, 111616, 256, 131072] (by kernel_rfl) (by kernel_rfl) (fun _ _ _ _ _ h => h) ?_ (fun hH => ?_)
    · exact ⟨by simp [go_sem, z0], by simp [go_sem, z1], by simp [go_sem, z2], by simp [go_sem, z3], by simp [go_sem, z4], by simp [go_sem, z5], g.drew⟩
    refine wpSeq_take (d := 42) (v := ?_) rfl rfl (by kernel_rfl) (fun w hS => ?_) ?_
    rotate_left
    · go_simp <;> with_reducible rfl
    dsimp only [List.set_cons_zero, List.set_cons_succ]
    refine wpSeq_take (d := 43) (v := ?_) rfl rfl (by kernel_rfl) (fun w hS => ?_) ?_
    rotate_left
    · go_simp <;> with_reducible rfl
    dsimp only [List.set_cons_zero, List.set_cons_succ]
    refine wpSeq_take (d := 44) (v := ?_) rfl rfl (by kernel_rfl) (fun w hS => ?_) ?_
    rotate_left
    · go_simp <;> with_reducible rfl
    dsimp only [List.set_cons_zero, List.set_cons_succ]
    refine wpSeq_take (d := 45) (v := ?_) rfl rfl (by kernel_rfl) (fun w hS => ?_) ?_
    rotate_left
    · go_simp <;> with_reducible rfl
    dsimp only [List.set_cons_zero, List.set_cons_succ]
    refine wpSeq_take (d := 46) (v := ?_) rfl rfl (by kernel_rfl) (fun w hS => ?_) ?_
    rotate_left
    · go_simp <;> with_reducible rfl
    dsimp only [List.set_cons_zero, List.set_cons_succ]
    refine wpSeq_take (d := 47) (v := ?_) rfl rfl (by kernel_rfl) (fun w hS => ?_) ?_
    rotate_left
    · go_simp <;> with_reducible rfl
    dsimp only [List.set_cons_zero, List.set_cons_succ]
    refine wpSeq_take (d := 48) (v := ?_) rfl rfl (by kernel_rfl) (fun w hS => ?_) ?_
    rotate_left
    · go_simp <;> with_reducible rfl
    dsimp only [List.set_cons_zero, List.set_cons_succ]
    refine wpSeq_take (d := 49) (v := ?_) rfl rfl (by kernel_rfl) (fun w hS => ?_) ?_
    rotate_left
    · go_simp <;> with_reducible rfl
    dsimp only [List.set_cons_zero, List.set_cons_succ]
    refine wpSeq_take (d := 51) (v := ?_) rfl rfl (by kernel_rfl) (fun w hS => ?_) ?_
    rotate_left
    · go_simp <;> with_reducible rfl
    dsimp only [List.set_cons_zero, List.set_cons_succ]
    refine wpSeq_take (d := 52) (v := ?_) rfl rfl (by kernel_rfl) (fun w hS => ?_) ?_
    rotate_left
    · go_simp <;> with_reducible rfl
    dsimp only [List.set_cons_zero, List.set_cons_succ]
    refine wpSeq_take (d := 53) (v := ?_) rfl rfl (by kernel_rfl) (fun w hS => ?_) ?_
    rotate_left
    · go_simp <;> with_reducible rfl
    dsimp only [List.set_cons_zero, List.set_cons_succ]
    refine wpSeq_take (d := 54) (v := ?_) rfl rfl (by kernel_rfl) (fun w hS => ?_) ?_
    rotate_left
    · go_simp <;> with_reducible rfl
    dsimp only [List.set_cons_zero, List.set_cons_succ]
    refine wpSeq_take (d := 55) (v := ?_) rfl rfl (by kernel_rfl) (fun w hS => ?_) ?_
    rotate_left
    · go_simp <;> with_reducible rfl
    dsimp only [List.set_cons_zero, List.set_cons_succ]
    refine wpSeq_take (d := 56) (v := ?_) rfl rfl (by kernel_rfl) (fun w hS => ?_) ?_
    rotate_left
    · go_simp <;> with_reducible rfl
    dsimp only [List.set_cons_zero, List.set_cons_succ]
    refine wpSeq_take (d := 57) (v := ?_) rfl rfl (by kernel_rfl) (fun w hS => ?_) ?_
    rotate_left
    · go_simp <;> with_reducible rfl
    dsimp only [List.set_cons_zero, List.set_cons_succ]
    refine wpSeq_take (d := 58) (v := ?_) rfl rfl (by kernel_rfl) (fun w hS => ?_) ?_
    rotate_left
    · go_simp <;> with_reducible rfl
    dsimp only [List.set_cons_zero, List.set_cons_succ]
    refine wpSeq_call rfl (by kernel_rfl) (fun K hK => ?_)
    go_simp
    (with_reducible refine (d1 _).mono ?_)
    rintro e w' ⟨rfl, hq⟩
    refine hK.out _ _ ?_ (fun hH => ?_)
    · exact ⟨hq.keep hH.1, hq.keep hH.2.1, hq.keep hH.2.2.1, hq.keep hH.2.2.2.1, hq.keep hH.2.2.2.2.1, hq.keep hH.2.2.2.2.2.1, hH.2.2.2.2.2.2.trans hq⟩
    clear hK
    refine wpSeq_call rfl (by kernel_rfl) (fun K hK => ?_)
    go_simp
    (with_reducible refine (d2 _).mono ?_)
    rintro e w' ⟨rfl, hq⟩
    refine hK.out _ _ ?_ (fun hH => ?_)
    · exact ⟨hq.keep hH.1, hq.keep hH.2.1, hq.keep hH.2.2.1, hq.keep hH.2.2.2.1, hq.keep hH.2.2.2.2.1, hq.keep hH.2.2.2.2.2.1, hH.2.2.2.2.2.2.trans hq⟩
    clear hK
    refine wpSeq_take (d := 8) (v := ?_) rfl rfl (by kernel_rfl) (fun w hS => ?_) ?_
    rotate_left
    · go_simp <;> with_reducible rfl
    dsimp only [List.set_cons_zero, List.set_cons_succ]
    refine wpSeq_take (d := 9) (v := ?_) rfl rfl (by kernel_rfl) (fun w hS => ?_) ?_
    rotate_left
    · go_simp <;> with_reducible rfl
    dsimp only [List.set_cons_zero, List.set_cons_succ]
    refine wpSeq_done ?_
    refine NoPanic.normal ?_
    obtain ⟨z0, z1, z2, z3, z4, z5, g1⟩ := hH
    go_wp2
    go_ret2
    exact ⟨by simp, g0.trans g1⟩
  · go_enter Try.func64, Try.ntmps64
    go_wp2_with fail
    refine (c1 _).mono ?_
    rintro e w1 ⟨rfl, rfl⟩
    go_wp2_with fail
    refine (c2 _).mono ?_
    rintro e w1 ⟨rfl, rfl⟩
    go_wp2_with fail
    refine (c3 _).mono ?_
    rintro e w1 ⟨rfl, rfl⟩
    go_wp2_with fail
    refine (c4 _).mono ?_
    rintro e w1 ⟨rfl, rfl⟩
    go_wp2_with fail
    have g := Q.refl (w.alloc (.cells #[.bool true, .int .i64 h, .int .i64 a0, .int .i64 b0, .int .i64 a1, .int .i64 b1] 91))
    have g0 := (Q.refl w).alloc #[.bool true, .int .i64 h, .int .i64 a0, .int .i64 b0, .int .i64 a1, .int .i64 b1] 91
    have z0 : (w.alloc (.cells #[.bool true, .int .i64 h, .int .i64 a0, .int .i64 b0, .int .i64 a1, .int .i64 b1] 91)).cell? ⟨w.heap.size, 0, none⟩ = some (.bool true) := by simp [go_sem]
    have z1 : (w.alloc (.cells #[.bool true, .int .i64 h, .int .i64 a0, .int .i64 b0, .int .i64 a1, .int .i64 b1] 91)).cell? ⟨w.heap.size, 1, none⟩ = some (.int .i64 h) := by simp [go_sem]
    have z2 : (w.alloc (.cells #[.bool true, .int .i64 h, .int .i64 a0, .int .i64 b0, .int .i64 a1, .int .i64 b1] 91)).cell? ⟨w.heap.size, 2, none⟩ = some (.int .i64 a0) := by simp [go_sem]
    have z3 : (w.alloc (.cells #[.bool true, .int .i64 h, .int .i64 a0, .int .i64 b0, .int .i64 a1, .int .i64 b1] 91)).cell? ⟨w.heap.size, 3, none⟩ = some (.int .i64 b0) := by simp [go_sem]
    have z4 : (w.alloc (.cells #[.bool true, .int .i64 h, .int .i64 a0, .int .i64 b0, .int .i64 a1, .int .i64 b1] 91)).cell? ⟨w.heap.size, 4, none⟩ = some (.int .i64 a1) := by simp [go_sem]
    have z5 : (w.alloc (.cells #[.bool true, .int .i64 h, .int .i64 a0, .int .i64 b0, .int .i64 a1, .int .i64 b1] 91)).cell? ⟨w.heap.size, 5, none⟩ = some (.int .i64 b1) := by simp [go_sem]
    generalize w.alloc (.cells #[.bool true, .int .i64 h, .int .i64 a0, .int .i64 b0, .int .i64 a1, .int .i64 b1] 91) = WW at *
    obtain ⟨BB, hBB⟩ : ∃ BB, w.heap.size = BB := ⟨_, rfl⟩
    rw [hBB] at z0 z1 z2 z3 z4 z5
    try rw [hBB]
    refine wp_region_noPanic ?_
    refine wp_region_seq (S := fun w' => w'.cell? ⟨BB, 0, none⟩ = some (.bool true) ∧ w'.cell? ⟨BB, 1, none⟩ = some (.int .i64 h) ∧ w'.cell? ⟨BB, 2, none⟩ = some (.int .i64 a0) ∧ w'.cell? ⟨BB, 3, none⟩ = some (.int .i64 b0) ∧ w'.cell? ⟨BB, 4, none⟩ = some (.int .i64 a1) ∧ w'.cell? ⟨BB, 5, none⟩ = some (.int .i64 b1) ∧ Q WW w') [(0, 0), (1, 0), (2, 0), (3, 0), (4, 0), (5, 0), (6, 0), (7, 0), (9, 0), (10, 0), (11, 0), (12, 0), (13, 0), (14, 0), (15, 0), (16, 0), (8, 2), (17, 2), (18, 0), (19, 0)] [0, 1, 0, 4, 0, 0, 32, 0, 218, 0, 512, 0, 2048, 0, 0, 16384, 0, 111872, 131583, 524287] [0, 1, 0, 4, 0, 0, 32, 0, 218, 0, 512, 0, 2048, 0, 0, 16384, 0, 111616, 256, 131072] (by kernel_rfl) (by kernel_rfl) (fun _ _ _ _ _ h => h) ?_ (fun hH => ?_)
    · exact ⟨by simp [go_sem, z0], by simp [go_sem, z1], by simp [go_sem, z2], by simp [go_sem, z3], by simp [go_sem, z4], by simp [go_sem, z5], g.drew⟩
    refine wpSeq_take (d := 42) (v := ?_) rfl rfl (by kernel_rfl) (fun w hS => ?_) ?_
    rotate_left
    · go_simp <;> with_reducible rfl
    dsimp only [List.set_cons_zero, List.set_cons_succ]
    refine wpSeq_take (d := 43) (v := ?_) rfl rfl (by kernel_rfl) (fun w hS => ?_) ?_
    rotate_left
    · go_simp <;> with_reducible rfl
    dsimp only [List.set_cons_zero, List.set_cons_succ]
    refine wpSeq_take (d := 44) (v := ?_) rfl rfl (by kernel_rfl) (fun w hS => ?_) ?_
    rotate_left
    · go_simp <;> with_reducible rfl
    dsimp only [List.set_cons_zero, List.set_cons_succ]
    refine wpSeq_take (d := 45) (v := ?_) rfl rfl (by kernel_rfl) (fun w hS => ?_) ?_
    rotate_left
    · go_simp <;> with_reducible rfl
    dsimp only [List.set_cons_zero, List.set_cons_succ]
    refine wpSeq_take (d := 46) (v := ?_) rfl rfl (by kernel_rfl) (fun w hS => ?_) ?_
    rotate_left
    · go_simp <;> with_reducible rfl
    dsimp only [List.set_cons_zero, List.set_cons_succ]
    refine wpSeq_take (d := 47) (v := ?_) rfl rfl (by kernel_rfl) (fun w hS => ?_) ?_
    rotate_left
    · go_simp <;> with_reducible rfl
    dsimp only [List.set_cons_zero, List.set_cons_succ]
    refine wpSeq_take (d := 48) (v := ?_) rfl rfl (by kernel_rfl) (fun w hS => ?_) ?_
    rotate_left
    · go_simp <;> with_reducible rfl
    dsimp only [List.set_cons_zero, List.set_cons_succ]
    refine wpSeq_take (d := 49) (v := ?_) rfl rfl (by kernel_rfl) (fun w hS => ?_) ?_
    rotate_left
    · go_simp <;> with_reducible rfl
    dsimp only [List.set_cons_zero, List.set_cons_succ]
    refine wpSeq_take (d := 51) (v := ?_) rfl rfl (by kernel_rfl) (fun w hS => ?_) ?_
    rotate_left
    · go_simp <;> with_reducible rfl
    dsimp only [List.set_cons_zero, List.set_cons_succ]
    refine wpSeq_take (d := 52) (v := ?_) rfl rfl (by kernel_rfl) (fun w hS => ?_) ?_
    rotate_left
    · go_simp <;> with_reducible rfl
    dsimp only [List.set_cons_zero, List.set_cons_succ]
    refine wpSeq_take (d := 53) (v := ?_) rfl rfl (by kernel_rfl) (fun w hS => ?_) ?_
    rotate_left
    · go_simp <;> with_reducible rfl
    dsimp only [List.set_cons_zero, List.set_cons_succ]
    refine wpSeq_take (d := 54) (v := ?_) rfl rfl (by kernel_rfl) (fun w hS => ?_) ?_
    rotate_left
    · go_simp <;> with_reducible rfl
    dsimp only [List.set_cons_zero, List.set_cons_succ]
    refine wpSeq_take (d := 55) (v := ?_) rfl rfl (by kernel_rfl) (fun w hS => ?_) ?_
    rotate_left
    · go_simp <;> with_reducible rfl
    dsimp only [List.set_cons_zero, List.set_cons_succ]
    refine wpSeq_take (d := 56) (v := ?_) rfl rfl (by kernel_rfl) (fun w hS => ?_) ?_
    rotate_left
    · go_simp <;> with_reducible rfl
    dsimp only [List.set_cons_zero, List.set_cons_succ]
    refine wpSeq_take (d := 57) (v := ?_) rfl rfl (by kernel_rfl) (fun w hS => ?_) ?_
    rotate_left
    · go_simp <;> with_reducible rfl
    dsimp only [List.set_cons_zero, List.set_cons_succ]
    refine wpSeq_take (d := 58) (v := ?_) rfl rfl (by kernel_rfl) (fun w hS => ?_) ?_
    rotate_left
    · go_simp <;> with_reducible rfl
    dsimp only [List.set_cons_zero, List.set_cons_succ]
    refine wpSeq_call rfl (by kernel_rfl) (fun K hK => ?_)
    go_simp
    (with_reducible refine (d1 _).mono ?_)
    rintro e w' ⟨rfl, hq⟩
    refine hK.out _ _ ?_ (fun hH => ?_)
    · exact ⟨hq.keep hH.1, hq.keep hH.2.1, hq.keep hH.2.2.1, hq.keep hH.2.2.2.1, hq.keep hH.2.2.2.2.1, hq.keep hH.2.2.2.2.2.1, hH.2.2.2.2.2.2.trans hq⟩
    clear hK
    refine wpSeq_call rfl (by kernel_rfl) (fun K hK => ?_)
    go_simp
    (with_reducible refine (d2 _).mono ?_)
    rintro e w' ⟨rfl, hq⟩
    refine hK.out _ _ ?_ (fun hH => ?_)
    · exact ⟨hq.keep hH.1, hq.keep hH.2.1, hq.keep hH.2.2.1, hq.keep hH.2.2.2.1, hq.keep hH.2.2.2.2.1, hq.keep hH.2.2.2.2.2.1, hH.2.2.2.2.2.2.trans hq⟩
    clear hK
    refine wpSeq_take (d := 8) (v := ?_) rfl rfl (by kernel_rfl) (fun w hS => ?_) ?_
    rotate_left
    · go_simp <;> with_reducible rfl
    dsimp only [List.set_cons_zero, List.set_cons_succ]
    refine wpSeq_take (d := 9) (v := ?_) rfl rfl (by kernel_rfl) (fun w hS => ?_) ?_
    rotate_left
    · go_simp <;> with_reducible rfl
    dsimp only [List.set_cons_zero, List.set_cons_succ]
    refine wpSeq_done ?_
    refine NoPanic.normal ?_
    obtain ⟨z0, z1, z2, z3, z4, z5, g1⟩ := hH
    go_wp2
    go_ret2
    exact ⟨by simp, g0.trans g1⟩
end Go.Proofs.Ytkhaephmpifcmaa

namespace Go.Proofs.Ytkhaephmpifcmaa
open Go.RowKit
theorem r3area_any (r : Bool) (a b : Int) (up : Bool) (h0 : 0 ≤ a) (h1 : a ≤ 20000) (h2 : 0 ≤ b) (h3 : b ≤ 20000) (w : World) :
    Calls Try.prog 65 #[.bool r, .int .i64 a, .int .i64 b, .bool up] w fun e w' => e = .returned (.int .i64 (areaM r a b up)) ∧ w = w' := by
  have hm := mul_le h0 h1 h2 h3
  have hp := Int.mul_nonneg h0 h2
  have hs := mul_le h0 h1 h0 h1
  have hq := Int.mul_nonneg h0 h0
  unfold areaM
  cases r
  · have e1 : IntKind.i64.wrap (a * b) = a * b := wrapI (by omega) (by omega)
    go_enter Try.func65, Try.ntmps65
    go_wp2
    go_ret
    exact ⟨by simp, rfl⟩
  · obtain ⟨A, hA⟩ : ∃ A, a * a = A := ⟨_, rfl⟩
    rw [hA] at hs hq ⊢
    have e0 : IntKind.i64.wrap (a * a) = A := by rw [hA]; exact wrapI (by omega) (by omega)
    cases up
    · have e1 : IntKind.i64.wrap (A * 333) = A * 333 := wrapI (by omega) (by omega)
      have e2 : (A * 333).tdiv 424 = A * 333 / 424 := Int.tdiv_eq_ediv_of_nonneg (by omega)
      have e3 : IntKind.i64.wrap (A * 333 / 424) = A * 333 / 424 := wrapI (by omega) (by omega)
      generalize A * 333 / 424 = X at *
      clear hA hs hq hm hp
      go_enter Try.func65, Try.ntmps65
      go_wp2
      go_ret
      exact ⟨by simp, rfl⟩
    · have e1 : IntKind.i64.wrap (A * 355) = A * 355 := wrapI (by omega) (by omega)
      have e4 : IntKind.i64.wrap (A * 355 + 451) = A * 355 + 451 := wrapI (by omega) (by omega)
      have e2 : (A * 355 + 451).tdiv 452 = (A * 355 + 451) / 452 := Int.tdiv_eq_ediv_of_nonneg (by omega)
      have e3 : IntKind.i64.wrap ((A * 355 + 451) / 452) = (A * 355 + 451) / 452 := wrapI (by omega) (by omega)
      generalize (A * 355 + 451) / 452 = X at *
      clear hA hs hq hm hp
      go_enter Try.func65, Try.ntmps65
      go_wp2
      go_ret
      exact ⟨by simp, rfl⟩
end Go.Proofs.Ytkhaephmpifcmaa
