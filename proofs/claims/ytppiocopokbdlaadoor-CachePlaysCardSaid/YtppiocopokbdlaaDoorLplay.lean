/-
  The statements' help: a shape that may be asked; Arguments opened: a slice of sections; The document's own tables: how many slices; upper sums; The document's own Same; Layer 6: what a long play keeps: shapes that were seen, tables that were told for them; The statements' shapes: in new memory; Layer 6: two tables' pointers, held against one another; Layer 6: a new cache; what it was asked, what it made; Layer 6: the code's Table, as the statements use it; Layer 6: what the statements' help 'known' answers; Each shape has one table, made once, whatever is asked in whatever order.
-/
import Derived.Test.YtppiocopokbdlaaDoorChecked
import Derived.Test.YtppiocopokbdlaaDoorSec
import Derived.ProofKit
import Derived.OpenShut
import Derived.Deep.Slices
import Derived.ChangeArms
import Derived.Test.YtppiocopokbdlaaDoorR3ofs
import Derived.Test.YtppiocopokbdlaaDoorReg
import Derived.Test.YtppiocopokbdlaaDoorCachem
import Derived.Laws.OwnMore
import Derived.OwnWalk
import Derived.Test.YtppiocopokbdlaaDoorSeat1
import Derived.LaidEqlPtr
import Derived.Test.YtppiocopokbdlaaDoorSync
import Derived.Carry
import Derived.Test.YtppiocopokbdlaaDoorCtab
import Derived.Test.YtppiocopokbdlaaDoorTabsh
namespace Go.Proofs.YtppiocopokbdlaaDoor
open Go.RowKit

theorem light_any (v : Value) (l : List Sec) (w : World) (hv : IsSecs w v l) (b : Bool) (hb : decide ((l.length : Int) ≤ 6) = b) :
    Calls Tryd.prog 7 #[v] w fun e w' => e = .returned (.bool b) ∧ w = w' := by
  obtain ⟨va, vc, rfl⟩ : ∃ va vc, v = .slice va l.length vc := by
    rcases hv with ⟨rfl, rfl⟩ | ⟨b, cb, rfl, _⟩
    · exact ⟨_, _, rfl⟩
    · exact ⟨_, _, rfl⟩
  clear hv
  go_enter Tryd.func7, Tryd.ntmps7
  go_wp2
  go_ret
  exact ⟨rfl, rfl⟩
end Go.Proofs.YtppiocopokbdlaaDoor

namespace Go.Proofs.YtppiocopokbdlaaDoor
open Go.RowKit Go.ChangeShapes Go.WideShapes Go.ChangeAt Go.Deep

set_option maxRecDepth 100000 in
theorem sec_open {H : Type} {enc : TypeId × Value → H} {W : World} {base : Nat} {sp : Nat → Bool} {held : Bool} {fuel : Nat} {cs : List Value} {x : DataW H × List MemPlace}
    (h : DataW.trod enc Tryd.prog W base sp held fuel 47 cs = some x) : ∃ s : Sec, s.I ∧ cs = s.cells := by
  obtain ⟨xs, n, _, _, hl, hlen, hf⟩ := DataW.trod_struct Tryd.underlying47 h
  rw [show Tryd.prog.cellsOf 47 = 6 by kernel_rfl] at hl
  have c1 : Tryd.prog.cellsOf 2 = 1 := by kernel_rfl
  have c0 : Tryd.prog.cellsOf 4 = 1 := by kernel_rfl
  match xs, hlen, cs, hl with
  | [x0, x1, x2, x3, x4, x5], _, [v0, v1, v2, v3, v4, v5], _ =>
    have f0 : DataW.trod enc Tryd.prog W base sp held n 4 (([v0, v1, v2, v3, v4, v5].drop 0).take (Tryd.prog.cellsOf 4)) = some x0 := hf 0 _ rfl
    have f1 : DataW.trod enc Tryd.prog W base sp held n 2 (([v0, v1, v2, v3, v4, v5].drop 1).take (Tryd.prog.cellsOf 2)) = some x1 := hf 1 _ rfl
    have f2 : DataW.trod enc Tryd.prog W base sp held n 2 (([v0, v1, v2, v3, v4, v5].drop 2).take (Tryd.prog.cellsOf 2)) = some x2 := hf 2 _ rfl
    have f3 : DataW.trod enc Tryd.prog W base sp held n 2 (([v0, v1, v2, v3, v4, v5].drop 3).take (Tryd.prog.cellsOf 2)) = some x3 := hf 3 _ rfl
    have f4 : DataW.trod enc Tryd.prog W base sp held n 2 (([v0, v1, v2, v3, v4, v5].drop 4).take (Tryd.prog.cellsOf 2)) = some x4 := hf 4 _ rfl
    have f5 : DataW.trod enc Tryd.prog W base sp held n 2 (([v0, v1, v2, v3, v4, v5].drop 5).take (Tryd.prog.cellsOf 2)) = some x5 := hf 5 _ rfl
    rw [c0] at f0
    rw [c1] at f1 f2 f3 f4 f5
    obtain ⟨r, e0, _⟩ := DataW.trod_bool Tryd.underlying4 f0
    obtain ⟨a1, e1, _, w1⟩ := DataW.trod_int Tryd.underlying2 f1
    obtain ⟨a2, e2, _, w2⟩ := DataW.trod_int Tryd.underlying2 f2
    obtain ⟨a3, e3, _, w3⟩ := DataW.trod_int Tryd.underlying2 f3
    obtain ⟨a4, e4, _, w4⟩ := DataW.trod_int Tryd.underlying2 f4
    obtain ⟨a5, e5, _, w5⟩ := DataW.trod_int Tryd.underlying2 f5
    simp at e0 e1 e2 e3 e4 e5
    subst e0 e1 e2 e3 e4 e5
    exact ⟨⟨r, a1, a2, a3, a4, a5⟩, ⟨i64_wf w1, i64_wf w2, i64_wf w3, i64_wf w4, i64_wf w5⟩, rfl⟩

set_option maxRecDepth 100000 in
theorem open_secs {H : Type} {enc : TypeId × Value → H} {W : World} {base b0 : Nat} {sp : Nat → Bool} {held : Bool} {r : Reach} {v : Value} {d : DataW H} {p : List MemPlace}
    (hv : Value.okWide Tryd.prog W r b0 23 v) (h : DataW.Trod enc Tryd.prog W base sp held 23 v d p) : ∃ l, IsSecs W v l := by
  obtain ⟨o, len, cap, rfl⟩ := okWide_slice Tryd.underlying23 hv
  obtain ⟨fuel, hf⟩ := h
  rcases open_slice Tryd.underlying23 hf with ⟨hcs, _⟩ | ⟨a, ln, cp, m, n, D, Pl, hcs, _, hl, hm, hmm, _, hx⟩
  · simp [Value.cells] at hcs
    obtain ⟨rfl, rfl, rfl⟩ := hcs
    exact ⟨[], .inl ⟨rfl, rfl⟩⟩
  · simp [Value.cells] at hcs
    obtain ⟨rfl, rfl, rfl⟩ := hcs
    rw [show Tryd.prog.cellsOf 47 = 6 by kernel_rfl] at hx
    have hle : len ≤ m := by rw [hmm]; split <;> omega
    obtain ⟨S, hS⟩ := choose_lt (α := Sec) (n := len) (p := fun i s => s.I ∧ ∀ j, j < 6 → W.cell? ((a.add (i * 6)).add j) = s.cells[j]?) (fun i hi => by
      obtain ⟨cs', h1, h2⟩ := hx i (by omega)
      obtain ⟨s, hI, rfl⟩ := sec_open h2
      obtain ⟨_, _, h3⟩ := World.cells?_some h1
      exact ⟨s, hI, h3⟩)
    refine ⟨(List.range len).map S, .inr ⟨a, cap, by simp, by simpa using hl, hm, fun i s hs => ?_⟩⟩
    have hi : i < len := by
      have := (List.getElem?_eq_some_iff.1 hs).1
      simpa using this
    have e : s = S i := by
      rw [List.getElem?_map, List.getElem?_range hi] at hs
      simpa using hs.symm
    subst e
    obtain ⟨hI, hc⟩ := hS i hi
    refine ⟨hI, ?_⟩
    generalize a.add (i * 6) = q at *
    have g0 := hc 0 (by omega)
    have g1 := hc 1 (by omega)
    have g2 := hc 2 (by omega)
    have g3 := hc 3 (by omega)
    have g4 := hc 4 (by omega)
    have g5 := hc 5 (by omega)
    simp [Addr.add, Sec.cells] at g0 g1 g2 g3 g4 g5
    exact ⟨g0, g1, g2, g3, g4, g5⟩
end Go.Proofs.YtppiocopokbdlaaDoor

namespace Go.Proofs.YtppiocopokbdlaaDoor
open Go.RowKit

theorem r3slices_any (p : Value) (L : List (Int × Int)) (hb : L.length ≤ 600) (w : World) (ht : RTab w p L) :
    Calls Tryd.prog 16 #[p] w fun e w' => e = .returned (.int .i64 L.length) ∧ w = w' := by
  obtain ⟨b, aL, cL, aH, cH, rfl, h1, h2, h3, h4⟩ := ht
  clear h2 h3 h4
  obtain ⟨N, hN⟩ : ∃ N, L.length = N := ⟨_, rfl⟩
  rw [hN] at h1 hb ⊢
  have w2 : IntKind.i64.wrap (N : Int) = (N : Int) := wrapI (by omega) (by omega)
  go_enter Tryd.func16, Tryd.ntmps16
  go_wp2
  go_ret
  exact ⟨rfl, rfl⟩
theorem r3near_any (p : Value) (L : List (Int × Int)) (hb : L.length ≤ 600) (i : Int) (w : World) (ht : RTab w p L) :
    Calls Tryd.prog 33 #[p, .int .i64 i] w fun e w' => e = .returned (.int .i64 (nearI L.length i : Int)) ∧ w = w' := by
  have c := r3slices_any p L hb w ht
  have e1 := nearI_eq L.length i
  obtain ⟨b, aL, cL, aH, cH, rfl, _⟩ := ht
  obtain ⟨m, e2⟩ : ∃ m, max i 0 = m := ⟨_, rfl⟩
  rw [e2] at e1
  generalize nearI L.length i = n at *
  go_enter Tryd.func33, Tryd.ntmps33
  go_wp2_with fail
  refine c.mono ?_
  rintro e w1 ⟨rfl, rfl⟩
  go_wp2
  go_ret
  exact ⟨rfl, rfl⟩

theorem r3high_any (p : Value) (L : List (Int × Int)) (hb : L.length ≤ 600) (i : Int) (w : World) (ht : RTab w p L) :
    Calls Tryd.prog 18 #[p, .int .i64 i] w fun e w' => e = .returned (.int .i64 (highT L (nearI L.length i))) ∧ Dr w w' := by
  have htt := ht
  obtain ⟨b, aL, cL, aH, cH, rfl, h1, h2, h3, h4⟩ := ht
  have c := fun w ht => r3near_any (.pointer (some ⟨b, 0, none⟩)) L hb i w ht
  have hn := nearI_le L.length i
  have hc := h2
  have hx := h4 _ hn
  have hnI : (nearI L.length i : Int) < (L.length : Int) + 1 := by omega
  clear h1 h2 h3 h4
  generalize highT L (nearI L.length i) = X at *
  generalize nearI L.length i = n at *
  obtain ⟨N, hN⟩ : ∃ N, L.length = N := ⟨_, rfl⟩
  rw [hN] at hc hn hnI
  go_enter Tryd.func18, Tryd.ntmps18
  go_wp2_with fail
  refine wp_region_noPanic ?_
  refine wp_region_seq (S := fun w' => w'.cell? ⟨b, 1, none⟩ = some (.slice (some aH) (N + 1) cH) ∧ w'.cell? (aH.add n) = some (.int .i64 X) ∧ RTab w' (.pointer (some ⟨b, 0, none⟩)) L ∧ Dr w w') [(0, 0), (1, 0), (2, 0), (3, 0), (4, 0), (5, 0), (6, 2), (7, 0), (8, 0), (9, 0)] [0, 1, 2, 4, 0, 0, 48, 72, 128, 511] [0, 1, 2, 4, 0, 0, 48, 72, 128, 256] (by kernel_rfl) (by kernel_rfl) (fun _ _ _ _ _ h => h) ?_ (fun hH => ?_)
  · exact ⟨by simp [go_sem, hc], by simp [go_sem, hx], htt.keepB (B.refl w).drew, ⟨1, rfl⟩⟩
  refine wpSeq_take (d := 5) (v := ?_) rfl rfl (by kernel_rfl) (fun w hS => ?_) ?_
  rotate_left
  · go_simp <;> with_reducible rfl
  dsimp only [List.set_cons_zero, List.set_cons_succ]
  refine wpSeq_take (d := 6) (v := ?_) rfl rfl (by kernel_rfl) (fun w hS => ?_) ?_
  rotate_left
  · go_simp <;> with_reducible rfl
  dsimp only [List.set_cons_zero, List.set_cons_succ]
  refine wpSeq_take (d := 7) (v := ?_) rfl rfl (by kernel_rfl) (fun w hS => ?_) ?_
  rotate_left
  · go_simp <;> with_reducible rfl
  dsimp only [List.set_cons_zero, List.set_cons_succ]
  refine wpSeq_take (d := 8) (v := ?_) rfl rfl (by kernel_rfl) (fun w hS => ?_) ?_
  rotate_left
  · go_simp <;> with_reducible rfl
  dsimp only [List.set_cons_zero, List.set_cons_succ]
  refine wpSeq_take (d := 9) (v := ?_) rfl rfl (by kernel_rfl) (fun w hS => ?_) ?_
  rotate_left
  · go_simp <;> with_reducible rfl
  dsimp only [List.set_cons_zero, List.set_cons_succ]
  refine wpSeq_take (d := 10) (v := ?_) rfl rfl (by kernel_rfl) (fun w hS => ?_) ?_
  rotate_left
  · go_simp <;> with_reducible rfl
  dsimp only [List.set_cons_zero, List.set_cons_succ]
  refine wpSeq_call rfl (by kernel_rfl) (fun K hK => ?_)
  go_simp
  (with_reducible refine (c _ hH.2.2.1).mono ?_)
  rintro e w' ⟨rfl, rfl⟩
  refine hK.out _ _ hH (fun hH => ?_)
  clear hK
  refine wpSeq_take (d := 12) (v := ?_) rfl rfl (by kernel_rfl) (fun w hS => ?_) ?_
  rotate_left
  · go_simp <;> with_reducible rfl
  dsimp only [List.set_cons_zero, List.set_cons_succ]
  refine wpSeq_take (d := 13) (v := ?_) rfl rfl (by kernel_rfl) (fun w hS => ?_) ?_
  rotate_left
  · go_simp <;> with_reducible rfl
  dsimp only [List.set_cons_zero, List.set_cons_succ]
  refine wpSeq_take (d := 4) (v := ?_) rfl rfl (by kernel_rfl) (fun w hS => ?_) ?_
  rotate_left
  · go_simp <;> with_reducible rfl
  dsimp only [List.set_cons_zero, List.set_cons_succ]
  refine wpSeq_done ?_
  refine NoPanic.normal ?_
  obtain ⟨_, _, _, hd⟩ := hH
  go_wp2
  go_ret
  exact ⟨rfl, hd⟩
end Go.Proofs.YtppiocopokbdlaaDoor

namespace Go.Proofs.YtppiocopokbdlaaDoor
open Go.RowKit

theorem take_same {l m : List Sec} (h : ∀ i, i < l.length → l[i]? = m[i]?) (hl : l.length = m.length) : l = m := by
  refine List.ext_getElem? fun i => ?_
  by_cases c : i < l.length
  · exact h i c
  · rw [List.getElem?_eq_none (by omega), List.getElem?_eq_none (by omega)]

theorem r3same_row (a b : Addr) (ca cb : Nat) (l m : List Sec) (ha : ca ≤ maxLen) (ha2 : l.length ≤ ca) (w : World)
    (h4 : ∀ i s, l[i]? = some s → s.I ∧ SecAt w (a.add (i * 6)) s) (k4 : ∀ i s, m[i]? = some s → s.I ∧ SecAt w (b.add (i * 6)) s) (hlm : l.length = m.length) :
    Calls Tryd.prog 13 #[.slice (some a) l.length ca, .slice (some b) m.length cb] w fun e w' => e = .returned (.bool (decide (l = m))) ∧ Q w w' := by
  unfold maxLen at ha
  have h5 : l.length ≤ 2 ^ 63 - 1 := Nat.le_trans ha2 ha
  clear ha ha2
  have hlm' : ((l.length : Int) != (m.length : Int)) = false := by simp; omega
  go_enter Tryd.func13, Tryd.ntmps13
  go_wp2_with fail
  go_loopw [5] (fun i wr => ∃ k : Nat, k ≤ l.length ∧ i = .int .i64 k ∧ (∀ j, j < k → l[j]? = m[j]?) ∧ Q w wr) (fun i _ => l.length - (intOf i).toNat)
  case atStart => exact ⟨0, Nat.zero_le _, rfl, by omega, Q.refl _⟩
  case round =>
    obtain ⟨k, hk, rfl, hj, hq⟩ := hrel
    by_cases hl : k < l.length
    · have hl2 : k < m.length := by omega
      have hlB : decide (k < l.length) = true := decide_eq_true hl
      have b1 : (k : Int) < (l.length : Int) := by omega
      have b2 : (k : Int) < (m.length : Int) := by omega
      have g1 := List.getElem?_eq_getElem hl
      have g2 := List.getElem?_eq_getElem hl2
      have s1 := (h4 k _ g1).2.keep hq
      have s2 := (k4 k _ g2).2.keep hq
      generalize l[k] = s at *
      generalize m[k] = t at *
      obtain ⟨r, h, a0, b0, a1, b1⟩ := s
      obtain ⟨r', h', a0', b0', a1', b1'⟩ := t
      obtain ⟨x0, x1, x2, x3, x4, x5⟩ := s1
      obtain ⟨y0, y1, y2, y3, y4, y5⟩ := s2
      simp only at x0 x1 x2 x3 x4 x5 y0 y1 y2 y3 y4 y5
      have HJ := Lib.hid hj
      have HG := Lib.hid (And.intro g1 g2)
      clear hj g1 g2 h4 k4 hlm
      by_cases he : r = r' ∧ h = h' ∧ a0 = a0' ∧ b0 = b0' ∧ a1 = a1' ∧ b1 = b1'
      · obtain ⟨rfl, rfl, rfl, rfl, rfl, rfl⟩ := he
        go_wp2_with fail
        refine wp_region_noPanic ?_
        refine wp_region_seq (S := fun w' => w'.cell? (a.add (k * 6)) = some (.bool r) ∧ w'.cell? ⟨(a.add (k * 6)).block, (a.add (k * 6)).off + 1, none⟩ = some (.int .i64 h) ∧ w'.cell? ⟨(a.add (k * 6)).block, (a.add (k * 6)).off + 2, none⟩ = some (.int .i64 a0) ∧ w'.cell? ⟨(a.add (k * 6)).block, (a.add (k * 6)).off + 3, none⟩ = some (.int .i64 b0) ∧ w'.cell? ⟨(a.add (k * 6)).block, (a.add (k * 6)).off + 4, none⟩ = some (.int .i64 a1) ∧ w'.cell? ⟨(a.add (k * 6)).block, (a.add (k * 6)).off + 5, none⟩ = some (.int .i64 b1) ∧ w'.cell? (b.add (k * 6)) = some (.bool r) ∧ w'.cell? ⟨(b.add (k * 6)).block, (b.add (k * 6)).off + 1, none⟩ = some (.int .i64 h) ∧ w'.cell? ⟨(b.add (k * 6)).block, (b.add (k * 6)).off + 2, none⟩ = some (.int .i64 a0) ∧ w'.cell? ⟨(b.add (k * 6)).block, (b.add (k * 6)).off + 3, none⟩ = some (.int .i64 b0) ∧ w'.cell? ⟨(b.add (k * 6)).block, (b.add (k * 6)).off + 4, none⟩ = some (.int .i64 a1) ∧ w'.cell? ⟨(b.add (k * 6)).block, (b.add (k * 6)).off + 5, none⟩ = some (.int .i64 b1) ∧ Q w w') [(0, 0), (1, 0), (2, 0), (3, 0), (4, 0), (5, 0), (6, 0), (7, 0), (8, 0)] [0, 0, 3, 4, 0, 0, 48, 64, 136] [0, 0, 3, 4, 0, 0, 48, 64, 136] (by kernel_rfl) (by kernel_rfl) (fun _ _ _ _ _ h => h) ?_ (fun hH => ?_)
        · exact ⟨by simp [go_sem, x0], by simp [go_sem, x1], by simp [go_sem, x2], by simp [go_sem, x3], by simp [go_sem, x4], by simp [go_sem, x5], by simp [go_sem, y0], by simp [go_sem, y1], by simp [go_sem, y2], by simp [go_sem, y3], by simp [go_sem, y4], by simp [go_sem, y5], hq.drew⟩
        refine wpSeq_take (d := 17) (v := ?_) rfl rfl (by kernel_rfl) (fun w hS => ?_) ?_
        rotate_left
        · go_simp <;> with_reducible rfl
        dsimp only [List.set_cons_zero, List.set_cons_succ]
        refine wpSeq_take (d := 18) (v := ?_) rfl rfl (by kernel_rfl) (fun w hS => ?_) ?_
        rotate_left
        · go_simp <;> with_reducible rfl
        dsimp only [List.set_cons_zero, List.set_cons_succ]
        refine wpSeq_take (d := 19) (v := ?_) rfl rfl (by kernel_rfl) (fun w hS => ?_) ?_
        rotate_left
        · go_simp <;> with_reducible rfl
        dsimp only [List.set_cons_zero, List.set_cons_succ]
        refine wpSeq_take (d := 20) (v := ?_) rfl rfl (by kernel_rfl) (fun w hS => ?_) ?_
        rotate_left
        · go_simp <;> with_reducible rfl
        dsimp only [List.set_cons_zero, List.set_cons_succ]
        refine wpSeq_take (d := 21) (v := ?_) rfl rfl (by kernel_rfl) (fun w hS => ?_) ?_
        rotate_left
        · go_simp <;> with_reducible rfl
        dsimp only [List.set_cons_zero, List.set_cons_succ]
        refine wpSeq_take (d := 22) (v := ?_) rfl rfl (by kernel_rfl) (fun w hS => ?_) ?_
        rotate_left
        · go_simp <;> with_reducible rfl
        dsimp only [List.set_cons_zero, List.set_cons_succ]
        refine wpSeq_take (d := 23) (v := ?_) rfl rfl (by kernel_rfl) (fun w hS => ?_) ?_
        rotate_left
        · go_simp <;> with_reducible rfl
        dsimp only [List.set_cons_zero, List.set_cons_succ]
        refine wpSeq_take (d := 24) (v := ?_) rfl rfl (by kernel_rfl) (fun w hS => ?_) ?_
        rotate_left
        · go_simp <;> with_reducible rfl
        dsimp only [List.set_cons_zero, List.set_cons_succ]
        refine wpSeq_take (d := 25) (v := ?_) rfl rfl (by kernel_rfl) (fun w hS => ?_) ?_
        rotate_left
        · go_simp <;> with_reducible rfl
        dsimp only [List.set_cons_zero, List.set_cons_succ]
        refine wpSeq_done ?_
        refine NoPanic.normal ?_
        clear hH
        go_wp2
        go_roundw
        case rel =>
          refine ⟨k + 1, by omega, by go_num, ?_, hq.drew⟩
          intro j hj
          by_cases e : j = k
          · subst e; rw [HG.out.1, HG.out.2]
          · exact HJ.out j (by omega)
        case measure => simp [intOf]; omega
      · have HN : Hid (decide (l = m) = false) := Lib.hid (decide_eq_false (fun e => he (by
          have h1 := HG.out.1
          rw [e, HG.out.2] at h1
          simpa [eq_comm] using h1)))
        have HE := Lib.hid he
        clear he
        go_wp2_with fail
        refine wp_region_noPanic ?_
        refine wp_region_seq (S := fun w' => w'.cell? (a.add (k * 6)) = some (.bool r) ∧ w'.cell? ⟨(a.add (k * 6)).block, (a.add (k * 6)).off + 1, none⟩ = some (.int .i64 h) ∧ w'.cell? ⟨(a.add (k * 6)).block, (a.add (k * 6)).off + 2, none⟩ = some (.int .i64 a0) ∧ w'.cell? ⟨(a.add (k * 6)).block, (a.add (k * 6)).off + 3, none⟩ = some (.int .i64 b0) ∧ w'.cell? ⟨(a.add (k * 6)).block, (a.add (k * 6)).off + 4, none⟩ = some (.int .i64 a1) ∧ w'.cell? ⟨(a.add (k * 6)).block, (a.add (k * 6)).off + 5, none⟩ = some (.int .i64 b1) ∧ w'.cell? (b.add (k * 6)) = some (.bool r') ∧ w'.cell? ⟨(b.add (k * 6)).block, (b.add (k * 6)).off + 1, none⟩ = some (.int .i64 h') ∧ w'.cell? ⟨(b.add (k * 6)).block, (b.add (k * 6)).off + 2, none⟩ = some (.int .i64 a0') ∧ w'.cell? ⟨(b.add (k * 6)).block, (b.add (k * 6)).off + 3, none⟩ = some (.int .i64 b0') ∧ w'.cell? ⟨(b.add (k * 6)).block, (b.add (k * 6)).off + 4, none⟩ = some (.int .i64 a1') ∧ w'.cell? ⟨(b.add (k * 6)).block, (b.add (k * 6)).off + 5, none⟩ = some (.int .i64 b1') ∧ Q w w') [(0, 0), (1, 0), (2, 0), (3, 0), (4, 0), (5, 0), (6, 0), (7, 0), (8, 0)] [0, 0, 3, 4, 0, 0, 48, 64, 136] [0, 0, 3, 4, 0, 0, 48, 64, 136] (by kernel_rfl) (by kernel_rfl) (fun _ _ _ _ _ h => h) ?_ (fun hH => ?_)
        · exact ⟨by simp [go_sem, x0], by simp [go_sem, x1], by simp [go_sem, x2], by simp [go_sem, x3], by simp [go_sem, x4], by simp [go_sem, x5], by simp [go_sem, y0], by simp [go_sem, y1], by simp [go_sem, y2], by simp [go_sem, y3], by simp [go_sem, y4], by simp [go_sem, y5], hq.drew⟩
        refine wpSeq_take (d := 17) (v := ?_) rfl rfl (by kernel_rfl) (fun w hS => ?_) ?_
        rotate_left
        · go_simp <;> with_reducible rfl
        dsimp only [List.set_cons_zero, List.set_cons_succ]
        refine wpSeq_take (d := 18) (v := ?_) rfl rfl (by kernel_rfl) (fun w hS => ?_) ?_
        rotate_left
        · go_simp <;> with_reducible rfl
        dsimp only [List.set_cons_zero, List.set_cons_succ]
        refine wpSeq_take (d := 19) (v := ?_) rfl rfl (by kernel_rfl) (fun w hS => ?_) ?_
        rotate_left
        · go_simp <;> with_reducible rfl
        dsimp only [List.set_cons_zero, List.set_cons_succ]
        refine wpSeq_take (d := 20) (v := ?_) rfl rfl (by kernel_rfl) (fun w hS => ?_) ?_
        rotate_left
        · go_simp <;> with_reducible rfl
        dsimp only [List.set_cons_zero, List.set_cons_succ]
        refine wpSeq_take (d := 21) (v := ?_) rfl rfl (by kernel_rfl) (fun w hS => ?_) ?_
        rotate_left
        · go_simp <;> with_reducible rfl
        dsimp only [List.set_cons_zero, List.set_cons_succ]
        refine wpSeq_take (d := 22) (v := ?_) rfl rfl (by kernel_rfl) (fun w hS => ?_) ?_
        rotate_left
        · go_simp <;> with_reducible rfl
        dsimp only [List.set_cons_zero, List.set_cons_succ]
        refine wpSeq_take (d := 23) (v := ?_) rfl rfl (by kernel_rfl) (fun w hS => ?_) ?_
        rotate_left
        · go_simp <;> with_reducible rfl
        dsimp only [List.set_cons_zero, List.set_cons_succ]
        refine wpSeq_take (d := 24) (v := ?_) rfl rfl (by kernel_rfl) (fun w hS => ?_) ?_
        rotate_left
        · go_simp <;> with_reducible rfl
        dsimp only [List.set_cons_zero, List.set_cons_succ]
        refine wpSeq_take (d := 25) (v := .bool true) rfl rfl (by kernel_rfl) (fun w hS => ?_) ?_
        · (have he := HE.out; go_simp; exact fun e0 e1 e2 e3 e4 e5 => he ⟨e0, e1, e2, e3, e4, e5⟩)
        dsimp only [List.set_cons_zero, List.set_cons_succ]
        refine wpSeq_done ?_
        refine NoPanic.normal ?_
        clear hH
        go_wp2
        go_ret
        exact ⟨by rw [HN.out]; rfl, hq.drew⟩
    · have hlB : decide (k < l.length) = false := decide_eq_false hl
      obtain rfl : k = l.length := by omega
      have HE : Hid (decide (l = m) = true) := Lib.hid (decide_eq_true (take_same hj hlm))
      clear h4 k4 hj
      go_wp2
      go_ret
      exact ⟨by rw [HE.out]; rfl, hq⟩

theorem r3same_any (v u : Value) (l m : List Sec) (w : World) (hv : IsSecs w v l) (hu : IsSecs w u m) :
    Calls Tryd.prog 13 #[v, u] w fun e w' => e = .returned (.bool (decide (l = m))) ∧ Q w w' := by
  by_cases hlm : l.length = m.length
  · rcases hv with ⟨rfl, rfl⟩ | ⟨a, ca, rfl, h2, h3, h4⟩
    · have hm : m = [] := List.eq_nil_of_length_eq_zero (by simpa using hlm.symm)
      subst hm
      obtain ⟨ub, uc, rfl⟩ : ∃ ub uc, u = .slice ub 0 uc := by
        rcases hu with ⟨rfl, _⟩ | ⟨b, cb, rfl, _⟩
        · exact ⟨_, _, rfl⟩
        · exact ⟨_, _, rfl⟩
      clear hu hlm
      go_enter Tryd.func13, Tryd.ntmps13
      go_wp2
      go_loop [5] (fun i => i = .int .i64 0) (fun _ => 0)
      case atStart => exact rfl
      case round =>
        obtain rfl := hrel
        go_wp2
        go_ret
        exact ⟨rfl, Q.refl w⟩
    · rcases hu with ⟨rfl, rfl⟩ | ⟨b, cb, rfl, k2, k3, k4⟩
      · have hl : l = [] := List.eq_nil_of_length_eq_zero (by simpa using hlm)
        subst hl
        clear h4 hlm
        go_enter Tryd.func13, Tryd.ntmps13
        go_wp2
        go_loop [5] (fun i => i = .int .i64 0) (fun _ => 0)
        case atStart => exact rfl
        case round =>
          obtain rfl := hrel
          go_wp2
          go_ret
          exact ⟨rfl, Q.refl w⟩
      · exact r3same_row a b ca cb l m h3 h2 w h4 k4 hlm
  · have hne : ((l.length : Int) != (m.length : Int)) = true := by simp; omega
    have HD : Hid (decide (l = m) = false) := Lib.hid (decide_eq_false (fun e => hlm (by rw [e])))
    obtain ⟨va, vc, rfl⟩ : ∃ va vc, v = .slice va l.length vc := by
      rcases hv with ⟨rfl, rfl⟩ | ⟨b, cb, rfl, _⟩
      · exact ⟨_, _, rfl⟩
      · exact ⟨_, _, rfl⟩
    obtain ⟨ua, uc, rfl⟩ : ∃ ua uc, u = .slice ua m.length uc := by
      rcases hu with ⟨rfl, rfl⟩ | ⟨b, cb, rfl, _⟩
      · exact ⟨_, _, rfl⟩
      · exact ⟨_, _, rfl⟩
    clear hv hu hlm
    go_enter Tryd.func13, Tryd.ntmps13
    go_wp2
    go_ret
    exact ⟨by rw [HD.out]; rfl, Q.refl w⟩
end Go.Proofs.YtppiocopokbdlaaDoor

namespace Go.Proofs.YtppiocopokbdlaaDoor
open Go.RowKit

/-- Bytes. -/
def IsU8 (w : World) (v : Value) (n : Nat) : Prop :=
  (v = .slice none 0 0 ∧ n = 0) ∨
  ∃ (a : Addr) (cap : Nat), v = .slice (some a) n cap ∧ n ≤ cap ∧ cap ≤ maxLen ∧ ∀ i, i < n → ∃ x : Int, 0 ≤ x ∧ x ≤ 255 ∧ w.cell? (a.add i) = some (.int .u8 x)
theorem isU8_of {w : World} {a : Addr} {len cap : Nat} {zs : List Int} (h1 : len ≤ cap) (h2 : cap ≤ maxLen) (hz : zs.length = cap) (hc : ∀ i, i < zs.length → w.cell? (a.add i) = some (.int .u8 (zs.getD i 0))) (hw : ∀ n ∈ zs, (Lit.int .u8 n).wf = true) :
    IsU8 w (.slice (some a) len cap) len := by
  refine .inr ⟨a, cap, rfl, h1, h2, fun i hi => ?_⟩
  have hlt : i < zs.length := by omega
  have e : zs.getD i 0 = zs[i] := by rw [List.getD_eq_getElem?_getD, List.getElem?_eq_getElem hlt]; rfl
  have hm := hw _ (List.getElem_mem hlt)
  simp [Lit.wf, IntKind.min, IntKind.max, IntKind.signed, IntKind.bits] at hm
  refine ⟨zs.getD i 0, by rw [e]; omega, by rw [e]; omega, hc i hlt⟩
theorem IsU8.keepB {w w' : World} {v : Value} {n : Nat} (h : IsU8 w v n) (q : B w w') : IsU8 w' v n := by
  rcases h with h | ⟨a, cap, h1, h2, h3, h4⟩
  · exact .inl h
  · exact .inr ⟨a, cap, h1, h2, h3, fun i hi => by obtain ⟨x, x1, x2, x3⟩ := h4 i hi; exact ⟨x, x1, x2, q.keep x3⟩⟩
theorem IsU8.form {w : World} {v : Value} {n : Nat} (h : IsU8 w v n) : ∃ ao cap, v = .slice ao n cap ∧ n ≤ 9223372036854775807 := by
  rcases h with ⟨rfl, rfl⟩ | ⟨a, cap, rfl, h1, h2, _⟩
  · exact ⟨none, 0, rfl, by omega⟩
  · unfold maxLen at h2
    exact ⟨some a, cap, rfl, by omega⟩

/-- Sections lie in a block that stays. -/
theorem isSecs_blockG {S : Nat → Prop} {w w' : World} {v : Value} {l : List Sec} {sb : Nat} (h : IsSecs w v l) (hb : v.ownBlock = some sb) (hS : ¬ S sb) (q : G S w w') : IsSecs w' v l := by
  rcases h with ⟨rfl, rfl⟩ | ⟨a, cap, rfl, h2, h3, h4⟩
  · exact .inl ⟨rfl, rfl⟩
  · have e : a.block = sb := by simpa [Value.ownBlock] using hb
    refine .inr ⟨a, cap, rfl, h2, h3, fun i s hs => ⟨(h4 i s hs).1, ?_⟩⟩
    obtain ⟨f0, f1, f2, f3, f4, f5⟩ := (h4 i s hs).2
    have hb' : ¬ S (a.add (i * 6)).block := by
      have : (a.add (i * 6)).block = a.block := by unfold Addr.add; split <;> rfl
      rw [this, e]; exact hS
    exact ⟨q.keep hb' f0, q.keep hb' f1, q.keep hb' f2, q.keep hb' f3, q.keep hb' f4, q.keep hb' f5⟩
theorem isSecs_block {w : World} {v : Value} {l : List Sec} (h : IsSecs w v l) (hl : 1 ≤ l.length) : ∃ sb, v.ownBlock = some sb ∧ sb < w.heap.size := by
  rcases h with ⟨rfl, rfl⟩ | ⟨a, cap, rfl, h2, h3, h4⟩
  · simp at hl
  · refine ⟨a.block, rfl, ?_⟩
    have h0 := World.block_lt_of_cell? w _ (h4 0 _ (List.getElem?_eq_getElem hl)).2.r
    have e : (a.add (0 * 6)).block = a.block := by unfold Addr.add; split <;> rfl
    rwa [e] at h0

/-- A row of the call's own lies in no entry's blocks. -/
def Free (v : Value) (E : List Ent) : Prop := ∀ g, v.ownBlock = some g → ∀ e ∈ E, g ≠ e.b ∧ (g < e.lo ∨ e.hi ≤ g)
/-- The shapes that were seen, in a row of the call's own; the tables that were told for them, in another one. -/
structure Seen (w : World) (base : Nat) (E : List Ent) (vs vg : Value) (svs : List Value) : Prop where
  seen : w.ownsRow base 23 1 vs E.length svs
  got : w.ownsRow base 31 1 vg E.length (E.map Ent.p)
  ap : ∀ g, vs.ownBlock = some g → vg.ownBlock ≠ some g
  secs : ∀ (j : Nat) e sv, E[j]? = some e → svs[j]? = some sv → IsSecs w sv e.l ∧ ∃ sb, sv.ownBlock = some sb ∧ vs.ownBlock ≠ some sb ∧ vg.ownBlock ≠ some sb ∧ sb < w.heap.size

section
variable {w w' : World} {c bm base n : Nat} {E : List Ent} {vs vg : Value} {svs : List Value}
theorem Seen.g {S : Nat → Prop} (h : Seen w base E vs vg svs) (q : G S w w') (hS : ∀ i, S i → i < base) (hB : ∀ i, S i → ∀ j r, w.cell? ⟨i, j, none⟩ ≠ some (.bool r)) : Seen w' base E vs vg svs := by
  refine ⟨own_keep h.seen (fun g hg => ?_), own_keep h.got (fun g hg => ?_), h.ap, fun j e sv h1 h2 => ?_⟩
  · have := h.seen.lt g hg
    exact q.block g this.2 (fun hs => by have := hS g hs; omega)
  · have := h.got.lt g hg
    exact q.block g this.2 (fun hs => by have := hS g hs; omega)
  · obtain ⟨k1, sb, k2, k3, k4, k5⟩ := h.secs j e sv h1 h2
    exact ⟨isSecs_keepG k1 hB q, sb, k2, k3, k4, Nat.lt_of_lt_of_le k5 q.size⟩
theorem Seen.keepB (h : Seen w base E vs vg svs) (q : B w w') : Seen w' base E vs vg svs := h.g (q.g (fun _ => False)) (fun _ h => h.elim) (fun _ h => h.elim)
theorem Seen.start (w : World) (base : Nat) : Seen w base [] (.slice none 0 0) (.slice none 0 0) [] :=
  ⟨World.ownsRow_nil _ _ _ _, World.ownsRow_nil _ _ _ _, (fun g h => by cases h), fun j e sv h => by simp at h⟩
theorem free_nil (E : List Ent) : Free (.slice none 0 0) E := fun g h => by cases h
theorem Free.more {v : Value} {e0 : Ent} (h : Free v E) (hlt : ∀ g, v.ownBlock = some g → g < e0.b) (h0 : e0.b < e0.lo) : Free v (E ++ [e0]) := fun g hg e he => by
  rcases List.mem_append.1 he with he | he
  · exact h g hg e he
  · rw [List.mem_singleton] at he
    subst he
    have := hlt g hg
    omega
/-- One more was seen. -/
theorem seen_step {W0 wA w1 wB w2 : World} {F : List Sec → DataW Unit} {m k n' : Nat} {e0 : Ent} {s : Value} {g1 c1 g2 c2 : Nat} {o1 o2 : Obj} (hlow : W0.heap.size ≤ base)
    (hC : CacheM CTab w c bm base n m k F (E ++ [e0])) (hb : B W0 w) (hS : Seen w base E vs vg svs) (hfs : Free vs (E ++ [e0])) (hfg : Free vg (E ++ [e0])) (hsec : IsSecs w s e0.l) {sb : Nat} (hsb : s.ownBlock = some sb) (hs1 : vs.ownBlock ≠ some sb) (hs2 : vg.ownBlock ≠ some sb) (hs3 : sb < w.heap.size)
    (eA : wA = w.alloc o1) (ho1 : w1.ownsRow base 23 1 (.slice (some ⟨g1, 0, none⟩) n' c1) n' (svs ++ [s])) (hg1 : wA.grownBy w1 vs.ownBlock) (ha1 : vs.ownBlock = some g1 ∨ g1 = wA.heap.size) (hl1 : g1 < w1.heap.size)
    (eB : wB = w1.alloc o2) (ho2 : w2.ownsRow base 31 1 (.slice (some ⟨g2, 0, none⟩) n' c2) n' (E.map Ent.p ++ [e0.p])) (hg2 : wB.grownBy w2 vg.ownBlock) (ha2 : vg.ownBlock = some g2 ∨ g2 = wB.heap.size) (hl2 : g2 < w2.heap.size) :
    CacheM CTab w2 c bm base n m k F (E ++ [e0]) ∧ B W0 w2 ∧ Seen w2 base (E ++ [e0]) (.slice (some ⟨g1, 0, none⟩) n' c1) (.slice (some ⟨g2, 0, none⟩) n' c2) (svs ++ [s]) ∧
      Free (.slice (some ⟨g1, 0, none⟩) n' c1) (E ++ [e0]) ∧ Free (.slice (some ⟨g2, 0, none⟩) n' c2) (E ++ [e0]) ∧
      G (fun i => vs.ownBlock = some i ∨ vg.ownBlock = some i) w w2 := by
  have szA : wA.heap.size = w.heap.size + 1 := by rw [eA]; simp
  have szB : wB.heap.size = w1.heap.size + 1 := by rw [eB]; simp
  have sz1 := hg1.size
  have sz2 := hg2.size
  have gA : G (fun i => vs.ownBlock = some i ∨ vg.ownBlock = some i) w wA := by rw [eA]; exact (G.refl _ w).alloc o1
  have q1 : G (fun i => vs.ownBlock = some i ∨ vg.ownBlock = some i) w w1 := gA.grown hg1 (fun i hi => .inl (.inl hi))
  have gB : G (fun i => vs.ownBlock = some i ∨ vg.ownBlock = some i) w wB := by rw [eB]; exact q1.alloc o2
  have q2 : G (fun i => vs.ownBlock = some i ∨ vg.ownBlock = some i) w w2 := gB.grown hg2 (fun i hi => .inl (.inr hi))
  have blS := fun g h => (hS.seen.lt g h)
  have blG := fun g h => (hS.got.lt g h)
  have c0 := hC.lt
  have c1' := hC.lb
  have his := hC.his
  have hc2 : CacheM CTab w2 c bm base n m k F (E ++ [e0]) := hC.apartG q2 (fun i hi => by
    have hi' : base ≤ i := by rcases hi with h | h; exact (blS i h).1; exact (blG i h).1
    refine ⟨by omega, by omega, fun e he => ?_⟩
    rcases hi with h | h
    · exact hfs i h e he
    · exact hfg i h e he)
  have free1 : Free (.slice (some ⟨g1, 0, none⟩) n' c1) (E ++ [e0]) := fun g hg e he => by
    obtain rfl : g1 = g := by simpa [Value.ownBlock] using hg
    rcases ha1 with h | h
    · exact hfs _ h e he
    · have := his e he; omega
  have free2 : Free (.slice (some ⟨g2, 0, none⟩) n' c2) (E ++ [e0]) := fun g hg e he => by
    obtain rfl : g2 = g := by simpa [Value.ownBlock] using hg
    rcases ha2 with h | h
    · exact hfg _ h e he
    · have := his e he; omega
  have n12 : g1 ≠ g2 := by
    rcases ha2 with h | h
    · rcases ha1 with h' | h'
      · intro e; subst e; exact hS.ap _ h' h
      · have := (blG _ h).2; omega
    · omega
  have own1 : w2.ownsRow base 23 1 (.slice (some ⟨g1, 0, none⟩) n' c1) n' (svs ++ [s]) := own_keep ho1 (fun g hg => by
    obtain rfl : g1 = g := by simpa [Value.ownBlock] using hg
    have e1 : wB.heap[g1]? = w1.heap[g1]? := by rw [eB]; exact Below.heap_alloc _ _ _ hl1
    rw [← e1]
    refine hg2.block g1 (by omega) (fun e => ?_)
    rcases ha1 with h' | h'
    · exact hS.ap _ h' e.symm
    · have := (blG _ e.symm).2; omega)
  have hn' : n' = E.length + 1 := by
    have h1 := ho2.1
    simp at h1
    omega
  have e0b := (hC.his e0 (by simp))
  refine ⟨hc2, q2.b hb (fun i hi => by rcases hi with h | h; have := (blS i h).1; omega; have := (blG i h).1; omega), ⟨by simpa [hn'] using own1, by simpa [hn'] using ho2, fun g hg => ?_, fun j e sv h1 h2 => ?_⟩, free1, free2, q2⟩
  · obtain rfl : g1 = g := by simpa [Value.ownBlock] using hg
    simp [Value.ownBlock]
    exact fun e => n12 e.symm
  · have hsl : svs.length = E.length := by have := hS.seen.1; omega
    have key : ∀ sv (l : List Sec) sb, IsSecs w sv l → sv.ownBlock = some sb → vs.ownBlock ≠ some sb → vg.ownBlock ≠ some sb → sb < w.heap.size →
        IsSecs w2 sv l ∧ ∃ sb, sv.ownBlock = some sb ∧ (Value.slice (some ⟨g1, 0, none⟩) n' c1).ownBlock ≠ some sb ∧ (Value.slice (some ⟨g2, 0, none⟩) n' c2).ownBlock ≠ some sb ∧ sb < w2.heap.size := fun sv l sb k1 k2 k3 k4 k5 => by
      refine ⟨isSecs_blockG k1 k2 (by rintro (h | h); exact k3 h; exact k4 h) q2, sb, k2, ?_, ?_, Nat.lt_of_lt_of_le k5 q2.size⟩
      · simp [Value.ownBlock]
        intro e; subst e
        rcases ha1 with h | h
        · exact k3 h
        · omega
      · simp [Value.ownBlock]
        intro e; subst e
        rcases ha2 with h | h
        · exact k4 h
        · omega
    by_cases hj : j < E.length
    · rw [List.getElem?_append_left hj] at h1
      rw [List.getElem?_append_left (by omega)] at h2
      obtain ⟨k1, sb', k2, k3, k4, k5⟩ := hS.secs j e sv h1 h2
      exact key sv e.l sb' k1 k2 k3 k4 k5
    · rw [List.getElem?_append_right (by omega)] at h1
      rw [List.getElem?_append_right (by omega)] at h2
      have hj0 : j - E.length = 0 := by
        cases hx : j - E.length with
        | zero => rfl
        | succ x => rw [hx] at h1; simp at h1
      rw [hsl] at h2
      rw [hj0] at h1 h2
      obtain rfl : e0 = e := by simpa using h1
      obtain rfl : s = sv := by simpa using h2
      exact key s e0.l sb hsec hsb hs1 hs2 hs3
end
end Go.Proofs.YtppiocopokbdlaaDoor

namespace Go.Proofs.YtppiocopokbdlaaDoor
open Go.RowKit

theorem shape_blocks (w : World) (m : Nat) (V : Value) (hm : m < 6) (h : [Value.slice (some ⟨w.heap.size, 0, none⟩) 1 1, Value.slice (some ⟨w.heap.size + 1, 0, none⟩) 2 2, Value.slice (some ⟨w.heap.size + 1 + 1, 0, none⟩) 1 1, Value.slice (some ⟨w.heap.size + 1 + 1 + 1, 0, none⟩) 2 2, Value.slice (some ⟨w.heap.size + 1 + 1 + 1 + 1, 0, none⟩) 1 1, Value.slice (some ⟨w.heap.size + 1 + 1 + 1 + 1 + 1, 0, none⟩) 3 3][m]? = some V) : ∀ g, V.ownBlock = some g → w.heap.size ≤ g := by
  intro g hg
  match m, hm with
  | 0, _ => obtain rfl := Option.some.inj h; have e := Option.some.inj hg; simp at e; omega
  | 1, _ => obtain rfl := Option.some.inj h; have e := Option.some.inj hg; simp at e; omega
  | 2, _ => obtain rfl := Option.some.inj h; have e := Option.some.inj hg; simp at e; omega
  | 3, _ => obtain rfl := Option.some.inj h; have e := Option.some.inj hg; simp at e; omega
  | 4, _ => obtain rfl := Option.some.inj h; have e := Option.some.inj hg; simp at e; omega
  | 5, _ => obtain rfl := Option.some.inj h; have e := Option.some.inj hg; simp at e; omega

set_option maxHeartbeats 4000000 in
theorem shape_new (k : Int) (h1 : 0 ≤ k) (h2 : k ≤ 255) (w : World) :
    Calls Tryd.prog 9 #[.int .u8 k] w fun e w' => ∃ v, e = .returned v ∧ IsSecs w' v (shapeOf (k % 6).toNat) ∧ Q w w' ∧ ∀ g, v.ownBlock = some g → w.heap.size ≤ g := by
  obtain ⟨V, hp⟩ := shape_pick w (k % 6).toNat (by omega)
  have HP := Lib.hid hp
  have hm : (k % 6).toNat < 6 := by omega
  have HM := Lib.hid hm
  clear hm
  go_enter Tryd.func9, Tryd.ntmps9
  go_wp2
  go_ret
  refine ⟨V, rfl, ?_, ?_, shape_blocks w _ V HM.out HP.out⟩
  · clear hp h1 h2
    have hp := HP.out
    have hm := HM.out
    clear HP HM
    generalize (k % 6).toNat = m at *
    match m, hm with
    | 0, _ =>
      obtain rfl : Value.slice (some ⟨w.heap.size, 0, none⟩) 1 1 = V := Option.some.inj hp
      exact (isSecs_new (l := shapeOf 0) rfl (by simp) (fitsB_I (by decide)) (by decide) (by decide)).keep (((((((Q.refl _).alloc _ _).alloc _ _).alloc _ _).alloc _ _).alloc _ _).alloc _ _)
    | 1, _ =>
      obtain rfl : Value.slice (some ⟨w.heap.size + 1, 0, none⟩) 2 2 = V := Option.some.inj hp
      exact (isSecs_new (l := shapeOf 1) rfl (by simp) (fitsB_I (by decide)) (by decide) (by decide)).keep ((((((Q.refl _).alloc _ _).alloc _ _).alloc _ _).alloc _ _).alloc _ _)
    | 2, _ =>
      obtain rfl : Value.slice (some ⟨w.heap.size + 1 + 1, 0, none⟩) 1 1 = V := Option.some.inj hp
      exact (isSecs_new (l := shapeOf 2) rfl (by simp) (fitsB_I (by decide)) (by decide) (by decide)).keep (((((Q.refl _).alloc _ _).alloc _ _).alloc _ _).alloc _ _)
    | 3, _ =>
      obtain rfl : Value.slice (some ⟨w.heap.size + 1 + 1 + 1, 0, none⟩) 2 2 = V := Option.some.inj hp
      exact (isSecs_new (l := shapeOf 3) rfl (by simp) (fitsB_I (by decide)) (by decide) (by decide)).keep ((((Q.refl _).alloc _ _).alloc _ _).alloc _ _)
    | 4, _ =>
      obtain rfl : Value.slice (some ⟨w.heap.size + 1 + 1 + 1 + 1, 0, none⟩) 1 1 = V := Option.some.inj hp
      exact (isSecs_new (l := shapeOf 4) rfl (by simp) (fitsB_I (by decide)) (by decide) (by decide)).keep (((Q.refl _).alloc _ _).alloc _ _)
    | 5, _ =>
      obtain rfl : Value.slice (some ⟨w.heap.size + 1 + 1 + 1 + 1 + 1, 0, none⟩) 3 3 = V := Option.some.inj hp
      exact (isSecs_new (l := shapeOf 5) rfl (by simp) (fitsB_I (by decide)) (by decide) (by decide)).keep ((Q.refl _).alloc _ _)
  · exact ((((((((Q.refl _).alloc _ _).alloc _ _).alloc _ _).alloc _ _).alloc _ _).alloc _ _).alloc _ _)
end Go.Proofs.YtppiocopokbdlaaDoor

namespace Go.Proofs.YtppiocopokbdlaaDoor
open Go.RowKit

theorem tab_info : ∃ j, Tryd.prog.info? 81 = some j ∧ j.size ≠ 0 := by
  have h : (Tryd.prog.info? 81).map (fun i => decide (i.size = 0)) = some false := by kernel_rfl
  cases e : Tryd.prog.info? 81 with
  | none => rw [e] at h; cases h
  | some j => rw [e] at h; exact ⟨j, rfl, by simpa using h⟩
theorem ptr_eq (x : Nat) (w : World) : (binOp .eql 31 (.pointer (some ⟨x, 0, none⟩)) (.pointer (some ⟨x, 0, none⟩))).run Tryd.prog w = .ok (.bool true) w := by
  obtain ⟨j, hj, _⟩ := tab_info
  exact run_eql_ptr_same w _ Tryd.underlying31 hj
theorem ptr_ne {x y : Nat} {w : World} {cs ct : Array Value} {t u : TypeId} (h : x ≠ y) (hx : w.heap[x]? = some (.cells cs t (0, 0))) (hy : w.heap[y]? = some (.cells ct u (0, 0))) :
    (binOp .eql 31 (.pointer (some ⟨x, 0, none⟩)) (.pointer (some ⟨y, 0, none⟩))).run Tryd.prog w = .ok (.bool false) w := by
  obtain ⟨j, hj, hs⟩ := tab_info
  exact run_eql_ptr_other w Tryd.underlying31 hj hs (fun e => h (congrArg Addr.block e)) hx hy
theorem ptr_neq_same (x : Nat) (w : World) : (binOp .neq 31 (.pointer (some ⟨x, 0, none⟩)) (.pointer (some ⟨x, 0, none⟩))).run Tryd.prog w = .ok (.bool false) w := by
  obtain ⟨j, hj, _⟩ := tab_info
  have h : ∀ d : Nat, (Op.equalIn (d + 1) 31 (.pointer (some ⟨x, 0, none⟩)) (.pointer (some ⟨x, 0, none⟩))).run Tryd.prog w = .ok true w := fun d => by
    simp [Op.equalIn, run_underlying Tryd.underlying31, sizeOf, typeInfo, hj, run_sameAddr_same]
  simp only [binOp]
  simp [Op.equal, Op.maxDepth, h 9999]
theorem ptr_neq_other {x y : Nat} {w : World} {cs ct : Array Value} {t u : TypeId} (h : x ≠ y) (hx : w.heap[x]? = some (.cells cs t (0, 0))) (hy : w.heap[y]? = some (.cells ct u (0, 0))) :
    (binOp .neq 31 (.pointer (some ⟨x, 0, none⟩)) (.pointer (some ⟨y, 0, none⟩))).run Tryd.prog w = .ok (.bool true) w := by
  obtain ⟨j, hj, hs⟩ := tab_info
  have h' : ∀ d : Nat, (Op.equalIn (d + 1) 31 (.pointer (some ⟨x, 0, none⟩)) (.pointer (some ⟨y, 0, none⟩))).run Tryd.prog w = .ok false w := fun d => by
    simp [Op.equalIn, run_underlying Tryd.underlying31, sizeOf, typeInfo, hj, hs, run_sameAddr_other w (a := ⟨x, 0, none⟩) (b := ⟨y, 0, none⟩) (fun e => h (congrArg Addr.block e)) hx hy]
  simp only [binOp]
  simp [Op.equal, Op.maxDepth, h' 9999]

/-- Two entries' tables. -/
theorem ents_ne {T : World → Value → List (Int × Int) → Prop} {w : World} {c bm base n m k : Nat} {F : List Sec → DataW Unit} {E : List Ent} (h : CacheM T w c bm base n m k F E) {a b : Ent} (ha : a ∈ E) (hb : b ∈ E) (hl : a.l ≠ b.l) {x y : Nat} (hx : a.p = .pointer (some ⟨x, 0, none⟩)) (hy : b.p = .pointer (some ⟨y, 0, none⟩)) : x ≠ y := by
  intro e
  subst e
  have key : ∀ E : List Ent, E.Pairwise (fun a b => a.l ≠ b.l ∧ a.hi ≤ b.b) → (∀ e ∈ E, EntAt T base w e) → a ∈ E → b ∈ E → False := by
    intro E
    induction E with
    | nil => intro _ _ h; cases h
    | cons z E ih =>
      intro hp he ha hb
      rw [List.pairwise_cons] at hp
      rcases List.mem_cons.1 ha with rfl | ha' <;> rcases List.mem_cons.1 hb with rfl | hb'
      · exact hl rfl
      · exact ent_ne (he a ha) (he b hb) (hp.1 b hb').2 (hx.trans hy.symm)
      · exact ent_ne (he b hb) (he a ha) (hp.1 a ha').2 (hy.trans hx.symm)
      · exact ih hp.2 (fun e h => he e (List.mem_cons_of_mem _ h)) ha' hb'
  exact key E h.apart h.ents ha hb
end Go.Proofs.YtppiocopokbdlaaDoor

namespace Go.Proofs.YtppiocopokbdlaaDoor
open Go.RowKit

theorem B.map {a w : World} (h : B a w) (es : Array MapEntry) (k : Nat) : B a (w.alloc (.map es k)) := ⟨h.below.alloc h.below.size _⟩

section
variable {T : World → Value → List (Int × Int) → Prop} {c bm base n : Nat} {E : List Ent}

theorem new_at (T : World → Value → List (Int × Int) → Prop) (w : World) : CacheC T ((w.alloc (.map #[] 0)).alloc (.cells #[.int .i64 0, .int .i64 0, .int .i32 0, .int .u32 0, .map (some w.heap.size)] 62)) (w.heap.size + 1) w.heap.size (w.heap.size + 2) 0 [] := by
  have o := obj_new (w.alloc (.map #[] 0)) (.cells #[.int .i64 0, .int .i64 0, .int .i32 0, .int .u32 0, .map (some w.heap.size)] 62)
  have e : (w.alloc (.map #[] 0)).heap.size = w.heap.size + 1 := by simp
  rw [e] at o
  refine ⟨o, ⟨_, (World.ownsMap_made w Tryd.prog 9 ptrElem).alloc _, fun l => rfl⟩, by omega, by omega, by simp, fun _ h => (by cases h), List.Pairwise.nil⟩

set_option maxRecDepth 100000 in
set_option maxHeartbeats 1600000 in
theorem cnew_any (T : World → Value → List (Int × Int) → Prop) (w : World) : Calls Tryd.prog 8 #[] w fun e w' => ∃ c bm base, e = .returned (.pointer (some ⟨c, 0, none⟩)) ∧ CacheC T w' c bm base 0 [] ∧ w.heap.size ≤ bm ∧ w'.heap.size = base ∧ B w w' := by
  have hmm := @run_makeMap Tryd.prog
  have hC := new_at T w
  have hB : B w ((w.alloc (.map #[] 0)).alloc (.cells #[.int .i64 0, .int .i64 0, .int .i32 0, .int .u32 0, .map (some w.heap.size)] 62)) := ((B.refl w).map _ _).alloc _ _
  have hs : ((w.alloc (.map #[] 0)).alloc (.cells #[.int .i64 0, .int .i64 0, .int .i32 0, .int .u32 0, .map (some w.heap.size)] 62)).heap.size = w.heap.size + 2 := by simp
  have HC := Lib.hid hC
  have HB := Lib.hid hB
  have HS := Lib.hid hs
  clear hC hB hs
  go_enter Tryd.func8, Tryd.ntmps8
  go_wp2
  go_ret
  exact ⟨_, _, _, rfl, HC.out, Nat.le_refl _, HS.out, HB.out⟩

set_option maxRecDepth 100000 in
theorem casked_any (w : World) (hC : CacheC T w c bm base n E) : Calls Tryd.prog 12 #[.pointer (some ⟨c, 0, none⟩)] w fun e w' => e = .returned (.int .i64 n) ∧ w' = w := by
  have cL := load64_any c 0 n w (by rw [obj_cell hC.obj]; rfl)
  clear hC
  go_enter Tryd.func12, Tryd.ntmps12
  go_wp2_with (go_at_call 31; refine cL.mono ?_; rintro e w' ⟨rfl, rfl⟩)
  go_ret
  exact ⟨rfl, rfl⟩
set_option maxRecDepth 100000 in
theorem cbuilt_any (w : World) (hC : CacheC T w c bm base n E) : Calls Tryd.prog 14 #[.pointer (some ⟨c, 0, none⟩)] w fun e w' => e = .returned (.int .i64 E.length) ∧ w' = w := by
  have cL := load64_any c 1 E.length w (by rw [obj_cell hC.obj]; rfl)
  clear hC
  go_enter Tryd.func14, Tryd.ntmps14
  go_wp2_with (go_at_call 31; refine cL.mono ?_; rintro e w' ⟨rfl, rfl⟩)
  go_ret
  exact ⟨rfl, rfl⟩
end
end Go.Proofs.YtppiocopokbdlaaDoor

namespace Go.Proofs.YtppiocopokbdlaaDoor
open Go.RowKit

theorem ofN_code : OfN CTab := cof_held
/-- The table of powers of ten, where nothing below B has turned. -/
def Pow10 (W0 : World) : Prop := Lib.TabBelow Tryd.prog W0.heap.size W0 "internal/strconv.uint64pow10" .u64 Lib.pow10Tab

section
variable {c bm base n : Nat} {E : List Ent} {l : List Sec}
theorem ent_eq {a b : Ent} (ha : a ∈ E) (hb : b ∈ E) (h : a.l = b.l) (hp : E.Pairwise (fun a b => a.l ≠ b.l)) : a = b := by
  induction E with
  | nil => cases ha
  | cons x E ih =>
    rw [List.pairwise_cons] at hp
    rcases List.mem_cons.1 ha with rfl | ha' <;> rcases List.mem_cons.1 hb with rfl | hb'
    · rfl
    · exact absurd h (hp.1 b hb')
    · exact absurd h.symm (hp.1 a ha')
    · exact ih ha' hb' hp.2

theorem ctab_first (W0 w : World) (v : Value) (hW : B W0 w) (ht : Pow10 W0) (hb : W0.heap.size ≤ bm) (hC : CacheC CTab w c bm base n E) (hn : n < 1000000) (hE : E.length < 1000000) (hv : IsSecs w v l) (hr : rightS l = true) (hnew : ∀ e ∈ E, e.l ≠ l) :
    Calls Tryd.prog 10 #[.pointer (some ⟨c, 0, none⟩), v] w fun e w' => ∃ (x : Nat) (e0 : Ent), e = .returned (.tuple #[.pointer (some ⟨x, 0, none⟩), .int .i64 0]) ∧ e0.p = .pointer (some ⟨x, 0, none⟩) ∧ e0.l = l ∧ w.heap.size ≤ e0.b ∧
      CacheC CTab w' c bm base (n + 1) (E ++ [e0]) ∧ B W0 w' ∧ G (CS c bm) w w' := by
  have hlt := hC.lt
  refine (ctable_yes (BB := W0.heap.size) ofN_code w v l hC hn hE hv hr (ht.on hW.below) hb).mono ?_
  rintro e w' ⟨E', e0, rfl, h1, h2, h3, h4, h5⟩
  rcases h3 with rfl | ⟨_, h6, rfl⟩
  · exact absurd h2 (hnew e0 h1)
  · obtain ⟨x, hx, _, _⟩ := (h4.ents e0 h1).tab.at_
    exact ⟨x, e0, by rw [hx], hx, h2, h6, h4, h5.b hW (fun i hi => by rcases hi with rfl | rfl <;> omega), h5⟩
theorem ctab_again (W0 w : World) (v : Value) (hW : B W0 w) (ht : Pow10 W0) (hb : W0.heap.size ≤ bm) (hC : CacheC CTab w c bm base n E) (hn : n < 1000000) (hE : E.length < 1000000) (hv : IsSecs w v l) (e0 : Ent) (he : e0 ∈ E) (hel : e0.l = l) {x : Nat} (hx : e0.p = .pointer (some ⟨x, 0, none⟩)) :
    Calls Tryd.prog 10 #[.pointer (some ⟨c, 0, none⟩), v] w fun e w' => e = .returned (.tuple #[.pointer (some ⟨x, 0, none⟩), .int .i64 0]) ∧ CacheC CTab w' c bm base (n + 1) E ∧ B W0 w' ∧ G (CS c bm) w w' := by
  have hlt := hC.lt
  have hr : rightS l = true := hel ▸ (hC.ents e0 he).right
  refine (ctable_yes (BB := W0.heap.size) ofN_code w v l hC hn hE hv hr (ht.on hW.below) hb).mono ?_
  rintro e w' ⟨E', e1, rfl, h1, h2, h3, h4, h5⟩
  rcases h3 with rfl | ⟨h6, _⟩
  · have : e1 = e0 := ent_eq h1 he (h2.trans hel.symm) hC.pairL
    subst this
    exact ⟨by rw [hx], h4, h5.b hW (fun i hi => by rcases hi with rfl | rfl <;> omega), h5⟩
  · exact absurd hel (h6 e0 he)
theorem ctab_none (W0 w : World) (v : Value) (hW : B W0 w) (hb : W0.heap.size ≤ bm) (hC : CacheC CTab w c bm base n E) (hn : n < 1000000) (hv : IsSecs w v l) (hr : rightS l = false) :
    Calls Tryd.prog 10 #[.pointer (some ⟨c, 0, none⟩), v] w fun e w' => e = .returned (.tuple #[.pointer none, .int .i64 23]) ∧ CacheC CTab w' c bm base (n + 1) E ∧ B W0 w' ∧ G (CS c bm) w w' := by
  have hlt := hC.lt
  refine (ctable_no w v l hC hn hv hr).mono ?_
  rintro e w' ⟨rfl, h4, h5⟩
  exact ⟨rfl, h4, h5.b hW (fun i hi => by rcases hi with rfl | rfl <;> omega), h5⟩
/-- What an entry's table tells. -/
theorem ent_tall (w : World) (hC : CacheC CTab w c bm base n E) (e0 : Ent) (he : e0 ∈ E) {x : Nat} (hx : e0.p = .pointer (some ⟨x, 0, none⟩)) :
    Calls Tryd.prog 21 #[.pointer (some ⟨x, 0, none⟩)] w fun e w' => e = .returned (.int .i64 (hsumI e0.l e0.l.length)) ∧ B w w' := by
  have h := hC.ents e0 he
  have ht := h.tab.held.now
  rw [hx] at ht
  have := ctall_any _ _ w ht
  rwa [Int.mul_comm, slAll_len e0.l (right_all h.right).2.2] at this
end
end Go.Proofs.YtppiocopokbdlaaDoor

namespace Go.Proofs.YtppiocopokbdlaaDoor
open Go.RowKit

set_option maxRecDepth 100000 in
set_option maxHeartbeats 4000000 in
theorem known6_any (w : World) (hp : Pow10 w) : Calls Tryd.prog 6 #[] w fun e w' => e = .returned (.bool true) ∧ B w w' := by
  have c0 := cnew_any CTab w
  have c1 := fun w => shape_any 0 (by decide) (by decide) w
  have hr : rightS (shapeOf ((0 : Int) % 6).toNat) = true := by decide
  have hh : hsumI (shapeOf ((0 : Int) % 6).toNat) (shapeOf ((0 : Int) % 6).toNat).length = 10000 := by decide
  have hr0 : rightS [] = false := by decide
  generalize shapeOf ((0 : Int) % 6).toNat = L0 at *
  go_enter Tryd.func6, Tryd.ntmps6
  go_wp2_with fail
  refine c0.mono ?_
  rintro e w1 ⟨c, bm, base, rfl, h1, hbm, hs1, b1⟩
  go_wp2_with fail
  refine (c1 _).mono ?_
  rintro e w2 ⟨v2, rfl, hv2, q2⟩
  have h2 := CacheM.keepB h1 q2.b
  have b2 := b1.trans q2.b
  go_wp2_with fail
  refine (ctab_first w w2 v2 b2 hp hbm h2 (by omega) (by decide) hv2 hr (fun e h => by cases h)).mono ?_
  rintro e w3 ⟨x, e0, rfl, hx, hl, _, h3, b3, g3⟩
  clear h1 h2 hv2 q2 b1 b2 g3
  go_wp2_with fail
  refine (c1 _).mono ?_
  rintro e w4 ⟨v4, rfl, hv4, q4⟩
  have h4 := CacheM.keepB h3 q4.b
  have b4 := b3.trans q4.b
  go_wp2_with fail
  refine (ctab_again w w4 v4 b4 hp hbm h4 (by omega) (by simp) hv4 e0 (by simp) hl hx).mono ?_
  rintro e w5 ⟨rfl, h5, b5, _⟩
  clear h3 h4 hv4 q4 b3 b4
  go_wp2_with fail
  refine (ctab_none w w5 (.slice none 0 0) b5 hbm h5 (by omega) (l := []) (.inl ⟨rfl, rfl⟩) hr0).mono ?_
  rintro e w6 ⟨rfl, h6, b6, _⟩
  have cB := cbuilt_any w6 h6
  have cA := casked_any w6 h6
  have cH := ent_tall w6 h6 e0 (by simp) hx
  rw [hl, hh] at cH
  clear h5 b5 c0 c1
  have hpe := ptr_eq x
  go_wp2_with (first | (go_at_call 14; refine cB.mono ?_; rintro e w7 ⟨rfl, rfl⟩) | (go_at_call 12; refine cA.mono ?_; rintro e w7 ⟨rfl, rfl⟩) | (go_at_call 21; refine cH.mono ?_; rintro e w7 ⟨rfl, q7⟩))
  go_ret
  exact ⟨rfl, b6.trans q7⟩
end Go.Proofs.YtppiocopokbdlaaDoor

namespace Go.Proofs.YtppiocopokbdlaaDoor
open Go.RowKit

theorem own_form {w : World} {b e n : Nat} {v : Value} {xs : List Value} (h : w.ownsRow b e 1 v n xs) : ∃ ao c, v = .slice ao n c := by
  obtain ⟨_, ⟨rfl, rfl⟩ | ⟨g, c, cur, rfl, _⟩⟩ := h
  · exact ⟨none, 0, rfl⟩
  · exact ⟨_, _, rfl⟩
theorem rowInfoS : (Tryd.prog.info? 23).map (fun i => (i.zero, i.size, i.bytes)) = some (some (.slice none 0 0), 1, 24) := by kernel_rfl
theorem rowInfoT : (Tryd.prog.info? 31).map (fun i => (i.zero, i.size, i.bytes)) = some (some (.pointer none), 1, 8) := by kernel_rfl
/-- Where a shape was seen, so far. -/
def AtI (E : List Ent) (l : List Sec) (j : Nat) (a : Int) : Prop := (a = -1 ∧ ∀ (i : Nat) e, i < j → E[i]? = some e → e.l ≠ l) ∨ (∃ i : Nat, i < j ∧ a = (i : Int) ∧ ∃ e, E[i]? = some e ∧ e.l = l)
theorem AtI.start (E : List Ent) (l : List Sec) : AtI E l 0 (-1) := .inl ⟨rfl, fun _ _ h => by omega⟩
theorem AtI.yes {E : List Ent} {l : List Sec} {j : Nat} {e : Ent} (h1 : E[j]? = some e) (h2 : e.l = l) : AtI E l (j + 1) (j : Int) := .inr ⟨j, by omega, rfl, e, h1, h2⟩
theorem AtI.no {E : List Ent} {l : List Sec} {j : Nat} {a : Int} {e : Ent} (h : AtI E l j a) (h1 : E[j]? = some e) (h2 : e.l ≠ l) : AtI E l (j + 1) a := by
  rcases h with ⟨h3, h4⟩ | ⟨i, h3, h4, h5⟩
  · refine .inl ⟨h3, fun i e' hi he => ?_⟩
    rcases Nat.lt_succ_iff_lt_or_eq.1 hi with h | rfl
    · exact h4 i e' h he
    · rw [h1] at he; cases he; exact h2
  · exact .inr ⟨i, by omega, h4, h5⟩
theorem AtI.found {E : List Ent} {l : List Sec} {a : Int} (h : AtI E l E.length a) {e0 : Ent} (he : e0 ∈ E) (hl : e0.l = l) (hp : E.Pairwise (fun a b => a.l ≠ b.l)) : ∃ i : Nat, a = (i : Int) ∧ i < E.length ∧ E[i]? = some e0 := by
  rcases h with ⟨_, h4⟩ | ⟨i, h3, h4, e, h5, h6⟩
  · obtain ⟨i, hi⟩ := List.getElem?_of_mem he
    have hlt : i < E.length := by
      rcases Nat.lt_or_ge i E.length with h | h
      · exact h
      · rw [List.getElem?_eq_none h] at hi; cases hi
    exact absurd hl (h4 i e0 hlt hi)
  · have : e = e0 := ent_eq (List.mem_of_getElem? h5) he (h6.trans hl.symm) hp
    subst this
    exact ⟨i, h4, h3, h5⟩
theorem AtI.none {E : List Ent} {l : List Sec} {a : Int} (h : AtI E l E.length a) (hn : ∀ e ∈ E, e.l ≠ l) : a = -1 := by
  rcases h with ⟨h3, _⟩ | ⟨i, h3, h4, e, h5, h6⟩
  · exact h3
  · exact absurd h6 (hn e (List.mem_of_getElem? h5))

set_option maxRecDepth 100000 in
set_option maxHeartbeats 32000000 in
theorem plays_main (v0 v1 : Value) (n : Nat) (l0 : List Sec) (w : World) (h0 : IsU8 w v0 n) (h1 : IsSecs w v1 l0) (hp : Pow10 w) (c0 : n ≤ 60) (c1 : l0.length ≤ 6) :
    Calls Tryd.prog 3 #[v0, v1] w fun e w' => e = .returned (.bool true) ∧ B w w' := by
  have cK := known6_any w hp
  have cN := fun w => cnew_any CTab w
  have cL := fun w' (q : B w w') => light_any v1 l0 w' (h1.keepB q) true (decide_eq_true (by omega))
  obtain ⟨ao0, cap0, rfl, _⟩ := h0.form
  obtain ⟨ao1, cap1, rfl⟩ := h1.formL
  have d0 : decide (60 < (n : Int)) = false := decide_eq_false (by omega)
  have H0 := Lib.hid h0
  have H1 := Lib.hid h1
  obtain ⟨i0, hi0, hz0, hz1, hz2⟩ := info_parts rowInfoS
  obtain ⟨i1, hi1, hy0, hy1, hy2⟩ := info_parts rowInfoT
  have hnot : ∀ (x : Bool) (w : World), (Op.unary .not (.bool x)).run Tryd.prog w = .ok (.bool (!x)) w := fun _ _ => rfl
  clear h0 h1
  go_enter Tryd.func3, Tryd.ntmps3
  go_wp2_with fail
  refine cK.mono ?_
  rintro e w1 ⟨rfl, b1⟩
  go_wp2_with fail
  refine (cL _ b1).mono ?_
  rintro e w1' ⟨rfl, rfl⟩
  go_wp2_with fail
  refine (cN _).mono ?_
  rintro e w2 ⟨c, bm, base, rfl, hC2, hbm, hb2, q2⟩
  have b2 := b1.trans q2
  have z1 := b1.below.size
  have z2 := hC2.lt
  have z3 := hC2.lb
  have hbm' : w.heap.size ≤ bm := by omega
  have hS2 := Seen.start w2 base
  have HC := Lib.hid hC2
  clear q2 b1 hC2 hbm hb2 cK cN cL
  go_wp2
  go_loopw [6, 7, 8] (fun vs vg i wr => ∃ (k : Nat) (E : List Ent) (svs : List Value), k ≤ n ∧ i = .int .i64 k ∧ E.length ≤ k ∧ CacheC CTab wr c bm base k E ∧ B w wr ∧ Seen wr base E vs vg svs ∧ Free vs E ∧ Free vg E) (fun _ _ i _ => n - (intOf i).toNat)
  case atStart => exact ⟨0, [], [], Nat.zero_le _, rfl, Nat.le_refl _, HC.out, b2, hS2, free_nil _, free_nil _⟩
  case round =>
    clear HC b2 hS2
    obtain ⟨k, E, svs, hk, rfl, hEk, hC, bw, hS, hfs, hfg⟩ := hrel
    by_cases hkn : k < n
    · have hkB : decide (k < n) = true := decide_eq_true hkn
      have hkI : (k : Int) < (n : Int) := by omega
      rcases H0.out with ⟨ex, ey⟩ | ⟨a, cap, ex, hx1, hx2, hx3⟩
      · omega
      simp only [Value.slice.injEq] at ex
      obtain ⟨rfl, _, rfl⟩ := ex
      obtain ⟨x, x0, x1, hcell⟩ := hx3 k hkn
      replace hcell := bw.keep hcell
      have cS := shape_new x x0 x1 wr
      have hmr := shape_right (x % 6).toNat
      generalize shapeOf (x % 6).toNat = LS at *
      obtain ⟨aS, capS, rfl⟩ := own_form hS.seen
      obtain ⟨aG, capG, rfl⟩ := own_form hS.got
      go_wp2_with fail
      refine cS.mono ?_
      rintro e wa ⟨sv, rfl, hsv, qa, hga⟩
      have hCa := CacheM.keepB hC qa.b
      have bwa := bw.trans qa.b
      have hSa := hS.keepB qa.b
      have hcella := qa.keep hcell
      have hlS := (hS.seen.lt)
      have hlG := (hS.got.lt)
      clear hC bw hS hcell cS hx3
      have hk1 : IntKind.i64.wrap ((k : Int) + 1) = (k : Int) + 1 := wrapI (by omega) (by omega)
      obtain ⟨r9, hr9⟩ : ∃ r, x.tmod 9 = r := ⟨_, rfl⟩
      by_cases h9 : r9 = 0
      · have h9B : (r9 == 0) = true := by simp [h9]
        clear h9
        clear hsv hga qa
        have hVa := H1.out.keepB bwa
        by_cases hr : rightS l0 = true
        · have hrl := right_all hr
          obtain ⟨sb, hsb, hsb1⟩ := isSecs_block H1.out (by omega)
          have hsb2 : sb < wa.heap.size := Nat.lt_of_lt_of_le hsb1 bwa.below.size
          have hsS : (Value.slice aS E.length capS).ownBlock ≠ some sb := fun e => by have := (hlS sb e).1; omega
          have hsG : (Value.slice aG E.length capG).ownBlock ≠ some sb := fun e => by have := (hlG sb e).1; omega
          by_cases ex : ∃ e0 ∈ E, e0.l = l0
          · clear hsb hsS hsG
            obtain ⟨e0, k1, hel⟩ := ex
            obtain ⟨y, hy, _, _⟩ := (hCa.ents e0 k1).tab.at_
            go_wp2_with fail
            refine (ctab_again w wa _ bwa hp hbm' hCa (by omega) (by omega) hVa e0 k1 hel hy).mono ?_
            rintro e wb ⟨rfl, hCb, bwb, gb⟩
            have hSb := hSa.g gb hCa.cs hCa.noBool
            have hVb := hCa.secs hVa gb
            clear hCa bwa hSa hVa gb
            go_wp2_with fail
            refine (r3of_held _ l0 wb hVb).mono ?_
            rintro e wc h
            rcases h with ⟨_, p, rfl, hR, qc⟩ | ⟨h0, _⟩
            rotate_left
            · rw [hr] at h0; cases h0
            obtain ⟨pb, _, _, _, _, rfl, _⟩ := hR.now
            have hCc := CacheM.keepB hCb qc
            have bwc := bwb.trans qc
            have hSc := hSb.keepB qc
            have hVc := hVb.keepB qc
            have sbc := hVb
            have zc := qc.below.size
            have cA : Calls Tryd.prog 12 #[.pointer (some ⟨c, 0, none⟩)] wc fun e w' => e = .returned (.int .i64 ((k : Int) + 1)) ∧ w' = wc := by simpa using casked_any wc hCc
            have HC := Lib.hid hCc
            have HS := Lib.hid hSc
            have HV := Lib.hid hVc
            have HR := Lib.hid hR
            have HB := Lib.hid bwc
            clear hCb hSb hVb bwb qc hCc hSc hVc bwc hR sbc
            go_wp2_with (first | (go_at_call 12; with_reducible refine cA.mono ?_; rintro e wc ⟨rfl, rfl⟩))
            go_wp2
            obtain ⟨wo, rfl⟩ : ∃ wo : World, wo = wr := ⟨_, rfl⟩
            go_loopw [14, 15] (fun at_ kk wx => ∃ (j : Nat) (aa : Int), j ≤ E.length ∧ kk = .int .i64 j ∧ at_ = .int .i64 aa ∧ AtI E l0 j aa ∧ B wc wx) (fun _ kk _ => E.length - (intOf kk).toNat)
            case atStart => exact ⟨0, -1, Nat.zero_le _, rfl, rfl, AtI.start _ _, B.refl _⟩
            case round =>
              obtain ⟨j, aa, hj, rfl, rfl, hAt, qx⟩ := hrel
              obtain ⟨wx, rfl⟩ : ∃ wx : World, wx = wr := ⟨_, rfl⟩
              by_cases hjl : j < E.length
              · have hjB : decide (j < E.length) = true := decide_eq_true hjl
                have hjI : (j : Int) < (E.length : Int) := by omega
                obtain ⟨gS, cS', eS⟩ := own_some HS.out.seen (by omega)
                simp only [Value.slice.injEq] at eS
                obtain ⟨rfl, _, rfl⟩ := eS
                have hgE := List.getElem?_eq_getElem hjl
                have hjs : j < svs.length := by have := HS.out.seen.1; omega
                have hgV := List.getElem?_eq_getElem hjs
                obtain ⟨hsj, _⟩ := HS.out.secs j _ _ hgE hgV
                have hcj := qx.keep ((HS.out.seen.cellAt j (by omega)).trans hgV)
                have hcj' : wx.cell? ((⟨gS, 0, none⟩ : Addr).add j) = some svs[j] := by rw [add0]; exact hcj
                generalize svs[j] = svj at *
                generalize E[j] = ej at *
                have cE := r3same_any svj (.slice ao1 l0.length cap1) ej.l l0 wx (hsj.keepB qx) (HV.out.keepB qx)
                have HE := Lib.hid hgE
                have HA := Lib.hid hAt
                clear hgV hgE hsj hAt
                by_cases he : ej.l = l0
                · rw [decide_eq_true he] at cE
                  have HH := Lib.hid he
                  clear he
                  go_wp2_with fail
                  refine cE.mono ?_
                  rintro e wy ⟨rfl, qy⟩
                  have qxy := qx.trans qy.b
                  clear qx qy
                  go_wp2
                  go_roundw
                  case rel => exact ⟨j + 1, j, by omega, by go_num, rfl, AtI.yes HE.out HH.out, qxy⟩
                  case measure => simp [intOf]; omega
                · rw [decide_eq_false he] at cE
                  have HH := Lib.hid he
                  clear he
                  go_wp2_with fail
                  refine cE.mono ?_
                  rintro e wy ⟨rfl, qy⟩
                  have qxy := qx.trans qy.b
                  clear qx qy
                  go_wp2
                  go_roundw
                  case rel => exact ⟨j + 1, aa, by omega, by go_num, rfl, AtI.no HA.out HE.out HH.out, qxy⟩
                  case measure => simp [intOf]; omega
              · have hjB : decide (j < E.length) = false := decide_eq_false hjl
                obtain rfl : j = E.length := by omega
                obtain ⟨ix, rfl, hix, hixE⟩ := AtI.found hAt k1 hel HC.out.pairL
                have hB0 : decide ((ix : Int) < 0) = false := decide_eq_false (by omega)
                have hixI : (ix : Int) < (E.length : Int) := by omega
                obtain ⟨gG, cG', eG⟩ := own_some HS.out.got (by omega)
                simp only [Value.slice.injEq] at eG
                obtain ⟨rfl, _, rfl⟩ := eG
                have hcg : wx.cell? ⟨gG, ix, none⟩ = some (.pointer (some ⟨y, 0, none⟩)) := qx.keep ((HS.out.got.cellAt ix (by omega)).trans (by rw [List.getElem?_map, hixE]; exact congrArg some hy))
                have hcg' : wx.cell? ((⟨gG, 0, none⟩ : Addr).add ix) = some (.pointer (some ⟨y, 0, none⟩)) := by rw [add0]; exact hcg
                have hCz := CacheM.keepB HC.out qx
                have hSz := HS.out.keepB qx
                have hBz := HB.out.trans qx
                have hRz := HR.out.keepB qx
                obtain ⟨wz, rfl⟩ : ∃ z, z = wx := ⟨_, rfl⟩
                clear hAt hixE qx HR cA
                have cB : Calls Tryd.prog 14 #[.pointer (some ⟨c, 0, none⟩)] wz fun e w' => e = .returned (.int .i64 E.length) ∧ w' = wz := by simpa using cbuilt_any wz hCz
                have hbd := tbnd_of hr
                have htz := fun w' (q : B wz w') => (CacheM.keepB hCz q).ents e0 k1 |>.tab.held.now
                have cT1 := fun w' (q : B wz w') => cslices_any (.pointer (some ⟨y, 0, none⟩)) (slAll l0) w' hbd (by have := htz w' q; rwa [hy, hel] at this)
                have cT2 := fun w' (q : B wz w') => chigh_any (.pointer (some ⟨y, 0, none⟩)) (slAll l0) (slAll l0).length w' hbd (by have := htz w' q; rwa [hy, hel] at this)
                have cR1 := fun w' (q : B wz w') => r3slices_any (.pointer (some ⟨pb, 0, none⟩)) (slAll l0) hbd.n w' (hRz.keepB q).now
                have cR2 := fun w' (q : B wz w') => r3high_any (.pointer (some ⟨pb, 0, none⟩)) (slAll l0) hbd.n (slAll l0).length w' (hRz.keepB q).now
                have hpe := ptr_neq_same y
                generalize highT (slAll l0) (nearI (slAll l0).length (slAll l0).length) = HT at *
                generalize (slAll l0).length = NS at *
                clear htz hbd
                go_wp2_with fail
                refine cB.mono ?_
                rintro e wz ⟨rfl, rfl⟩
                go_wp2_with fail
                refine (cT1 _ (B.refl _)).mono ?_
                rintro e u1 ⟨rfl, r1⟩
                go_wp2_with fail
                refine (cR1 _ r1).mono ?_
                rintro e u2 ⟨rfl, rfl⟩
                go_wp2_with fail
                refine (cR1 _ r1).mono ?_
                rintro e u2 ⟨rfl, rfl⟩
                go_wp2_with fail
                refine (cT2 _ r1).mono ?_
                rintro e u3 ⟨rfl, r3⟩
                replace r1 := r1.trans r3
                go_wp2_with fail
                refine (cR1 _ r1).mono ?_
                rintro e u2 ⟨rfl, rfl⟩
                go_wp2_with fail
                refine (cR2 _ r1).mono ?_
                rintro e u4 ⟨rfl, r4⟩
                replace r1 := r1.trans r4.q.b
                have HF := Lib.hid (And.intro (CacheM.keepB hCz r1) (And.intro (hBz.trans r1) (hSz.keepB r1)))
                clear hCz hSz hBz hRz cT1 cT2 cR1 cR2 cB r1 r3 r4 hpe
                go_wp2
                go_roundw
                case rel => exact ⟨k + 1, E, svs, by omega, by go_num, by first | omega | (simp; omega), HF.out.1, HF.out.2.1, HF.out.2.2, hfs, hfg⟩
                case measure => simp [intOf]; omega
          · skip
            have hne : ∀ e ∈ E, e.l ≠ l0 := fun e he h => ex ⟨e, he, h⟩
            go_wp2_with fail
            refine (ctab_first w wa _ bwa hp hbm' hCa (by omega) (by omega) hVa hr hne).mono ?_
            rintro e wb ⟨y, e0, rfl, hy, hel, heb, hCb, bwb, gb⟩
            have hSb := hSa.g gb hCa.cs hCa.noBool
            have hVb := hCa.secs hVa gb
            have ho0 := (CacheM.his hCb e0 (by simp)).1
            have hfs' := hfs.more (e0 := e0) (fun g hg => by have := (hSa.seen.lt g hg).2; omega) ho0
            have hfg' := hfg.more (e0 := e0) (fun g hg => by have := (hSa.got.lt g hg).2; omega) ho0
            have zb := gb.size
            clear hCa bwa hSa hVa gb ex
            go_wp2_with fail
            refine (r3of_held _ l0 wb hVb).mono ?_
            rintro e wc h
            rcases h with ⟨_, p, rfl, hR, qc⟩ | ⟨h0, _⟩
            rotate_left
            · rw [hr] at h0; cases h0
            obtain ⟨pb, _, _, _, _, rfl, _⟩ := hR.now
            have hCc := CacheM.keepB hCb qc
            have bwc := bwb.trans qc
            have hSc := hSb.keepB qc
            have hVc := hVb.keepB qc
            have sbc := hVb
            have zc := qc.below.size
            have lbS := hSb.seen.lt
            have lbG := hSb.got.lt
            have cA : Calls Tryd.prog 12 #[.pointer (some ⟨c, 0, none⟩)] wc fun e w' => e = .returned (.int .i64 ((k : Int) + 1)) ∧ w' = wc := by simpa using casked_any wc hCc
            have HC := Lib.hid hCc
            have HS := Lib.hid hSc
            have HV := Lib.hid hVc
            have HR := Lib.hid hR
            have HB := Lib.hid bwc
            clear hCb hSb hVb bwb qc hCc hSc hVc bwc hR sbc
            go_wp2_with (first | (go_at_call 12; with_reducible refine cA.mono ?_; rintro e wc ⟨rfl, rfl⟩))
            go_wp2
            obtain ⟨wo, rfl⟩ : ∃ wo : World, wo = wr := ⟨_, rfl⟩
            go_loopw [14, 15] (fun at_ kk wx => ∃ (j : Nat) (aa : Int), j ≤ E.length ∧ kk = .int .i64 j ∧ at_ = .int .i64 aa ∧ AtI E l0 j aa ∧ B wc wx) (fun _ kk _ => E.length - (intOf kk).toNat)
            case atStart => exact ⟨0, -1, Nat.zero_le _, rfl, rfl, AtI.start _ _, B.refl _⟩
            case round =>
              obtain ⟨j, aa, hj, rfl, rfl, hAt, qx⟩ := hrel
              obtain ⟨wx, rfl⟩ : ∃ wx : World, wx = wr := ⟨_, rfl⟩
              by_cases hjl : j < E.length
              · have hjB : decide (j < E.length) = true := decide_eq_true hjl
                have hjI : (j : Int) < (E.length : Int) := by omega
                obtain ⟨gS, cS', eS⟩ := own_some HS.out.seen (by omega)
                simp only [Value.slice.injEq] at eS
                obtain ⟨rfl, _, rfl⟩ := eS
                have hgE := List.getElem?_eq_getElem hjl
                have hjs : j < svs.length := by have := HS.out.seen.1; omega
                have hgV := List.getElem?_eq_getElem hjs
                obtain ⟨hsj, _⟩ := HS.out.secs j _ _ hgE hgV
                have hcj := qx.keep ((HS.out.seen.cellAt j (by omega)).trans hgV)
                have hcj' : wx.cell? ((⟨gS, 0, none⟩ : Addr).add j) = some svs[j] := by rw [add0]; exact hcj
                generalize svs[j] = svj at *
                generalize E[j] = ej at *
                have cE := r3same_any svj (.slice ao1 l0.length cap1) ej.l l0 wx (hsj.keepB qx) (HV.out.keepB qx)
                have HE := Lib.hid hgE
                have HA := Lib.hid hAt
                clear hgV hgE hsj hAt
                by_cases he : ej.l = l0
                · rw [decide_eq_true he] at cE
                  have HH := Lib.hid he
                  clear he
                  go_wp2_with fail
                  refine cE.mono ?_
                  rintro e wy ⟨rfl, qy⟩
                  have qxy := qx.trans qy.b
                  clear qx qy
                  go_wp2
                  go_roundw
                  case rel => exact ⟨j + 1, j, by omega, by go_num, rfl, AtI.yes HE.out HH.out, qxy⟩
                  case measure => simp [intOf]; omega
                · rw [decide_eq_false he] at cE
                  have HH := Lib.hid he
                  clear he
                  go_wp2_with fail
                  refine cE.mono ?_
                  rintro e wy ⟨rfl, qy⟩
                  have qxy := qx.trans qy.b
                  clear qx qy
                  go_wp2
                  go_roundw
                  case rel => exact ⟨j + 1, aa, by omega, by go_num, rfl, AtI.no HA.out HE.out HH.out, qxy⟩
                  case measure => simp [intOf]; omega
              · have hjB : decide (j < E.length) = false := decide_eq_false hjl
                obtain rfl : j = E.length := by omega
                obtain rfl := AtI.none hAt hne
                have hB0 : decide ((-1 : Int) < 0) = true := by decide
                have hCx := CacheM.keepB HC.out qx
                have hSx := HS.out.keepB qx
                have hBx := HB.out.trans qx
                have hVx := HV.out.keepB qx
                have hRx := HR.out.keepB qx
                have hzx := qx.below.size
                have hm1 : E.length + 1 ≤ maxLen := by unfold maxLen; omega
                have hm2 : (E.length + 1) * 24 ≤ 140737488355328 := by omega
                have hm3 : (E.length + 1) * 8 ≤ 140737488355328 := by omega
                have hbx : base ≤ wx.heap.size := hCx.le
                have hixI : (E.length : Int) < (E.length : Int) + 1 := by omega
                have hpe := ptr_neq_same y
                have oS := hSx.seen
                have oG := hSx.got
                have KC := Lib.hid hCx
                have KS := Lib.hid hSx
                have KB := Lib.hid hBx
                have KV := Lib.hid hVx
                have KR := Lib.hid hRx
                clear hAt qx HC HS HB HR HV hCx hSx hBx hVx hRx cA
                go_wp2_with (first
                  | (at_builtin; refine wpList_append_lies _ rfl _ _ 28 rfl base 23 i0 _ 1 24 Tryd.underlying28 hi0 hz0 hz1 hz2 rfl (by omega) (.slice aS E.length capS) E.length svs rfl (oS.alloc _) ⟨wx.heap.size, 0, none⟩ 1 1 [(.slice ao1 l0.length cap1)] rfl rfl (news_plain rfl) (by intro u hu; rw [List.mem_singleton.1 hu]; rfl) (by omega) hm1 hm2 (by rw [alloc_size]; omega) (wx.heap.size + 1) (alloc_size _ _) ?_; intro g1 c1' wp hown1 hgrow1 hat1 hlt1; have oG1 : wp.ownsRow base 31 1 (.slice aG E.length capG) E.length (E.map Ent.p) := own_keep oG (fun g hg => (hgrow1.block g (by have := (oG.lt g hg).2; simp; omega) (fun e => KS.out.ap g e.symm hg)).trans (Below.heap_alloc _ _ _ (oG.lt g hg).2)); have hbp : base ≤ wp.heap.size := Nat.le_trans hbx (Nat.le_trans (by simp) hgrow1.size))
                  | (at_builtin; refine wpList_append_lies _ rfl _ _ 29 rfl base 31 i1 _ 1 8 Tryd.underlying29 hi1 hy0 hy1 hy2 rfl (by omega) (.slice aG E.length capG) E.length (E.map Ent.p) rfl (oG1.alloc _) ⟨wp.heap.size, 0, none⟩ 1 1 [.pointer (some ⟨y, 0, none⟩)] rfl rfl (news_plain rfl) (by intro u hu; rw [List.mem_singleton.1 hu]; rfl) (by omega) hm1 hm3 (by rw [alloc_size]; omega) (wp.heap.size + 1) (alloc_size _ _) ?_; intro g2 c2' wz hown2 hgrow2 hat2 hlt2; have hcg : wz.cell? ⟨g2, E.length, none⟩ = some (.pointer (some ⟨y, 0, none⟩)) := (hown2.cellAt E.length (by omega)).trans (by rw [List.getElem?_append_right (by simp)]; simp); have hcg' : wz.cell? ((⟨g2, 0, none⟩ : Addr).add E.length) = some (.pointer (some ⟨y, 0, none⟩)) := (by rw [add0]; exact hcg); rw [← hy] at hown2; obtain ⟨hCz, hBz, hSz, fz1, fz2, gz⟩ := seen_step (by omega) KC.out KB.out KS.out hfs' hfg' (hel ▸ KV.out) hsb hsS hsG (Nat.lt_of_lt_of_le hsb2 (by omega)) rfl hown1 hgrow1 (by rw [alloc_size]; exact hat1) hlt1 rfl hown2 hgrow2 (by rw [alloc_size]; exact hat2) hlt2; have hRz := gz.held KR.out (fun i z1 z2 h => by rcases h with h | h; have := (lbS i h).2; omega; have := (lbG i h).2; omega); have hpz := Lib.hid (And.intro hCz (And.intro hBz (And.intro hSz hRz))); clear hCz hBz hSz hRz gz KR KV hown1 hgrow1 hat1 hlt1 hown2 hgrow2 hat2 hlt2 oG1 oS oG KC KB KS hbp))
                obtain ⟨hCz, hBz, hSz, hRz⟩ := hpz.out
                clear hpz hne
                have cB : Calls Tryd.prog 14 #[.pointer (some ⟨c, 0, none⟩)] wz fun e w' => e = .returned (.int .i64 ((E.length : Int) + 1)) ∧ w' = wz := by simpa using cbuilt_any wz hCz
                have hbd := tbnd_of hr
                have htz := fun w' (q : B wz w') => (CacheM.keepB hCz q).ents e0 (by simp) |>.tab.held.now
                have cT1 := fun w' (q : B wz w') => cslices_any (.pointer (some ⟨y, 0, none⟩)) (slAll l0) w' hbd (by have := htz w' q; rwa [hy, hel] at this)
                have cT2 := fun w' (q : B wz w') => chigh_any (.pointer (some ⟨y, 0, none⟩)) (slAll l0) (slAll l0).length w' hbd (by have := htz w' q; rwa [hy, hel] at this)
                have cR1 := fun w' (q : B wz w') => r3slices_any (.pointer (some ⟨pb, 0, none⟩)) (slAll l0) hbd.n w' (hRz.keepB q).now
                have cR2 := fun w' (q : B wz w') => r3high_any (.pointer (some ⟨pb, 0, none⟩)) (slAll l0) hbd.n (slAll l0).length w' (hRz.keepB q).now
                have hpe := ptr_neq_same y
                generalize highT (slAll l0) (nearI (slAll l0).length (slAll l0).length) = HT at *
                generalize (slAll l0).length = NS at *
                clear htz hbd
                refine cB.mono ?_
                rintro e wz ⟨rfl, rfl⟩
                go_wp2_with fail
                refine (cT1 _ (B.refl _)).mono ?_
                rintro e u1 ⟨rfl, r1⟩
                go_wp2_with fail
                refine (cR1 _ r1).mono ?_
                rintro e u2 ⟨rfl, rfl⟩
                go_wp2_with fail
                refine (cR1 _ r1).mono ?_
                rintro e u2 ⟨rfl, rfl⟩
                go_wp2_with fail
                refine (cT2 _ r1).mono ?_
                rintro e u3 ⟨rfl, r3⟩
                replace r1 := r1.trans r3
                go_wp2_with fail
                refine (cR1 _ r1).mono ?_
                rintro e u2 ⟨rfl, rfl⟩
                go_wp2_with fail
                refine (cR2 _ r1).mono ?_
                rintro e u4 ⟨rfl, r4⟩
                replace r1 := r1.trans r4.q.b
                have HF := Lib.hid (And.intro (CacheM.keepB hCz r1) (And.intro (hBz.trans r1) (hSz.keepB r1)))
                clear hCz hSz hBz hRz cT1 cT2 cR1 cR2 cB r1 r3 r4 hpe
                go_wp2
                go_roundw
                case rel => exact ⟨k + 1, (E ++ [e0]), (svs ++ [(.slice ao1 l0.length cap1)]), by omega, by go_num, by first | omega | (simp; omega), HF.out.1, HF.out.2.1, HF.out.2.2, fz1, fz2⟩
                case measure => simp [intOf]; omega
        · have hr : rightS l0 = false := by simpa using hr
          go_wp2_with fail
          refine (ctab_none w wa _ bwa hbm' hCa (by omega) hVa hr).mono ?_
          rintro e wb ⟨rfl, hCb, bwb, gb⟩
          have hSb := hSa.g gb hCa.cs hCa.noBool
          have hVb := hCa.secs hVa gb
          clear hCa bwa hSa hVa gb
          go_wp2_with fail
          refine (r3of_held _ l0 wb hVb).mono ?_
          rintro e wc h
          rcases h with ⟨h0, _⟩ | ⟨_, rfl, qc⟩
          · rw [hr] at h0; cases h0
          have hCc := CacheM.keepB hCb qc
          have bwc := bwb.trans qc
          have hSc := hSb.keepB qc
          have cA : Calls Tryd.prog 12 #[.pointer (some ⟨c, 0, none⟩)] wc fun e w' => e = .returned (.int .i64 ((k : Int) + 1)) ∧ w' = wc := by simpa using casked_any wc hCc
          have HF := Lib.hid (And.intro hCc (And.intro bwc hSc))
          clear hCb bwb hSb hVb qc hCc bwc hSc
          go_wp2_with (first | (go_at_call 12; with_reducible refine cA.mono ?_; rintro e wc ⟨rfl, rfl⟩))
          go_roundw
          case rel => exact ⟨k + 1, E, svs, by omega, by go_num, by omega, HF.out.1, HF.out.2.1, HF.out.2.2, hfs, hfg⟩
          case measure => simp [intOf]; omega
      · have h9B : (r9 == 0) = false := by simp [h9]
        clear h9
        have hr := hmr
        have hrl := right_all hr
        obtain ⟨aV, capV, rfl⟩ := hsv.formL
        have hVa := hsv
        obtain ⟨sb, hsb, hsb2⟩ := isSecs_block hsv (by omega)
        have hsb1 := hga sb hsb
        have hsS : (Value.slice aS E.length capS).ownBlock ≠ some sb := fun e => by have := (hlS sb e).2; omega
        have hsG : (Value.slice aG E.length capG).ownBlock ≠ some sb := fun e => by have := (hlG sb e).2; omega
        clear hsv hga qa
        by_cases ex : ∃ e0 ∈ E, e0.l = LS
        · clear hsb hsS hsG
          obtain ⟨e0, k1, hel⟩ := ex
          obtain ⟨y, hy, _, _⟩ := (hCa.ents e0 k1).tab.at_
          go_wp2_with fail
          refine (ctab_again w wa _ bwa hp hbm' hCa (by omega) (by omega) hVa e0 k1 hel hy).mono ?_
          rintro e wb ⟨rfl, hCb, bwb, gb⟩
          have hSb := hSa.g gb hCa.cs hCa.noBool
          have hVb := hCa.secs hVa gb
          clear hCa bwa hSa hVa gb
          go_wp2_with fail
          refine (r3of_held _ LS wb hVb).mono ?_
          rintro e wc h
          rcases h with ⟨_, p, rfl, hR, qc⟩ | ⟨h0, _⟩
          rotate_left
          · rw [hr] at h0; cases h0
          obtain ⟨pb, _, _, _, _, rfl, _⟩ := hR.now
          have hCc := CacheM.keepB hCb qc
          have bwc := bwb.trans qc
          have hSc := hSb.keepB qc
          have hVc := hVb.keepB qc
          have sbc := hVb
          have zc := qc.below.size
          have cA : Calls Tryd.prog 12 #[.pointer (some ⟨c, 0, none⟩)] wc fun e w' => e = .returned (.int .i64 ((k : Int) + 1)) ∧ w' = wc := by simpa using casked_any wc hCc
          have HC := Lib.hid hCc
          have HS := Lib.hid hSc
          have HV := Lib.hid hVc
          have HR := Lib.hid hR
          have HB := Lib.hid bwc
          clear hCb hSb hVb bwb qc hCc hSc hVc bwc hR sbc
          go_wp2_with (first | (go_at_call 12; with_reducible refine cA.mono ?_; rintro e wc ⟨rfl, rfl⟩))
          go_wp2
          obtain ⟨wo, rfl⟩ : ∃ wo : World, wo = wr := ⟨_, rfl⟩
          go_loopw [14, 15] (fun at_ kk wx => ∃ (j : Nat) (aa : Int), j ≤ E.length ∧ kk = .int .i64 j ∧ at_ = .int .i64 aa ∧ AtI E LS j aa ∧ B wc wx) (fun _ kk _ => E.length - (intOf kk).toNat)
          case atStart => exact ⟨0, -1, Nat.zero_le _, rfl, rfl, AtI.start _ _, B.refl _⟩
          case round =>
            obtain ⟨j, aa, hj, rfl, rfl, hAt, qx⟩ := hrel
            obtain ⟨wx, rfl⟩ : ∃ wx : World, wx = wr := ⟨_, rfl⟩
            by_cases hjl : j < E.length
            · have hjB : decide (j < E.length) = true := decide_eq_true hjl
              have hjI : (j : Int) < (E.length : Int) := by omega
              obtain ⟨gS, cS', eS⟩ := own_some HS.out.seen (by omega)
              simp only [Value.slice.injEq] at eS
              obtain ⟨rfl, _, rfl⟩ := eS
              have hgE := List.getElem?_eq_getElem hjl
              have hjs : j < svs.length := by have := HS.out.seen.1; omega
              have hgV := List.getElem?_eq_getElem hjs
              obtain ⟨hsj, _⟩ := HS.out.secs j _ _ hgE hgV
              have hcj := qx.keep ((HS.out.seen.cellAt j (by omega)).trans hgV)
              have hcj' : wx.cell? ((⟨gS, 0, none⟩ : Addr).add j) = some svs[j] := by rw [add0]; exact hcj
              generalize svs[j] = svj at *
              generalize E[j] = ej at *
              have cE := r3same_any svj (.slice aV LS.length capV) ej.l LS wx (hsj.keepB qx) (HV.out.keepB qx)
              have HE := Lib.hid hgE
              have HA := Lib.hid hAt
              clear hgV hgE hsj hAt
              by_cases he : ej.l = LS
              · rw [decide_eq_true he] at cE
                have HH := Lib.hid he
                clear he
                go_wp2_with fail
                refine cE.mono ?_
                rintro e wy ⟨rfl, qy⟩
                have qxy := qx.trans qy.b
                clear qx qy
                go_wp2
                go_roundw
                case rel => exact ⟨j + 1, j, by omega, by go_num, rfl, AtI.yes HE.out HH.out, qxy⟩
                case measure => simp [intOf]; omega
              · rw [decide_eq_false he] at cE
                have HH := Lib.hid he
                clear he
                go_wp2_with fail
                refine cE.mono ?_
                rintro e wy ⟨rfl, qy⟩
                have qxy := qx.trans qy.b
                clear qx qy
                go_wp2
                go_roundw
                case rel => exact ⟨j + 1, aa, by omega, by go_num, rfl, AtI.no HA.out HE.out HH.out, qxy⟩
                case measure => simp [intOf]; omega
            · have hjB : decide (j < E.length) = false := decide_eq_false hjl
              obtain rfl : j = E.length := by omega
              obtain ⟨ix, rfl, hix, hixE⟩ := AtI.found hAt k1 hel HC.out.pairL
              have hB0 : decide ((ix : Int) < 0) = false := decide_eq_false (by omega)
              have hixI : (ix : Int) < (E.length : Int) := by omega
              obtain ⟨gG, cG', eG⟩ := own_some HS.out.got (by omega)
              simp only [Value.slice.injEq] at eG
              obtain ⟨rfl, _, rfl⟩ := eG
              have hcg : wx.cell? ⟨gG, ix, none⟩ = some (.pointer (some ⟨y, 0, none⟩)) := qx.keep ((HS.out.got.cellAt ix (by omega)).trans (by rw [List.getElem?_map, hixE]; exact congrArg some hy))
              have hcg' : wx.cell? ((⟨gG, 0, none⟩ : Addr).add ix) = some (.pointer (some ⟨y, 0, none⟩)) := by rw [add0]; exact hcg
              have hCz := CacheM.keepB HC.out qx
              have hSz := HS.out.keepB qx
              have hBz := HB.out.trans qx
              have hRz := HR.out.keepB qx
              obtain ⟨wz, rfl⟩ : ∃ z, z = wx := ⟨_, rfl⟩
              clear hAt hixE qx HR cA
              have cB : Calls Tryd.prog 14 #[.pointer (some ⟨c, 0, none⟩)] wz fun e w' => e = .returned (.int .i64 E.length) ∧ w' = wz := by simpa using cbuilt_any wz hCz
              have hbd := tbnd_of hr
              have htz := fun w' (q : B wz w') => (CacheM.keepB hCz q).ents e0 k1 |>.tab.held.now
              have cT1 := fun w' (q : B wz w') => cslices_any (.pointer (some ⟨y, 0, none⟩)) (slAll LS) w' hbd (by have := htz w' q; rwa [hy, hel] at this)
              have cT2 := fun w' (q : B wz w') => chigh_any (.pointer (some ⟨y, 0, none⟩)) (slAll LS) (slAll LS).length w' hbd (by have := htz w' q; rwa [hy, hel] at this)
              have cR1 := fun w' (q : B wz w') => r3slices_any (.pointer (some ⟨pb, 0, none⟩)) (slAll LS) hbd.n w' (hRz.keepB q).now
              have cR2 := fun w' (q : B wz w') => r3high_any (.pointer (some ⟨pb, 0, none⟩)) (slAll LS) hbd.n (slAll LS).length w' (hRz.keepB q).now
              have hpe := ptr_neq_same y
              generalize highT (slAll LS) (nearI (slAll LS).length (slAll LS).length) = HT at *
              generalize (slAll LS).length = NS at *
              clear htz hbd
              go_wp2_with fail
              refine cB.mono ?_
              rintro e wz ⟨rfl, rfl⟩
              go_wp2_with fail
              refine (cT1 _ (B.refl _)).mono ?_
              rintro e u1 ⟨rfl, r1⟩
              go_wp2_with fail
              refine (cR1 _ r1).mono ?_
              rintro e u2 ⟨rfl, rfl⟩
              go_wp2_with fail
              refine (cR1 _ r1).mono ?_
              rintro e u2 ⟨rfl, rfl⟩
              go_wp2_with fail
              refine (cT2 _ r1).mono ?_
              rintro e u3 ⟨rfl, r3⟩
              replace r1 := r1.trans r3
              go_wp2_with fail
              refine (cR1 _ r1).mono ?_
              rintro e u2 ⟨rfl, rfl⟩
              go_wp2_with fail
              refine (cR2 _ r1).mono ?_
              rintro e u4 ⟨rfl, r4⟩
              replace r1 := r1.trans r4.q.b
              have HF := Lib.hid (And.intro (CacheM.keepB hCz r1) (And.intro (hBz.trans r1) (hSz.keepB r1)))
              clear hCz hSz hBz hRz cT1 cT2 cR1 cR2 cB r1 r3 r4 hpe
              go_wp2
              go_roundw
              case rel => exact ⟨k + 1, E, svs, by omega, by go_num, by first | omega | (simp; omega), HF.out.1, HF.out.2.1, HF.out.2.2, hfs, hfg⟩
              case measure => simp [intOf]; omega
        · skip
          have hne : ∀ e ∈ E, e.l ≠ LS := fun e he h => ex ⟨e, he, h⟩
          go_wp2_with fail
          refine (ctab_first w wa _ bwa hp hbm' hCa (by omega) (by omega) hVa hr hne).mono ?_
          rintro e wb ⟨y, e0, rfl, hy, hel, heb, hCb, bwb, gb⟩
          have hSb := hSa.g gb hCa.cs hCa.noBool
          have hVb := hCa.secs hVa gb
          have ho0 := (CacheM.his hCb e0 (by simp)).1
          have hfs' := hfs.more (e0 := e0) (fun g hg => by have := (hSa.seen.lt g hg).2; omega) ho0
          have hfg' := hfg.more (e0 := e0) (fun g hg => by have := (hSa.got.lt g hg).2; omega) ho0
          have zb := gb.size
          clear hCa bwa hSa hVa gb ex
          go_wp2_with fail
          refine (r3of_held _ LS wb hVb).mono ?_
          rintro e wc h
          rcases h with ⟨_, p, rfl, hR, qc⟩ | ⟨h0, _⟩
          rotate_left
          · rw [hr] at h0; cases h0
          obtain ⟨pb, _, _, _, _, rfl, _⟩ := hR.now
          have hCc := CacheM.keepB hCb qc
          have bwc := bwb.trans qc
          have hSc := hSb.keepB qc
          have hVc := hVb.keepB qc
          have sbc := hVb
          have zc := qc.below.size
          have lbS := hSb.seen.lt
          have lbG := hSb.got.lt
          have cA : Calls Tryd.prog 12 #[.pointer (some ⟨c, 0, none⟩)] wc fun e w' => e = .returned (.int .i64 ((k : Int) + 1)) ∧ w' = wc := by simpa using casked_any wc hCc
          have HC := Lib.hid hCc
          have HS := Lib.hid hSc
          have HV := Lib.hid hVc
          have HR := Lib.hid hR
          have HB := Lib.hid bwc
          clear hCb hSb hVb bwb qc hCc hSc hVc bwc hR sbc
          go_wp2_with (first | (go_at_call 12; with_reducible refine cA.mono ?_; rintro e wc ⟨rfl, rfl⟩))
          go_wp2
          obtain ⟨wo, rfl⟩ : ∃ wo : World, wo = wr := ⟨_, rfl⟩
          go_loopw [14, 15] (fun at_ kk wx => ∃ (j : Nat) (aa : Int), j ≤ E.length ∧ kk = .int .i64 j ∧ at_ = .int .i64 aa ∧ AtI E LS j aa ∧ B wc wx) (fun _ kk _ => E.length - (intOf kk).toNat)
          case atStart => exact ⟨0, -1, Nat.zero_le _, rfl, rfl, AtI.start _ _, B.refl _⟩
          case round =>
            obtain ⟨j, aa, hj, rfl, rfl, hAt, qx⟩ := hrel
            obtain ⟨wx, rfl⟩ : ∃ wx : World, wx = wr := ⟨_, rfl⟩
            by_cases hjl : j < E.length
            · have hjB : decide (j < E.length) = true := decide_eq_true hjl
              have hjI : (j : Int) < (E.length : Int) := by omega
              obtain ⟨gS, cS', eS⟩ := own_some HS.out.seen (by omega)
              simp only [Value.slice.injEq] at eS
              obtain ⟨rfl, _, rfl⟩ := eS
              have hgE := List.getElem?_eq_getElem hjl
              have hjs : j < svs.length := by have := HS.out.seen.1; omega
              have hgV := List.getElem?_eq_getElem hjs
              obtain ⟨hsj, _⟩ := HS.out.secs j _ _ hgE hgV
              have hcj := qx.keep ((HS.out.seen.cellAt j (by omega)).trans hgV)
              have hcj' : wx.cell? ((⟨gS, 0, none⟩ : Addr).add j) = some svs[j] := by rw [add0]; exact hcj
              generalize svs[j] = svj at *
              generalize E[j] = ej at *
              have cE := r3same_any svj (.slice aV LS.length capV) ej.l LS wx (hsj.keepB qx) (HV.out.keepB qx)
              have HE := Lib.hid hgE
              have HA := Lib.hid hAt
              clear hgV hgE hsj hAt
              by_cases he : ej.l = LS
              · rw [decide_eq_true he] at cE
                have HH := Lib.hid he
                clear he
                go_wp2_with fail
                refine cE.mono ?_
                rintro e wy ⟨rfl, qy⟩
                have qxy := qx.trans qy.b
                clear qx qy
                go_wp2
                go_roundw
                case rel => exact ⟨j + 1, j, by omega, by go_num, rfl, AtI.yes HE.out HH.out, qxy⟩
                case measure => simp [intOf]; omega
              · rw [decide_eq_false he] at cE
                have HH := Lib.hid he
                clear he
                go_wp2_with fail
                refine cE.mono ?_
                rintro e wy ⟨rfl, qy⟩
                have qxy := qx.trans qy.b
                clear qx qy
                go_wp2
                go_roundw
                case rel => exact ⟨j + 1, aa, by omega, by go_num, rfl, AtI.no HA.out HE.out HH.out, qxy⟩
                case measure => simp [intOf]; omega
            · have hjB : decide (j < E.length) = false := decide_eq_false hjl
              obtain rfl : j = E.length := by omega
              obtain rfl := AtI.none hAt hne
              have hB0 : decide ((-1 : Int) < 0) = true := by decide
              have hCx := CacheM.keepB HC.out qx
              have hSx := HS.out.keepB qx
              have hBx := HB.out.trans qx
              have hVx := HV.out.keepB qx
              have hRx := HR.out.keepB qx
              have hzx := qx.below.size
              have hm1 : E.length + 1 ≤ maxLen := by unfold maxLen; omega
              have hm2 : (E.length + 1) * 24 ≤ 140737488355328 := by omega
              have hm3 : (E.length + 1) * 8 ≤ 140737488355328 := by omega
              have hbx : base ≤ wx.heap.size := hCx.le
              have hixI : (E.length : Int) < (E.length : Int) + 1 := by omega
              have hpe := ptr_neq_same y
              have oS := hSx.seen
              have oG := hSx.got
              have KC := Lib.hid hCx
              have KS := Lib.hid hSx
              have KB := Lib.hid hBx
              have KV := Lib.hid hVx
              have KR := Lib.hid hRx
              clear hAt qx HC HS HB HR HV hCx hSx hBx hVx hRx cA
              go_wp2_with (first
                | (at_builtin; refine wpList_append_lies _ rfl _ _ 28 rfl base 23 i0 _ 1 24 Tryd.underlying28 hi0 hz0 hz1 hz2 rfl (by omega) (.slice aS E.length capS) E.length svs rfl (oS.alloc _) ⟨wx.heap.size, 0, none⟩ 1 1 [(.slice aV LS.length capV)] rfl rfl (news_plain rfl) (by intro u hu; rw [List.mem_singleton.1 hu]; rfl) (by omega) hm1 hm2 (by rw [alloc_size]; omega) (wx.heap.size + 1) (alloc_size _ _) ?_; intro g1 c1' wp hown1 hgrow1 hat1 hlt1; have oG1 : wp.ownsRow base 31 1 (.slice aG E.length capG) E.length (E.map Ent.p) := own_keep oG (fun g hg => (hgrow1.block g (by have := (oG.lt g hg).2; simp; omega) (fun e => KS.out.ap g e.symm hg)).trans (Below.heap_alloc _ _ _ (oG.lt g hg).2)); have hbp : base ≤ wp.heap.size := Nat.le_trans hbx (Nat.le_trans (by simp) hgrow1.size))
                | (at_builtin; refine wpList_append_lies _ rfl _ _ 29 rfl base 31 i1 _ 1 8 Tryd.underlying29 hi1 hy0 hy1 hy2 rfl (by omega) (.slice aG E.length capG) E.length (E.map Ent.p) rfl (oG1.alloc _) ⟨wp.heap.size, 0, none⟩ 1 1 [.pointer (some ⟨y, 0, none⟩)] rfl rfl (news_plain rfl) (by intro u hu; rw [List.mem_singleton.1 hu]; rfl) (by omega) hm1 hm3 (by rw [alloc_size]; omega) (wp.heap.size + 1) (alloc_size _ _) ?_; intro g2 c2' wz hown2 hgrow2 hat2 hlt2; have hcg : wz.cell? ⟨g2, E.length, none⟩ = some (.pointer (some ⟨y, 0, none⟩)) := (hown2.cellAt E.length (by omega)).trans (by rw [List.getElem?_append_right (by simp)]; simp); have hcg' : wz.cell? ((⟨g2, 0, none⟩ : Addr).add E.length) = some (.pointer (some ⟨y, 0, none⟩)) := (by rw [add0]; exact hcg); rw [← hy] at hown2; obtain ⟨hCz, hBz, hSz, fz1, fz2, gz⟩ := seen_step (by omega) KC.out KB.out KS.out hfs' hfg' (hel ▸ KV.out) hsb hsS hsG (Nat.lt_of_lt_of_le hsb2 (by omega)) rfl hown1 hgrow1 (by rw [alloc_size]; exact hat1) hlt1 rfl hown2 hgrow2 (by rw [alloc_size]; exact hat2) hlt2; have hRz := gz.held KR.out (fun i z1 z2 h => by rcases h with h | h; have := (lbS i h).2; omega; have := (lbG i h).2; omega); have hpz := Lib.hid (And.intro hCz (And.intro hBz (And.intro hSz hRz))); clear hCz hBz hSz hRz gz KR KV hown1 hgrow1 hat1 hlt1 hown2 hgrow2 hat2 hlt2 oG1 oS oG KC KB KS hbp))
              obtain ⟨hCz, hBz, hSz, hRz⟩ := hpz.out
              clear hpz hne
              have cB : Calls Tryd.prog 14 #[.pointer (some ⟨c, 0, none⟩)] wz fun e w' => e = .returned (.int .i64 ((E.length : Int) + 1)) ∧ w' = wz := by simpa using cbuilt_any wz hCz
              have hbd := tbnd_of hr
              have htz := fun w' (q : B wz w') => (CacheM.keepB hCz q).ents e0 (by simp) |>.tab.held.now
              have cT1 := fun w' (q : B wz w') => cslices_any (.pointer (some ⟨y, 0, none⟩)) (slAll LS) w' hbd (by have := htz w' q; rwa [hy, hel] at this)
              have cT2 := fun w' (q : B wz w') => chigh_any (.pointer (some ⟨y, 0, none⟩)) (slAll LS) (slAll LS).length w' hbd (by have := htz w' q; rwa [hy, hel] at this)
              have cR1 := fun w' (q : B wz w') => r3slices_any (.pointer (some ⟨pb, 0, none⟩)) (slAll LS) hbd.n w' (hRz.keepB q).now
              have cR2 := fun w' (q : B wz w') => r3high_any (.pointer (some ⟨pb, 0, none⟩)) (slAll LS) hbd.n (slAll LS).length w' (hRz.keepB q).now
              have hpe := ptr_neq_same y
              generalize highT (slAll LS) (nearI (slAll LS).length (slAll LS).length) = HT at *
              generalize (slAll LS).length = NS at *
              clear htz hbd
              refine cB.mono ?_
              rintro e wz ⟨rfl, rfl⟩
              go_wp2_with fail
              refine (cT1 _ (B.refl _)).mono ?_
              rintro e u1 ⟨rfl, r1⟩
              go_wp2_with fail
              refine (cR1 _ r1).mono ?_
              rintro e u2 ⟨rfl, rfl⟩
              go_wp2_with fail
              refine (cR1 _ r1).mono ?_
              rintro e u2 ⟨rfl, rfl⟩
              go_wp2_with fail
              refine (cT2 _ r1).mono ?_
              rintro e u3 ⟨rfl, r3⟩
              replace r1 := r1.trans r3
              go_wp2_with fail
              refine (cR1 _ r1).mono ?_
              rintro e u2 ⟨rfl, rfl⟩
              go_wp2_with fail
              refine (cR2 _ r1).mono ?_
              rintro e u4 ⟨rfl, r4⟩
              replace r1 := r1.trans r4.q.b
              have HF := Lib.hid (And.intro (CacheM.keepB hCz r1) (And.intro (hBz.trans r1) (hSz.keepB r1)))
              clear hCz hSz hBz hRz cT1 cT2 cR1 cR2 cB r1 r3 r4 hpe
              go_wp2
              go_roundw
              case rel => exact ⟨k + 1, (E ++ [e0]), (svs ++ [(.slice aV LS.length capV)]), by omega, by go_num, by first | omega | (simp; omega), HF.out.1, HF.out.2.1, HF.out.2.2, fz1, fz2⟩
              case measure => simp [intOf]; omega
    · have hkB : decide (k < n) = false := decide_eq_false hkn
      clear hC hS hfs hfg
      go_wp2
      go_ret
      exact ⟨rfl, bw⟩

set_option maxRecDepth 100000 in
set_option maxHeartbeats 4000000 in
theorem plays_law (v0 v1 : Value) (n : Nat) (l0 : List Sec) (w : World) (h0 : IsU8 w v0 n) (h1 : IsSecs w v1 l0) (hp : Pow10 w) :
    Calls Tryd.prog 3 #[v0, v1] w fun e w' => e = .returned (.bool true) ∧ B w w' := by
  by_cases c0 : n ≤ 60
  · by_cases c1 : l0.length ≤ 6
    · exact plays_main v0 v1 n l0 w h0 h1 hp c0 c1
    · have cK := known6_any w hp
      have cL := fun w' (q : B w w') => light_any v1 l0 w' (h1.keepB q) false (decide_eq_false (by omega))
      obtain ⟨ao0, cap0, rfl, _⟩ := h0.form
      obtain ⟨ao1, cap1, rfl⟩ := h1.formL
      have d0 : decide (60 < (n : Int)) = false := decide_eq_false (by omega)
      have hnot : ∀ (x : Bool) (w : World), (Op.unary .not (.bool x)).run Tryd.prog w = .ok (.bool (!x)) w := fun _ _ => rfl
      clear h0 h1 c0 c1
      go_enter Tryd.func3, Tryd.ntmps3
      go_wp2_with fail
      refine cK.mono ?_
      rintro e w1 ⟨rfl, b1⟩
      go_wp2_with fail
      refine (cL _ b1).mono ?_
      rintro e w1' ⟨rfl, rfl⟩
      go_wp2
      go_ret
      exact ⟨rfl, b1⟩
  · have cK := known6_any w hp
    obtain ⟨ao0, cap0, rfl, _⟩ := h0.form
    obtain ⟨ao1, cap1, rfl⟩ := h1.formL
    have d0 : decide (60 < (n : Int)) = true := decide_eq_true (by omega)
    have hnot : ∀ (x : Bool) (w : World), (Op.unary .not (.bool x)).run Tryd.prog w = .ok (.bool (!x)) w := fun _ _ => rfl
    clear h0 h1 c0
    go_enter Tryd.func3, Tryd.ntmps3
    go_wp2_with fail
    refine cK.mono ?_
    rintro e w1 ⟨rfl, b1⟩
    go_wp2
    go_ret
    exact ⟨rfl, b1⟩
theorem plays_ok (v0 : Value) (n : Nat) (v1 : Value) (l0 : List Sec) (w : World) (h0 : IsU8 w v0 n) (h1 : IsSecs w v1 l0) (htab : Lib.TabIs Tryd.prog w "internal/strconv.uint64pow10" .u64 Lib.pow10Tab) :
    Calls Tryd.prog 3 #[v0, v1] w fun e w' => e = .returned (.bool true) ∧ B w w' := plays_law v0 v1 n l0 w h0 h1 (Lib.tabBelow_of_tabIs htab)
end Go.Proofs.YtppiocopokbdlaaDoor
