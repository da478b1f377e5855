/-
  Arguments opened: a slice of sections.
-/
import Derived.Test.YtikdfoeinlnfgaaChecked
import Derived.Test.YtikdfoeinlnfgaaSec
import Derived.ProofKit
import Derived.OpenShut
import Derived.Deep.Slices
import Derived.ChangeArms
namespace Go.Proofs.Ytikdfoeinlnfgaa
open Go.RowKit Go.ChangeShapes Go.WideShapes Go.ChangeAt Go.Deep

theorem sec_open {H : Type} {enc : TypeId × Value → H} {W : World} {base : Nat} {sp : Nat → Bool} {held : Bool} {fuel : Nat} {cs : List Value} {x : DataW H × List MemPlace}
    (h : DataW.trod enc Try.prog W base sp held fuel 43 cs = some x) : ∃ s : Sec, s.I ∧ cs = s.cells := by
  obtain ⟨xs, n, _, _, hl, hlen, hf⟩ := DataW.trod_struct Try.underlying43 h
  rw [show Try.prog.cellsOf 43 = 6 by kernel_rfl] at hl
  have c1 : Try.prog.cellsOf 2 = 1 := by kernel_rfl
  have c0 : Try.prog.cellsOf 4 = 1 := by kernel_rfl
  match xs, hlen, cs, hl with
  | [x0, x1, x2, x3, x4, x5], _, [v0, v1, v2, v3, v4, v5], _ =>
    have f0 : DataW.trod enc Try.prog W base sp held n 4 (([v0, v1, v2, v3, v4, v5].drop 0).take (Try.prog.cellsOf 4)) = some x0 := hf 0 _ rfl
    have f1 : DataW.trod enc Try.prog W base sp held n 2 (([v0, v1, v2, v3, v4, v5].drop 1).take (Try.prog.cellsOf 2)) = some x1 := hf 1 _ rfl
    have f2 : DataW.trod enc Try.prog W base sp held n 2 (([v0, v1, v2, v3, v4, v5].drop 2).take (Try.prog.cellsOf 2)) = some x2 := hf 2 _ rfl
    have f3 : DataW.trod enc Try.prog W base sp held n 2 (([v0, v1, v2, v3, v4, v5].drop 3).take (Try.prog.cellsOf 2)) = some x3 := hf 3 _ rfl
    have f4 : DataW.trod enc Try.prog W base sp held n 2 (([v0, v1, v2, v3, v4, v5].drop 4).take (Try.prog.cellsOf 2)) = some x4 := hf 4 _ rfl
    have f5 : DataW.trod enc Try.prog W base sp held n 2 (([v0, v1, v2, v3, v4, v5].drop 5).take (Try.prog.cellsOf 2)) = some x5 := hf 5 _ rfl
    rw [c0] at f0
    rw [c1] at f1 f2 f3 f4 f5
    obtain ⟨r, e0, _⟩ := DataW.trod_bool Try.underlying4 f0
    obtain ⟨a1, e1, _, w1⟩ := DataW.trod_int Try.underlying2 f1
    obtain ⟨a2, e2, _, w2⟩ := DataW.trod_int Try.underlying2 f2
    obtain ⟨a3, e3, _, w3⟩ := DataW.trod_int Try.underlying2 f3
    obtain ⟨a4, e4, _, w4⟩ := DataW.trod_int Try.underlying2 f4
    obtain ⟨a5, e5, _, w5⟩ := DataW.trod_int Try.underlying2 f5
    simp at e0 e1 e2 e3 e4 e5
    subst e0 e1 e2 e3 e4 e5
    exact ⟨⟨r, a1, a2, a3, a4, a5⟩, ⟨i64_wf w1, i64_wf w2, i64_wf w3, i64_wf w4, i64_wf w5⟩, rfl⟩

theorem open_secs {H : Type} {enc : TypeId × Value → H} {W : World} {base b0 : Nat} {sp : Nat → Bool} {held : Bool} {r : Reach} {v : Value} {d : DataW H} {p : List MemPlace}
    (hv : Value.okWide Try.prog W r b0 22 v) (h : DataW.Trod enc Try.prog W base sp held 22 v d p) : ∃ l, IsSecs W v l := by
  obtain ⟨o, len, cap, rfl⟩ := okWide_slice Try.underlying22 hv
  obtain ⟨fuel, hf⟩ := h
  rcases open_slice Try.underlying22 hf with ⟨hcs, _⟩ | ⟨a, ln, cp, m, n, D, Pl, hcs, _, hl, hm, hmm, _, hx⟩
  · simp [Value.cells] at hcs
    obtain ⟨rfl, rfl, rfl⟩ := hcs
    exact ⟨[], .inl ⟨rfl, rfl⟩⟩
  · simp [Value.cells] at hcs
    obtain ⟨rfl, rfl, rfl⟩ := hcs
    rw [show Try.prog.cellsOf 43 = 6 by kernel_rfl] at hx
    have hle : len ≤ m := by rw [hmm]; split <;> omega
    obtain ⟨S, hS⟩ := choose_lt (α := Sec) (n := len) (p := fun i s => s.I ∧ ∀ j, j < 6 → W.cell? ((a.add (i * 6)).add j) = s.cells[j]?) (fun i hi => by
      obtain ⟨cs', h1, h2⟩ := hx i (by omega)
      obtain ⟨s, hI, rfl⟩ := sec_open h2
      obtain ⟨_, _, h3⟩ := World.cells?_some h1
      exact ⟨s, hI, h3⟩)
    refine ⟨(List.range len).map S, .inr ⟨a, cap, by simp, by simpa using hl, hm, fun i s hs => ?_⟩⟩
    have hi : i < len := by
      have := (List.getElem?_eq_some_iff.1 hs).1
      simpa using this
    have e : s = S i := by
      rw [List.getElem?_map, List.getElem?_range hi] at hs
      simpa using hs.symm
    subst e
    obtain ⟨hI, hc⟩ := hS i hi
    refine ⟨hI, ?_⟩
    generalize a.add (i * 6) = q at *
    have g0 := hc 0 (by omega)
    have g1 := hc 1 (by omega)
    have g2 := hc 2 (by omega)
    have g3 := hc 3 (by omega)
    have g4 := hc 4 (by omega)
    have g5 := hc 5 (by omega)
    simp [Addr.add, Sec.cells] at g0 g1 g2 g3 g4 g5
    exact ⟨g0, g1, g2, g3, g4, g5⟩
end Go.Proofs.Ytikdfoeinlnfgaa
