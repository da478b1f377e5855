/-
  Arguments opened: a slice of pieces; ProtoRights, over any arguments.
-/
import Derived.Test.YtnmcgleanpdlmaaDoorChecked
import Derived.ProofKit
import Derived.OpenShut
import Derived.Deep.Slices
import Derived.ChangeArms
import Derived.Test.YtnmcgleanpdlmaaDoorY1
import Derived.Test.YtnmcgleanpdlmaaDoorY2
import Derived.Test.YtnmcgleanpdlmaaDoorY3
import Derived.Test.YtnmcgleanpdlmaaDoorY4
import Derived.Test.YtnmcgleanpdlmaaDoorY5
import Derived.Test.YtnmcgleanpdlmaaDoorY6
import Derived.Test.YtnmcgleanpdlmaaDoorY7
import Derived.Test.YtnmcgleanpdlmaaDoorY8
import Derived.Test.YtnmcgleanpdlmaaDoorY9
import Derived.Test.YtnmcgleanpdlmaaDoorY10
import Derived.Test.YtnmcgleanpdlmaaDoorY11
import Derived.Test.YtnmcgleanpdlmaaDoorY12
import Derived.Test.YtnmcgleanpdlmaaDoorY13
import Derived.Test.YtnmcgleanpdlmaaDoorY14
import Derived.Test.YtnmcgleanpdlmaaDoorY15
import Derived.Test.YtnmcgleanpdlmaaDoorY16
import Derived.Test.YtnmcgleanpdlmaaDoorY17
import Derived.Test.YtnmcgleanpdlmaaDoorY18
import Derived.Test.YtnmcgleanpdlmaaDoorY19
namespace Go.Proofs.YtnmcgleanpdlmaaDoor
open Go.RowKit Go.ChangeShapes Go.WideShapes Go.ChangeAt Go.Deep
instance : Inhabited Pz := ⟨⟨0, 0, 0, 0, 0⟩⟩
def Pz.cells (z : Pz) : List Value := [.int .u8 (z.k : Int), .int .u8 (z.a : Int), .int .u8 (z.b : Int), .int .u8 (z.c : Int), .int .u32 (z.v : Int)]
def Pz.ok (z : Pz) : Prop := z.k < 256 ∧ z.a < 256 ∧ z.b < 256 ∧ z.c < 256 ∧ z.v < 4294967296
theorem u8_n {a : Int} (w : (Lit.int .u8 a).wf = true) : 0 ≤ a ∧ a < 256 := by
  simp [Lit.wf, IntKind.min, IntKind.max, IntKind.signed, IntKind.bits] at w
  omega
theorem u32_n {a : Int} (w : (Lit.int .u32 a).wf = true) : 0 ≤ a ∧ a < 4294967296 := by
  simp [Lit.wf, IntKind.min, IntKind.max, IntKind.signed, IntKind.bits] at w
  omega
set_option maxRecDepth 100000 in
theorem pz_open {H : Type} {enc : TypeId × Value → H} {W : World} {base : Nat} {sp : Nat → Bool} {held : Bool} {fuel : Nat} {cs : List Value} {x : DataW H × List MemPlace}
    (h : DataW.trod enc Tryd.prog W base sp held fuel 60 cs = some x) : ∃ s : Pz, s.ok ∧ cs = s.cells := by
  obtain ⟨xs, n, _, _, hl, hlen, hf⟩ := DataW.trod_struct Tryd.underlying60 h
  rw [show Tryd.prog.cellsOf 60 = 5 by kernel_rfl] at hl
  have c1 : Tryd.prog.cellsOf 5 = 1 := by kernel_rfl
  have c0 : Tryd.prog.cellsOf 58 = 1 := by kernel_rfl
  match xs, hlen, cs, hl with
  | [x0, x1, x2, x3, x4], _, [v0, v1, v2, v3, v4], _ =>
    have f0 : DataW.trod enc Tryd.prog W base sp held n 5 (([v0, v1, v2, v3, v4].drop 0).take (Tryd.prog.cellsOf 5)) = some x0 := hf 0 _ rfl
    have f1 : DataW.trod enc Tryd.prog W base sp held n 5 (([v0, v1, v2, v3, v4].drop 1).take (Tryd.prog.cellsOf 5)) = some x1 := hf 1 _ rfl
    have f2 : DataW.trod enc Tryd.prog W base sp held n 5 (([v0, v1, v2, v3, v4].drop 2).take (Tryd.prog.cellsOf 5)) = some x2 := hf 2 _ rfl
    have f3 : DataW.trod enc Tryd.prog W base sp held n 5 (([v0, v1, v2, v3, v4].drop 3).take (Tryd.prog.cellsOf 5)) = some x3 := hf 3 _ rfl
    have f4 : DataW.trod enc Tryd.prog W base sp held n 58 (([v0, v1, v2, v3, v4].drop 4).take (Tryd.prog.cellsOf 58)) = some x4 := hf 4 _ rfl
    rw [c1] at f0 f1 f2 f3
    rw [c0] at f4
    obtain ⟨a0, e0, _, w0⟩ := DataW.trod_int Tryd.underlying5 f0
    obtain ⟨a1, e1, _, w1⟩ := DataW.trod_int Tryd.underlying5 f1
    obtain ⟨a2, e2, _, w2⟩ := DataW.trod_int Tryd.underlying5 f2
    obtain ⟨a3, e3, _, w3⟩ := DataW.trod_int Tryd.underlying5 f3
    obtain ⟨a4, e4, _, w4⟩ := DataW.trod_int Tryd.underlying58 f4
    simp at e0 e1 e2 e3 e4
    subst e0 e1 e2 e3 e4
    obtain ⟨l0, m0⟩ := u8_n w0
    obtain ⟨l1, m1⟩ := u8_n w1
    obtain ⟨l2, m2⟩ := u8_n w2
    obtain ⟨l3, m3⟩ := u8_n w3
    obtain ⟨l4, m4⟩ := u32_n w4
    obtain ⟨n0, rfl⟩ := Int.eq_ofNat_of_zero_le l0
    obtain ⟨n1, rfl⟩ := Int.eq_ofNat_of_zero_le l1
    obtain ⟨n2, rfl⟩ := Int.eq_ofNat_of_zero_le l2
    obtain ⟨n3, rfl⟩ := Int.eq_ofNat_of_zero_le l3
    obtain ⟨n4, rfl⟩ := Int.eq_ofNat_of_zero_le l4
    exact ⟨⟨n0, n1, n2, n3, n4⟩, ⟨by show n0 < 256; omega, by show n1 < 256; omega, by show n2 < 256; omega, by show n3 < 256; omega, by show n4 < 4294967296; omega⟩, rfl⟩
set_option maxRecDepth 100000 in
theorem open_pzs {H : Type} {enc : TypeId × Value → H} {W : World} {base b0 : Nat} {sp : Nat → Bool} {held : Bool} {r : Reach} {v : Value} {d : DataW H} {p : List MemPlace}
    (hv : Value.okWide Tryd.prog W r b0 23 v) (h : DataW.Trod enc Tryd.prog W base sp held 23 v d p) : ∃ l, IsPzs W v l := by
  obtain ⟨o, len, cap, rfl⟩ := okWide_slice Tryd.underlying23 hv
  obtain ⟨fuel, hf⟩ := h
  rcases open_slice Tryd.underlying23 hf with ⟨hcs, _⟩ | ⟨a, ln, cp, m, n, D, Pl, hcs, _, hl, hm, hmm, _, hx⟩
  · simp [Value.cells] at hcs
    obtain ⟨rfl, rfl, rfl⟩ := hcs
    exact ⟨[], .inl ⟨rfl, rfl⟩⟩
  · simp [Value.cells] at hcs
    obtain ⟨rfl, rfl, rfl⟩ := hcs
    rw [show Tryd.prog.cellsOf 60 = 5 by kernel_rfl] at hx
    have hle : len ≤ m := by rw [hmm]; split <;> omega
    obtain ⟨S, hS⟩ := choose_lt (α := Pz) (n := len) (p := fun i s => s.ok ∧ ∀ j, j < 5 → W.cell? ((a.add (i * 5)).add j) = s.cells[j]?) (fun i hi => by
      obtain ⟨cs', h1, h2⟩ := hx i (by omega)
      obtain ⟨s, hI, rfl⟩ := pz_open h2
      obtain ⟨_, _, h3⟩ := World.cells?_some h1
      exact ⟨s, hI, h3⟩)
    refine ⟨(List.range len).map S, .inr ⟨a, cap, by simp, by simpa using hl, hm, fun i s hs => ?_⟩⟩
    have hi : i < len := by
      have := (List.getElem?_eq_some_iff.1 hs).1
      simpa using this
    have e : s = S i := by
      rw [List.getElem?_map, List.getElem?_range hi] at hs
      simpa using hs.symm
    subst e
    obtain ⟨hI, hc⟩ := hS i hi
    generalize a.add (i * 5) = q at *
    have g0 := hc 0 (by omega)
    have g1 := hc 1 (by omega)
    have g2 := hc 2 (by omega)
    have g3 := hc 3 (by omega)
    have g4 := hc 4 (by omega)
    simp [Addr.add, Pz.cells] at g0 g1 g2 g3 g4
    exact ⟨g0, g1, g2, g3, g4, hI⟩
end Go.Proofs.YtnmcgleanpdlmaaDoor

namespace Go.Proofs.YtnmcgleanpdlmaaDoor
open Go.RowKit
set_option linter.unusedVariables false
theorem rights12_ok (rv : Value) (RL : List Sp) (a b c d : Int) (lv : Value) (ps : List Pz) (at_ bend v : Int) (wa : (Lit.int .u8 a).wf = true) (wb : (Lit.int .u8 b).wf = true) (wc : (Lit.int .u8 c).wf = true) (wd : (Lit.int .u8 d).wf = true) (we : (Lit.int .u8 at_).wf = true) (wf : (Lit.int .u8 bend).wf = true) (wg : (Lit.int .i64 v).wf = true) (w : World) (hR : IsSps w rv RL) (hRo : ∀ s ∈ RL, s.ok) (hP : IsPzs w lv ps)
    (htab : Lib.TabIs Tryd.prog w "internal/strconv.uint64pow10" .u64 Lib.pow10Tab) :
    Calls Tryd.prog 3 #[rv, .int .u8 a, .int .u8 b, .int .u8 c, .int .u8 d, lv, .int .u8 at_, .int .u8 bend, .int .i64 v] w fun e w' => e = .returned (.bool true) ∧ B w w' := by
  obtain ⟨n1, n2⟩ := u8_wf we
  obtain ⟨m1, m2⟩ := u8_wf wf
  have h := rights12_any rv RL a b c d lv ps at_.toNat bend.toNat v (by omega) (by omega) (i64_wf wg) (u8_wf wa) (u8_wf wb) (u8_wf wc) (u8_wf wd) w hR hRo hP htab
  rw [show ((at_.toNat : Nat) : Int) = at_ by omega, show ((bend.toNat : Nat) : Int) = bend by omega] at h
  exact h
end Go.Proofs.YtnmcgleanpdlmaaDoor
