/-
  ExpandWells: a step is put in among others; Arguments opened: a slice of pieces.
-/
import Derived.Maps.AppendAt
import Derived.Laws.Strings2
import Derived.Laws.Slices
import Derived.KernelRfl
import Derived.Test.YtjdkhobkdlldnaaGreatDoorChecked
import Derived.ProofKit
import Derived.OpenShut
import Derived.Deep.Slices
import Derived.ChangeArms
import Derived.Test.YtjdkhobkdlldnaaGreatDoorY1
import Derived.Test.YtjdkhobkdlldnaaGreatDoorY2
import Derived.Test.YtjdkhobkdlldnaaGreatDoorY3
import Derived.Test.YtjdkhobkdlldnaaGreatDoorY4
import Derived.Test.YtjdkhobkdlldnaaGreatDoorY5
import Derived.Test.YtjdkhobkdlldnaaGreatDoorY6
import Derived.Test.YtjdkhobkdlldnaaGreatDoorY7
import Derived.Test.YtjdkhobkdlldnaaGreatDoorY8
import Derived.Test.YtjdkhobkdlldnaaGreatDoorY9
import Derived.Test.YtjdkhobkdlldnaaGreatDoorY10
import Derived.Test.YtjdkhobkdlldnaaGreatDoorY11
import Derived.Test.YtjdkhobkdlldnaaGreatDoorY12
import Derived.Test.YtjdkhobkdlldnaaGreatDoorY13
import Derived.Test.YtjdkhobkdlldnaaGreatDoorY14
import Derived.Test.YtjdkhobkdlldnaaGreatDoorY15
import Derived.Test.YtjdkhobkdlldnaaGreatDoorY16
import Derived.Test.YtjdkhobkdlldnaaGreatDoorY17
import Derived.Test.YtjdkhobkdlldnaaGreatDoorY18
import Derived.Test.YtjdkhobkdlldnaaGreatDoorY19
import Derived.Test.YtjdkhobkdlldnaaGreatDoorY20
import Derived.Test.YtjdkhobkdlldnaaGreatDoorY21
import Derived.Test.YtjdkhobkdlldnaaGreatDoorY22
import Derived.Test.YtjdkhobkdlldnaaGreatDoorY23
import Derived.Test.YtjdkhobkdlldnaaGreatDoorY24
namespace Go.Proofs.YtjdkhobkdlldnaaGreatDoor
open Go.RowKit
set_option linter.unusedVariables false
theorem flatSp_take : ∀ (S : List Sp) (vs : List Value) (i : Nat), vs.length = S.length → (flatSp S vs).take (i * 5) = flatSp (S.take i) (vs.take i)
  | _, _, 0, _ => by simp [flatSp]
  | [], [], i + 1, _ => by simp [flatSp]
  | [], _ :: _, _ + 1, h => by simp at h
  | _ :: _, [], _ + 1, h => by simp at h
  | s :: S, v :: vs, i + 1, h => by
    have ih := flatSp_take S vs i (by simpa using h)
    show (s.cells v ++ flatSp S vs).take ((i + 1) * 5) = s.cells v ++ flatSp (S.take i) (vs.take i)
    have hl : (s.cells v).length = 5 := rfl
    rw [List.take_append, List.take_of_length_le (by rw [hl]; omega), hl, show (i + 1) * 5 - 5 = i * 5 by omega, ih]
theorem flatSp_drop : ∀ (S : List Sp) (vs : List Value) (i : Nat), vs.length = S.length → (flatSp S vs).drop (i * 5) = flatSp (S.drop i) (vs.drop i)
  | S, vs, 0, _ => by simp
  | [], [], i + 1, _ => by simp [flatSp]
  | [], _ :: _, _ + 1, h => by simp at h
  | _ :: _, [], _ + 1, h => by simp at h
  | s :: S, v :: vs, i + 1, h => by
    have ih := flatSp_drop S vs i (by simpa using h)
    show (s.cells v ++ flatSp S vs).drop ((i + 1) * 5) = flatSp (S.drop i) (vs.drop i)
    have hl : (s.cells v).length = 5 := rfl
    rw [List.drop_append, List.drop_of_length_le (by rw [hl]; omega), hl, show (i + 1) * 5 - 5 = i * 5 by omega, ih]
    rfl
theorem run_append_in {P : Program} (w : World) (base : Nat) (t ty e : TypeId) (i : TypeInfo) (z : Value) (size bytes : Nat) (ht : P.underlying t = some (.slice e)) (hi : P.info? e = some i) (hz : i.zero = some z)
    (hsize : i.size = size) (hby : i.bytes = bytes) (hzs : z.cells.size = size) (hsz : 0 < size) (v : Value) (n : Nat) (xs : List Value) (hown : w.ownsRow base e size v n xs) (u : Value) (m : Nat) (news : List Value) (hu : RowIn w u m news) (hl : news.length = m * size) (h1 : ∀ x ∈ news, x.oneCell' = true)
    (h63 : n + m ≤ maxLen) (hbytes : (n + m) * bytes ≤ 140737488355328) (hbase : base ≤ w.heap.size) :
    ∃ o c w', (Builtin.append_ #[t, t] ty #[v, u]).run P w = .ok (.slice o (n + m) c) w' ∧ w'.ownsRow base e size (.slice o (n + m) c) (n + m) (xs ++ news) ∧ w.grownBy w' v.ownBlock := by
  rcases hu with ⟨rfl, rfl, rfl⟩ | ⟨ad, c, rfl, hc⟩
  · obtain ⟨o, c, rfl⟩ := ownsRow_form hown
    exact ⟨o, c, w, run_append_owned_none w base t ty e i size ht hi _ n xs hown, by simpa using hown, ⟨rfl, rfl, rfl, Nat.le_refl _, fun k hk _ => rfl⟩⟩
  · obtain ⟨v', w', hr, h2, h3, _, h5⟩ := run_append_own_at (P := P) w base t ty e i z size bytes ht hi hz hsize hby hzs hsz v n xs hown ad m c news hl hc h1 h63 hbytes hbase
    obtain ⟨o, c', rfl⟩ := ownsRow_form h2
    exact ⟨o, c', w', hr, h2, h3⟩
theorem wp_append_in {P : Program} {w : World} {o : Oper} {a : Act} {K : Act → World → Prop} {Q : Exit → Act → World → Prop} (s x : Operand) (t : TypeId)
    (ho : o.op = .call { callee := .builtin .append, args := #[s, x], argTypes := #[t, t] }) (base : Nat) (e : TypeId) (i : TypeInfo) (z : Value) (size bytes : Nat) (ht : P.underlying t = some (.slice e)) (hi : P.info? e = some i) (hz : i.zero = some z)
    (hsize : i.size = size) (hby : i.bytes = bytes) (hzs : z.cells.size = size) (hsz : 0 < size) (v : Value) (n : Nat) (xs : List Value) (hs : a.eval s = v) (hown : w.ownsRow base e size v n xs) (u : Value) (hx : a.eval x = u) (m : Nat) (news : List Value) (hu : RowIn w u m news) (hl : news.length = m * size) (h1 : ∀ x ∈ news, x.oneCell' = true)
    (h63 : n + m ≤ maxLen) (hbytes : (n + m) * bytes ≤ 140737488355328) (hbase : base ≤ w.heap.size)
    (h : ∀ oN cN w', w'.ownsRow base e size (.slice oN (n + m) cN) (n + m) (xs ++ news) → w.grownBy w' v.ownBlock → K (a.put o.dst (.slice oN (n + m) cN)) w') : Oper.wp P o a w K Q := by
  obtain ⟨oN, cN, w', hr, h2, h3⟩ := run_append_in (P := P) w base t o.type e i z size bytes ht hi hz hsize hby hzs hsz v n xs hown u m news hu hl h1 h63 hbytes hbase
  unfold Oper.wp execOp
  simp only [ho, resolve, invoke, builtin, Sem.run_bind, Sem.run_pure, Result.andThen_ok, List.map_toArray, List.map_cons, List.map_nil, hs, hx, hr]
  exact h oN cN w' h2 h3
theorem rowIn_take {w : World} {a : Addr} {n c i : Nat} {S : List Sp} {vs : List Value} (h : RowIn w (.slice (some a) n c) n (flatSp S vs)) (hl : vs.length = S.length) (hi : i ≤ n) : RowIn w (.slice (some a) i c) i (flatSp (S.take i) (vs.take i)) := by
  rcases h with ⟨h, _⟩ | ⟨ad, c', h1, h2⟩
  · cases h
  · simp only [Value.slice.injEq, Option.some.injEq] at h1
    obtain ⟨rfl, _, rfl⟩ := h1
    refine .inr ⟨a, c, rfl, fun j u hj => h2 j u ?_⟩
    rw [← flatSp_take S vs i hl, List.getElem?_take] at hj
    by_cases hlt : j < i * 5
    · rw [if_pos hlt] at hj; exact hj
    · rw [if_neg hlt] at hj; cases hj
theorem rowIn_drop {w : World} {a : Addr} {n c c' i m : Nat} {S : List Sp} {vs : List Value} (h : RowIn w (.slice (some a) n c) n (flatSp S vs)) (hl : vs.length = S.length) (hi : 0 < i) : RowIn w (.slice (some ⟨a.block, a.off + i * 5, none⟩) m c') m (flatSp (S.drop i) (vs.drop i)) := by
  rcases h with ⟨h, _⟩ | ⟨ad, c0, h1, h2⟩
  · cases h
  · simp only [Value.slice.injEq, Option.some.injEq] at h1
    obtain ⟨rfl, _, rfl⟩ := h1
    refine .inr ⟨_, c', rfl, fun j u hj => ?_⟩
    rw [← flatSp_drop S vs i hl, List.getElem?_drop] at hj
    have := h2 _ u hj
    rw [show (a.add (i * 5 + j)) = (⟨a.block, a.off + i * 5, none⟩ : Addr).add j by unfold Addr.add; split <;> split <;> simp_all <;> omega] at this
    exact this
end Go.Proofs.YtjdkhobkdlldnaaGreatDoor

namespace Go.Proofs.YtjdkhobkdlldnaaGreatDoor
open Go.RowKit Go.ChangeShapes Go.WideShapes Go.ChangeAt Go.Deep
instance : Inhabited Pz := ⟨⟨0, 0, 0, 0, 0⟩⟩
def Pz.cells (z : Pz) : List Value := [.int .u8 (z.k : Int), .int .u8 (z.a : Int), .int .u8 (z.b : Int), .int .u8 (z.c : Int), .int .u32 (z.v : Int)]
def Pz.ok (z : Pz) : Prop := z.k < 256 ∧ z.a < 256 ∧ z.b < 256 ∧ z.c < 256 ∧ z.v < 4294967296
theorem u8_n {a : Int} (w : (Lit.int .u8 a).wf = true) : 0 ≤ a ∧ a < 256 := by
  simp [Lit.wf, IntKind.min, IntKind.max, IntKind.signed, IntKind.bits] at w
  omega
theorem u32_n {a : Int} (w : (Lit.int .u32 a).wf = true) : 0 ≤ a ∧ a < 4294967296 := by
  simp [Lit.wf, IntKind.min, IntKind.max, IntKind.signed, IntKind.bits] at w
  omega
set_option maxRecDepth 100000 in
theorem pz_open {H : Type} {enc : TypeId × Value → H} {W : World} {base : Nat} {sp : Nat → Bool} {held : Bool} {fuel : Nat} {cs : List Value} {x : DataW H × List MemPlace}
    (h : DataW.trod enc Tryz.prog W base sp held fuel 131 cs = some x) : ∃ s : Pz, s.ok ∧ cs = s.cells := by
  obtain ⟨xs, n, _, _, hl, hlen, hf⟩ := DataW.trod_struct Tryz.underlying131 h
  rw [show Tryz.prog.cellsOf 131 = 5 by kernel_rfl] at hl
  have c1 : Tryz.prog.cellsOf 5 = 1 := by kernel_rfl
  have c0 : Tryz.prog.cellsOf 83 = 1 := by kernel_rfl
  match xs, hlen, cs, hl with
  | [x0, x1, x2, x3, x4], _, [v0, v1, v2, v3, v4], _ =>
    have f0 : DataW.trod enc Tryz.prog W base sp held n 5 (([v0, v1, v2, v3, v4].drop 0).take (Tryz.prog.cellsOf 5)) = some x0 := hf 0 _ rfl
    have f1 : DataW.trod enc Tryz.prog W base sp held n 5 (([v0, v1, v2, v3, v4].drop 1).take (Tryz.prog.cellsOf 5)) = some x1 := hf 1 _ rfl
    have f2 : DataW.trod enc Tryz.prog W base sp held n 5 (([v0, v1, v2, v3, v4].drop 2).take (Tryz.prog.cellsOf 5)) = some x2 := hf 2 _ rfl
    have f3 : DataW.trod enc Tryz.prog W base sp held n 5 (([v0, v1, v2, v3, v4].drop 3).take (Tryz.prog.cellsOf 5)) = some x3 := hf 3 _ rfl
    have f4 : DataW.trod enc Tryz.prog W base sp held n 83 (([v0, v1, v2, v3, v4].drop 4).take (Tryz.prog.cellsOf 83)) = some x4 := hf 4 _ rfl
    rw [c1] at f0 f1 f2 f3
    rw [c0] at f4
    obtain ⟨a0, e0, _, w0⟩ := DataW.trod_int Tryz.underlying5 f0
    obtain ⟨a1, e1, _, w1⟩ := DataW.trod_int Tryz.underlying5 f1
    obtain ⟨a2, e2, _, w2⟩ := DataW.trod_int Tryz.underlying5 f2
    obtain ⟨a3, e3, _, w3⟩ := DataW.trod_int Tryz.underlying5 f3
    obtain ⟨a4, e4, _, w4⟩ := DataW.trod_int Tryz.underlying83 f4
    simp at e0 e1 e2 e3 e4
    subst e0 e1 e2 e3 e4
    obtain ⟨l0, m0⟩ := u8_n w0
    obtain ⟨l1, m1⟩ := u8_n w1
    obtain ⟨l2, m2⟩ := u8_n w2
    obtain ⟨l3, m3⟩ := u8_n w3
    obtain ⟨l4, m4⟩ := u32_n w4
    obtain ⟨n0, rfl⟩ := Int.eq_ofNat_of_zero_le l0
    obtain ⟨n1, rfl⟩ := Int.eq_ofNat_of_zero_le l1
    obtain ⟨n2, rfl⟩ := Int.eq_ofNat_of_zero_le l2
    obtain ⟨n3, rfl⟩ := Int.eq_ofNat_of_zero_le l3
    obtain ⟨n4, rfl⟩ := Int.eq_ofNat_of_zero_le l4
    exact ⟨⟨n0, n1, n2, n3, n4⟩, ⟨by show n0 < 256; omega, by show n1 < 256; omega, by show n2 < 256; omega, by show n3 < 256; omega, by show n4 < 4294967296; omega⟩, rfl⟩
set_option maxRecDepth 100000 in
theorem open_pzs {H : Type} {enc : TypeId × Value → H} {W : World} {base b0 : Nat} {sp : Nat → Bool} {held : Bool} {r : Reach} {v : Value} {d : DataW H} {p : List MemPlace}
    (hv : Value.okWide Tryz.prog W r b0 55 v) (h : DataW.Trod enc Tryz.prog W base sp held 55 v d p) : ∃ l, IsPzs W v l := by
  obtain ⟨o, len, cap, rfl⟩ := okWide_slice Tryz.underlying55 hv
  obtain ⟨fuel, hf⟩ := h
  rcases open_slice Tryz.underlying55 hf with ⟨hcs, _⟩ | ⟨a, ln, cp, m, n, D, Pl, hcs, _, hl, hm, hmm, _, hx⟩
  · simp [Value.cells] at hcs
    obtain ⟨rfl, rfl, rfl⟩ := hcs
    exact ⟨[], .inl ⟨rfl, rfl⟩⟩
  · simp [Value.cells] at hcs
    obtain ⟨rfl, rfl, rfl⟩ := hcs
    rw [show Tryz.prog.cellsOf 131 = 5 by kernel_rfl] at hx
    have hle : len ≤ m := by rw [hmm]; split <;> omega
    obtain ⟨S, hS⟩ := choose_lt (α := Pz) (n := len) (p := fun i s => s.ok ∧ ∀ j, j < 5 → W.cell? ((a.add (i * 5)).add j) = s.cells[j]?) (fun i hi => by
      obtain ⟨cs', h1, h2⟩ := hx i (by omega)
      obtain ⟨s, hI, rfl⟩ := pz_open h2
      obtain ⟨_, _, h3⟩ := World.cells?_some h1
      exact ⟨s, hI, h3⟩)
    refine ⟨(List.range len).map S, .inr ⟨a, cap, by simp, by simpa using hl, hm, fun i s hs => ?_⟩⟩
    have hi : i < len := by
      have := (List.getElem?_eq_some_iff.1 hs).1
      simpa using this
    have e : s = S i := by
      rw [List.getElem?_map, List.getElem?_range hi] at hs
      simpa using hs.symm
    subst e
    obtain ⟨hI, hc⟩ := hS i hi
    generalize a.add (i * 5) = q at *
    have g0 := hc 0 (by omega)
    have g1 := hc 1 (by omega)
    have g2 := hc 2 (by omega)
    have g3 := hc 3 (by omega)
    have g4 := hc 4 (by omega)
    simp [Addr.add, Pz.cells] at g0 g1 g2 g3 g4
    exact ⟨g0, g1, g2, g3, g4, hI⟩
end Go.Proofs.YtjdkhobkdlldnaaGreatDoor
