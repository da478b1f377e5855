/-
  Sections in memory that a call owns: facts for walks.
-/
import Derived.Test.YtkiepmfknbbeaaaSecp
import Derived.Test.YtkiepmfknbbeaaaSeat1
import Derived.OwnWalk
import Derived.Laws.OwnMore
import Derived.Deep.AppendLies
import Derived.KernelRfl
namespace Go.Proofs.Ytkiepmfknbbeaaa
open Go.RowKit

theorem secs_own {w : World} {base : Nat} {e : TypeId} {ao : Option Addr} {k c : Nat} {l : List Sec} (h : w.ownsRow base e 6 (.slice ao k c) k (flat l)) (hl : l.length = k) (hk : 0 < k) (hI : ∀ s ∈ l, s.I) : IsSecs w (.slice ao k c) l := by
  have hh := h
  rcases hh.2 with ⟨_, h0⟩ | ⟨g, cap, cur, hv, _, _, h1, h2, _⟩
  · omega
  · simp only [Value.slice.injEq] at hv
    obtain ⟨rfl, _, rfl⟩ := hv
    subst hl
    exact isSecs_cells hI h1 h2 (fun j u hj => by have := h.cells (g := g) rfl j u hj; rwa [add0] at this)
theorem secInfo : (Try.prog.info? 78).map (fun i => (i.zero, i.size, i.bytes)) = some (some (.agg #[.bool false, .int .i64 0, .int .i64 0, .int .i64 0, .int .i64 0, .int .i64 0]), 6, 48) := by kernel_rfl
theorem u8_wf {k : Int} (w : (Lit.int .u8 k).wf = true) : 0 ≤ k ∧ k ≤ 255 := by
  simp [Lit.wf, IntKind.min, IntKind.max, IntKind.signed, IntKind.bits] at w
  omega
theorem shape_right : ∀ m : Nat, rightS (shapeOf m) = true
  | 0 => by decide
  | 1 => by decide
  | 2 => by decide
  | 3 => by decide
  | 4 => by decide
  | n + 5 => by rw [show shapeOf (n + 5) = shapeOf 5 from rfl]; decide
theorem IsSecs.form {w : World} {v : Value} {l : List Sec} (h : IsSecs w v l) : ∃ ao n cap, v = .slice ao n cap := by
  rcases h with ⟨rfl, rfl⟩ | ⟨a, cap, rfl, _⟩
  · exact ⟨_, _, _, rfl⟩
  · exact ⟨_, _, _, rfl⟩
theorem flat_set : ∀ (l : List Sec) (i j : Nat) (s s' : Sec) (x : Value), l[i]? = some s → j < 6 → s'.cells = s.cells.set j x → flat (l.set i s') = (flat l).set (i * 6 + j) x
  | [], _, _, _, _, _, h, _, _ => by simp at h
  | y :: l, 0, j, s, s', x, h, hj, e => by
    simp at h
    subst h
    show s'.cells ++ flat l = (y.cells ++ flat l).set (0 * 6 + j) x
    rw [Nat.zero_mul, Nat.zero_add, List.set_append_left _ _ (by simpa [Sec.cells] using hj), e]
  | y :: l, i + 1, j, s, s', x, h, hj, e => by
    show y.cells ++ flat (l.set i s') = (y.cells ++ flat l).set ((i + 1) * 6 + j) x
    rw [List.set_append_right _ _ (by simp [Sec.cells]; omega), flat_set l i j s s' x (by simpa using h) hj e]
    congr 2
    simp [Sec.cells]
    omega
theorem flat_len (l : List Sec) : (flat l).length = l.length * 6 := by
  induction l with
  | nil => rfl
  | cons s l ih =>
    show (s.cells ++ flat l).length = _
    rw [List.length_append, ih, List.length_cons]
    simp [Sec.cells]
    omega
theorem flat_one (l : List Sec) : ∀ u ∈ flat l, u.oneCell' = true := by
  intro u hu
  obtain ⟨s, _, hs⟩ := List.mem_flatMap.1 hu
  simp only [Sec.cells, List.mem_cons, List.not_mem_nil, or_false] at hs
  rcases hs with h | h | h | h | h | h <;> rw [h] <;> rfl
theorem add_parts (a : Addr) (k : Nat) : (a.add k).block = a.block ∧ (a.add k).off = a.off + k := by
  unfold Addr.add
  split
  · rename_i h; rw [h]; exact ⟨rfl, rfl⟩
  · exact ⟨rfl, rfl⟩
theorem add_more (a : Addr) (k r : Nat) (hr : 0 < r) : a.add (k + r) = ⟨(a.add k).block, (a.add k).off + r, none⟩ := by
  obtain ⟨h1, h2⟩ := add_parts a k
  rw [h1, h2]
  unfold Addr.add
  rw [if_neg (by omega), Nat.add_assoc]
theorem secs_news {w : World} {a : Addr} {l : List Sec} (h4 : ∀ i s, l[i]? = some s → s.I ∧ SecAt w (a.add (i * 6)) s) : ∀ j u, (flat l)[j]? = some u → w.cell? (a.add j) = some u := by
  intro j u hj
  have hlt : j < (flat l).length := (List.getElem?_eq_some_iff.1 hj).1
  rw [flat_len] at hlt
  obtain ⟨i, r, rfl, hr⟩ : ∃ i r, j = i * 6 + r ∧ r < 6 := ⟨j / 6, j % 6, by omega, by omega⟩
  have hi : i < l.length := by omega
  have hg := List.getElem?_eq_getElem hi
  obtain ⟨_, hs⟩ := h4 i _ hg
  rw [flat_get l i r _ hg hr] at hj
  match r, hr with
  | 0, _ => simp only [Sec.cells, List.getElem?_cons_zero, Option.some.injEq] at hj; rw [Nat.add_zero, ← hj]; exact hs.r
  | 1, _ => rw [add_more _ _ _ (by omega), hs.h]; exact hj
  | 2, _ => rw [add_more _ _ _ (by omega), hs.a0]; exact hj
  | 3, _ => rw [add_more _ _ _ (by omega), hs.b0]; exact hj
  | 4, _ => rw [add_more _ _ _ (by omega), hs.a1]; exact hj
  | 5, _ => rw [add_more _ _ _ (by omega), hs.b1]; exact hj
theorem news_plain {w : World} {cs : Array Value} {t : TypeId} {H : Nat} (hH : w.heap.size = H) : ∀ j u, cs.toList[j]? = some u → (w.alloc (.cells cs t)).cell? ((⟨H, 0, none⟩ : Addr).add j) = some u := by
  intro j u h
  rw [add0]
  subst hH
  rw [World.cell?_alloc_new]
  simpa using h
theorem flat_snoc (l : List Sec) (s : Sec) : flat (l ++ [s]) = flat l ++ s.cells := by simp [flat]
/-- Two right shapes stand in a block. -/
def TwoS (w : World) (b : Nat) : Prop := ∀ m : Nat, m < 2 → ∃ v l, w.cell? ⟨b, m, none⟩ = some v ∧ IsSecs w v l ∧ rightS l = true
theorem twoS_new (w : World) (t : TypeId) (x y : Value) (lx ly : List Sec) (hx : IsSecs w x lx) (hy : IsSecs w y ly) (rx : rightS lx = true) (ry : rightS ly = true) :
    TwoS (w.alloc (.cells #[x, y] t)) w.heap.size := by
  intro m hm
  rw [World.cell?_alloc_new]
  match m, hm with
  | 0, _ => exact ⟨_, lx, rfl, hx.keepB ((B.refl w).alloc _ _), rx⟩
  | 1, _ => exact ⟨_, ly, rfl, hy.keepB ((B.refl w).alloc _ _), ry⟩
theorem TwoS.keep {w w' : World} {b : Nat} (h : TwoS w b) (q : B w w') : TwoS w' b := fun m hm => by
  obtain ⟨v, l, h1, h2, h3⟩ := h m hm
  exact ⟨v, l, q.keep h1, h2.keepB q, h3⟩
theorem u16_wf {k : Int} (w : (Lit.int .u16 k).wf = true) : 0 ≤ k ∧ k ≤ 65535 := by
  simp [Lit.wf, IntKind.min, IntKind.max, IntKind.signed, IntKind.bits] at w
  omega
theorem and_I64 (x y : Int) : I64 (bits .and .i64 x y) := by
  rw [and_i64]
  have := BitVec.toInt_lt (x := BitVec.ofInt 64 x &&& BitVec.ofInt 64 y)
  have := BitVec.le_toInt (x := BitVec.ofInt 64 x &&& BitVec.ofInt 64 y)
  unfold I64
  omega
theorem IsSecs.formL {w : World} {v : Value} {l : List Sec} (h : IsSecs w v l) : ∃ ao cap, v = .slice ao l.length cap := by
  rcases h with ⟨rfl, rfl⟩ | ⟨a, cap, rfl, _⟩
  · exact ⟨_, _, rfl⟩
  · exact ⟨_, _, rfl⟩
end Go.Proofs.Ytkiepmfknbbeaaa
