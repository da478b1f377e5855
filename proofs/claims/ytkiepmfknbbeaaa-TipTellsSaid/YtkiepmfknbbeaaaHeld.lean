/-
  The code's tables lie in blocks that are known. No program is named here.
-/
import Derived.Test.YtkiepmfknbbeaaaHeldw
import Derived.Test.YtkiepmfknbbeaaaTabn
namespace Go.Proofs.Ytkiepmfknbbeaaa
open Go.RowKit

/-- A table that lies in blocks from lo up to hi alone. -/
structure TabN (T : World → Value → List (Int × Int) → Prop) (lo hi : Nat) (w : World) (p : Value) (L : List (Int × Int)) : Prop where
  held : Held (fun w => T w p L) lo hi w
  at_ : ∃ b, p = .pointer (some ⟨b, 0, none⟩) ∧ lo ≤ b ∧ b < hi
  ob : ∀ b, p = .pointer (some ⟨b, 0, none⟩) → ∃ cs t, w.heap[b]? = some (.cells cs t (0, 0))
theorem TabN.on {T : World → Value → List (Int × Int) → Prop} {lo hi : Nat} {w w' : World} {p : Value} {L : List (Int × Int)} (h : TabN T lo hi w p L) (hs : w.heap.size ≤ w'.heap.size) (hb : ∀ i, lo ≤ i → i < hi → w'.heap[i]? = w.heap[i]?) : TabN T lo hi w' p L :=
  ⟨h.held.on hs hb, h.at_, fun b e => by
    obtain ⟨cs, t, ho⟩ := h.ob b e
    obtain ⟨b', e', h1, h2⟩ := h.at_
    have : b = b' := by rw [e] at e'; simpa using e'
    exact ⟨cs, t, (hb b (by omega) (by omega)).trans ho⟩⟩
theorem TabN.keepB {T : World → Value → List (Int × Int) → Prop} {lo hi : Nat} {w w' : World} {p : Value} {L : List (Int × Int)} (h : TabN T lo hi w p L) (q : B w w') : TabN T lo hi w' p L :=
  h.on q.below.size fun i _ h2 => q.below.block i (Nat.lt_of_lt_of_le h2 h.held.le)

theorem ctab_held {w : World} {BB bt e xb : Nat} {v u : Value} {L : List (Int × Int)} (hL : 1 ≤ L.length) (t : Two w BB bt e v u (lowL L) (highL L) xb) (hh : w.cell? ⟨bt, 0, none⟩ = some (.int .i64 (L.length * 100))) :
    TabN CTab BB w.heap.size w (.pointer (some ⟨bt, 0, none⟩)) L := by
  have o1 := t.l.own
  have o2 := t.h.own
  rw [lowL_len] at o1
  rw [highL_len] at o2
  obtain ⟨g1, c1, rfl⟩ := own_some o1 hL
  obtain ⟨g2, c2, rfl⟩ := own_some o2 hL
  have b1 := o1.lt g1 rfl
  have b2 := o2.lt g2 rfl
  have b3 := t.l.blt
  have b4 := t.l.lo
  have main : ∀ w' : World, (∀ i, BB ≤ i → i < w.heap.size → w'.heap[i]? = w.heap[i]?) → CTab w' (.pointer (some ⟨bt, 0, none⟩)) L := fun w' hb => by
    have k := fun (off : Nat) => World.cell?_of_block (a := ⟨bt, off, none⟩) (hb bt b4 b3)
    refine ⟨bt, ⟨g1, 0, none⟩, c1, ⟨g2, 0, none⟩, c2, hL, rfl, (k 0).trans hh, (k 1).trans t.l.cell, (k 2).trans t.h.cell, fun i hi => ?_, fun i hi => ?_⟩
    · have e := o1.cells rfl i _ (lowL_get L i hi)
      rw [add0] at e ⊢
      exact (World.cell?_of_block (a := ⟨g1, i, none⟩) (hb g1 b1.1 b1.2)).trans e
    · have e := o2.cells rfl i _ (highL_get L i hi)
      rw [add0] at e ⊢
      exact (World.cell?_of_block (a := ⟨g2, i, none⟩) (hb g2 b2.1 b2.2)).trans e
  exact ⟨⟨main w fun _ _ _ => rfl, Nat.le_refl _, main⟩, ⟨bt, rfl, b4, b3⟩, fun b e => by
    have : bt = b := by simpa using e
    subst this
    exact t.l.ob⟩
end Go.Proofs.Ytkiepmfknbbeaaa
