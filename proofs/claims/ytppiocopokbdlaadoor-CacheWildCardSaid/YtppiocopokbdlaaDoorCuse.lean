/-
  Layer 6: the code's Table, as the statements use it.
-/
import Derived.Test.YtppiocopokbdlaaDoorCtab
import Derived.Test.YtppiocopokbdlaaDoorCnew
import Derived.Test.YtppiocopokbdlaaDoorTabsh
namespace Go.Proofs.YtppiocopokbdlaaDoor
open Go.RowKit

theorem ofN_code : OfN CTab := cof_held
/-- The table of powers of ten, where nothing below B has turned. -/
def Pow10 (W0 : World) : Prop := Lib.TabBelow Tryd.prog W0.heap.size W0 "internal/strconv.uint64pow10" .u64 Lib.pow10Tab

section
variable {c bm base n : Nat} {E : List Ent} {l : List Sec}
theorem ent_eq {a b : Ent} (ha : a ∈ E) (hb : b ∈ E) (h : a.l = b.l) (hp : E.Pairwise (fun a b => a.l ≠ b.l)) : a = b := by
  induction E with
  | nil => cases ha
  | cons x E ih =>
    rw [List.pairwise_cons] at hp
    rcases List.mem_cons.1 ha with rfl | ha' <;> rcases List.mem_cons.1 hb with rfl | hb'
    · rfl
    · exact absurd h (hp.1 b hb')
    · exact absurd h.symm (hp.1 a ha')
    · exact ih ha' hb' hp.2

theorem ctab_first (W0 w : World) (v : Value) (hW : B W0 w) (ht : Pow10 W0) (hb : W0.heap.size ≤ bm) (hC : CacheC CTab w c bm base n E) (hn : n < 1000000) (hE : E.length < 1000000) (hv : IsSecs w v l) (hr : rightS l = true) (hnew : ∀ e ∈ E, e.l ≠ l) :
    Calls Tryd.prog 10 #[.pointer (some ⟨c, 0, none⟩), v] w fun e w' => ∃ (x : Nat) (e0 : Ent), e = .returned (.tuple #[.pointer (some ⟨x, 0, none⟩), .int .i64 0]) ∧ e0.p = .pointer (some ⟨x, 0, none⟩) ∧ e0.l = l ∧ w.heap.size ≤ e0.b ∧
      CacheC CTab w' c bm base (n + 1) (E ++ [e0]) ∧ B W0 w' ∧ G (CS c bm) w w' := by
  have hlt := hC.lt
  refine (ctable_yes (BB := W0.heap.size) ofN_code w v l hC hn hE hv hr (ht.on hW.below) hb).mono ?_
  rintro e w' ⟨E', e0, rfl, h1, h2, h3, h4, h5⟩
  rcases h3 with rfl | ⟨_, h6, rfl⟩
  · exact absurd h2 (hnew e0 h1)
  · obtain ⟨x, hx, _, _⟩ := (h4.ents e0 h1).tab.at_
    exact ⟨x, e0, by rw [hx], hx, h2, h6, h4, h5.b hW (fun i hi => by rcases hi with rfl | rfl <;> omega), h5⟩
theorem ctab_again (W0 w : World) (v : Value) (hW : B W0 w) (ht : Pow10 W0) (hb : W0.heap.size ≤ bm) (hC : CacheC CTab w c bm base n E) (hn : n < 1000000) (hE : E.length < 1000000) (hv : IsSecs w v l) (e0 : Ent) (he : e0 ∈ E) (hel : e0.l = l) {x : Nat} (hx : e0.p = .pointer (some ⟨x, 0, none⟩)) :
    Calls Tryd.prog 10 #[.pointer (some ⟨c, 0, none⟩), v] w fun e w' => e = .returned (.tuple #[.pointer (some ⟨x, 0, none⟩), .int .i64 0]) ∧ CacheC CTab w' c bm base (n + 1) E ∧ B W0 w' ∧ G (CS c bm) w w' := by
  have hlt := hC.lt
  have hr : rightS l = true := hel ▸ (hC.ents e0 he).right
  refine (ctable_yes (BB := W0.heap.size) ofN_code w v l hC hn hE hv hr (ht.on hW.below) hb).mono ?_
  rintro e w' ⟨E', e1, rfl, h1, h2, h3, h4, h5⟩
  rcases h3 with rfl | ⟨h6, _⟩
  · have : e1 = e0 := ent_eq h1 he (h2.trans hel.symm) hC.pairL
    subst this
    exact ⟨by rw [hx], h4, h5.b hW (fun i hi => by rcases hi with rfl | rfl <;> omega), h5⟩
  · exact absurd hel (h6 e0 he)
theorem ctab_none (W0 w : World) (v : Value) (hW : B W0 w) (hb : W0.heap.size ≤ bm) (hC : CacheC CTab w c bm base n E) (hn : n < 1000000) (hv : IsSecs w v l) (hr : rightS l = false) :
    Calls Tryd.prog 10 #[.pointer (some ⟨c, 0, none⟩), v] w fun e w' => e = .returned (.tuple #[.pointer none, .int .i64 23]) ∧ CacheC CTab w' c bm base (n + 1) E ∧ B W0 w' ∧ G (CS c bm) w w' := by
  have hlt := hC.lt
  refine (ctable_no w v l hC hn hv hr).mono ?_
  rintro e w' ⟨rfl, h4, h5⟩
  exact ⟨rfl, h4, h5.b hW (fun i hi => by rcases hi with rfl | rfl <;> omega), h5⟩
/-- What an entry's table tells. -/
theorem ent_tall (w : World) (hC : CacheC CTab w c bm base n E) (e0 : Ent) (he : e0 ∈ E) {x : Nat} (hx : e0.p = .pointer (some ⟨x, 0, none⟩)) :
    Calls Tryd.prog 21 #[.pointer (some ⟨x, 0, none⟩)] w fun e w' => e = .returned (.int .i64 (hsumI e0.l e0.l.length)) ∧ B w w' := by
  have h := hC.ents e0 he
  have ht := h.tab.held.now
  rw [hx] at ht
  have := ctall_any _ _ w ht
  rwa [Int.mul_comm, slAll_len e0.l (right_all h.right).2.2] at this
end
end Go.Proofs.YtppiocopokbdlaaDoor
