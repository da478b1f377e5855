/-
  Layer 6: two tables' pointers, held against one another.
-/
import Derived.Test.YtppiocopokbdlaaDoorCachem
import Derived.LaidEqlPtr
namespace Go.Proofs.YtppiocopokbdlaaDoor
open Go.RowKit

theorem tab_info : ∃ j, Tryd.prog.info? 81 = some j ∧ j.size ≠ 0 := by
  have h : (Tryd.prog.info? 81).map (fun i => decide (i.size = 0)) = some false := by kernel_rfl
  cases e : Tryd.prog.info? 81 with
  | none => rw [e] at h; cases h
  | some j => rw [e] at h; exact ⟨j, rfl, by simpa using h⟩
theorem ptr_eq (x : Nat) (w : World) : (binOp .eql 31 (.pointer (some ⟨x, 0, none⟩)) (.pointer (some ⟨x, 0, none⟩))).run Tryd.prog w = .ok (.bool true) w := by
  obtain ⟨j, hj, _⟩ := tab_info
  exact run_eql_ptr_same w _ Tryd.underlying31 hj
theorem ptr_ne {x y : Nat} {w : World} {cs ct : Array Value} {t u : TypeId} (h : x ≠ y) (hx : w.heap[x]? = some (.cells cs t (0, 0))) (hy : w.heap[y]? = some (.cells ct u (0, 0))) :
    (binOp .eql 31 (.pointer (some ⟨x, 0, none⟩)) (.pointer (some ⟨y, 0, none⟩))).run Tryd.prog w = .ok (.bool false) w := by
  obtain ⟨j, hj, hs⟩ := tab_info
  exact run_eql_ptr_other w Tryd.underlying31 hj hs (fun e => h (congrArg Addr.block e)) hx hy
theorem ptr_neq_same (x : Nat) (w : World) : (binOp .neq 31 (.pointer (some ⟨x, 0, none⟩)) (.pointer (some ⟨x, 0, none⟩))).run Tryd.prog w = .ok (.bool false) w := by
  obtain ⟨j, hj, _⟩ := tab_info
  have h : ∀ d : Nat, (Op.equalIn (d + 1) 31 (.pointer (some ⟨x, 0, none⟩)) (.pointer (some ⟨x, 0, none⟩))).run Tryd.prog w = .ok true w := fun d => by
    simp [Op.equalIn, run_underlying Tryd.underlying31, sizeOf, typeInfo, hj, run_sameAddr_same]
  simp only [binOp]
  simp [Op.equal, Op.maxDepth, h 9999]
theorem ptr_neq_other {x y : Nat} {w : World} {cs ct : Array Value} {t u : TypeId} (h : x ≠ y) (hx : w.heap[x]? = some (.cells cs t (0, 0))) (hy : w.heap[y]? = some (.cells ct u (0, 0))) :
    (binOp .neq 31 (.pointer (some ⟨x, 0, none⟩)) (.pointer (some ⟨y, 0, none⟩))).run Tryd.prog w = .ok (.bool true) w := by
  obtain ⟨j, hj, hs⟩ := tab_info
  have h' : ∀ d : Nat, (Op.equalIn (d + 1) 31 (.pointer (some ⟨x, 0, none⟩)) (.pointer (some ⟨y, 0, none⟩))).run Tryd.prog w = .ok false w := fun d => by
    simp [Op.equalIn, run_underlying Tryd.underlying31, sizeOf, typeInfo, hj, hs, run_sameAddr_other w (a := ⟨x, 0, none⟩) (b := ⟨y, 0, none⟩) (fun e => h (congrArg Addr.block e)) hx hy]
  simp only [binOp]
  simp [Op.equal, Op.maxDepth, h' 9999]

/-- Two entries' tables. -/
theorem ents_ne {T : World → Value → List (Int × Int) → Prop} {w : World} {c bm base n m k : Nat} {F : List Sec → DataW Unit} {E : List Ent} (h : CacheM T w c bm base n m k F E) {a b : Ent} (ha : a ∈ E) (hb : b ∈ E) (hl : a.l ≠ b.l) {x y : Nat} (hx : a.p = .pointer (some ⟨x, 0, none⟩)) (hy : b.p = .pointer (some ⟨y, 0, none⟩)) : x ≠ y := by
  intro e
  subst e
  have key : ∀ E : List Ent, E.Pairwise (fun a b => a.l ≠ b.l ∧ a.hi ≤ b.b) → (∀ e ∈ E, EntAt T base w e) → a ∈ E → b ∈ E → False := by
    intro E
    induction E with
    | nil => intro _ _ h; cases h
    | cons z E ih =>
      intro hp he ha hb
      rw [List.pairwise_cons] at hp
      rcases List.mem_cons.1 ha with rfl | ha' <;> rcases List.mem_cons.1 hb with rfl | hb'
      · exact hl rfl
      · exact ent_ne (he a ha) (he b hb) (hp.1 b hb').2 (hx.trans hy.symm)
      · exact ent_ne (he b hb) (he a ha) (hp.1 a ha').2 (hy.trans hx.symm)
      · exact ih hp.2 (fun e h => he e (List.mem_cons_of_mem _ h)) ha' hb'
  exact key E h.apart h.ents ha hb
end Go.Proofs.YtppiocopokbdlaaDoor
