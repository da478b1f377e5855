/-
  A box of five cells, written whole; the well that the statements take.
-/
import Derived.Lib.SlBytesConst
import Derived.Lib.Join
import Derived.OwnWalk
import Derived.Laws.OwnMore
import Derived.Test.YthlileddhgglnaaDoorV1
import Derived.Test.YthlileddhgglnaaDoorV2
import Derived.Test.YthlileddhgglnaaDoorV3
import Derived.Test.YthlileddhgglnaaDoorV4
import Derived.Test.YthlileddhgglnaaDoorV7
import Derived.Test.YthlileddhgglnaaDoorV8
import Derived.Test.YthlileddhgglnaaDoorV9
import Derived.Test.YthlileddhgglnaaDoorV10
import Derived.Test.YthlileddhgglnaaDoorV11
import Derived.Test.YthlileddhgglnaaDoorV13
namespace Go.Proofs.YthlileddhgglnaaDoor
open Go.RowKit
theorem obj_five {w : World} {b : Nat} {a0 a1 a2 a3 a4 : Value} {t : TypeId} (h : w.heap[b]? = some (.cells #[a0, a1, a2, a3, a4] t (0, 0))) (x0 x1 x2 x3 x4 : Value) :
    (((((w.setCell ⟨b, 0, none⟩ x0).setCell ⟨b, 1, none⟩ x1).setCell ⟨b, 2, none⟩ x2).setCell ⟨b, 3, none⟩ x3).setCell ⟨b, 4, none⟩ x4).heap[b]? = some (.cells #[x0, x1, x2, x3, x4] t (0, 0)) := by
  have := obj_set (obj_set (obj_set (obj_set (obj_set h 0 x0) 1 x1) 2 x2) 3 x3) 4 x4
  simpa using this
theorem b_five {u w : World} (h : B u w) {b : Nat} (hb : u.heap.size ≤ b) (x0 x1 x2 x3 x4 : Value) :
    B u (((((w.setCell ⟨b, 0, none⟩ x0).setCell ⟨b, 1, none⟩ x1).setCell ⟨b, 2, none⟩ x2).setCell ⟨b, 3, none⟩ x3).setCell ⟨b, 4, none⟩ x4) :=
  B.setCell (p := ⟨b, 4, none⟩) (B.setCell (p := ⟨b, 3, none⟩) (B.setCell (p := ⟨b, 2, none⟩) (B.setCell (p := ⟨b, 1, none⟩) (B.setCell (p := ⟨b, 0, none⟩) h hb _) hb _) hb _) hb _) hb _
end Go.Proofs.YthlileddhgglnaaDoor

namespace Go.Proofs.YthlileddhgglnaaDoor
open Go.RowKit
set_option linter.unusedVariables false
def Wp.val (p : Wp) : Value := .agg #[.string p.n, .int .i64 p.r, .int .i64 p.c]
set_option maxRecDepth 100000 in
set_option maxHeartbeats 2000000 in
theorem seatat_any (wv tv fv : Value) (d : Dk) (k : Nat) (hk : k ≤ 1000000) (w : World) (h : IsDk w wv tv fv d) (hb : ∀ x ∈ d.ws, wareB x) : Calls Tryd.prog 26 #[.agg #[wv, tv, fv], .int .i64 (k : Int)] w fun e w' => e = .returned (wpAt d.ws k).val ∧ B w w' := by
  obtain ⟨ao, ac, bo, bc, co, cc, rfl, rfl, rfl⟩ := h.forms
  have q1 := ((B.refl w).alloc #[.slice ao d.ws.length ac, .slice bo d.ts.length bc, .slice co d.fs.length cc] 36).alloc #[.string ⟨#[]⟩, .int .i64 0, .int .i64 0] 49
  have cA := r8at_any _ _ _ d (k : Int) (by unfold I64; omega) _ (h.keepB q1) hb
  have e1 : (w.alloc (.cells #[.slice ao d.ws.length ac, .slice bo d.ts.length bc, .slice co d.fs.length cc] 36)).heap.size = w.heap.size + 1 := by simp
  have oE := obj_new (w.alloc (.cells #[.slice ao d.ws.length ac, .slice bo d.ts.length bc, .slice co d.fs.length cc] 36)) (.cells #[.string ⟨#[]⟩, .int .i64 0, .int .i64 0] 49)
  rw [e1] at oE
  clear e1
  unfold wpAt
  cases hat : atW d.ws (k : Int) with
  | none =>
    rw [hat] at cA
    replace cA : Calls Tryd.prog 29 #[.agg #[.slice ao d.ws.length ac, .slice bo d.ts.length bc, .slice co d.fs.length cc], .int .i64 (k : Int)] _ fun e w' => e = .returned (.tuple #[.agg #[.string ⟨#[]⟩, .int .i64 0, .int .i64 0], .bool false]) ∧ B _ w' := cA
    clear hat h hb
    go_enter Tryd.func26, Tryd.ntmps26
    go_wp2_with fail
    refine cA.mono ?_
    rintro _ w2 ⟨rfl, q2⟩
    have oF := q2.obj oE
    have hlt := obj_lt (q2.obj oE)
    obtain ⟨E, hE⟩ : ∃ E, w.heap.size + 1 = E := ⟨_, rfl⟩
    have hEw : w.heap.size ≤ E := by omega
    rw [hE] at oF hlt ⊢
    clear hE
    have hB := q1.trans q2
    have oN := obj_new w2 (.cells #[.string ⟨#[]⟩, .int .i64 0, .int .i64 0] 49)
    have p0 : (w2.alloc (.cells #[.string ⟨#[]⟩, .int .i64 0, .int .i64 0] 49)).cell? ⟨w2.heap.size, 0, none⟩ = some (.string ⟨#[]⟩) := obj_cell oN 0
    have p1 : (w2.alloc (.cells #[.string ⟨#[]⟩, .int .i64 0, .int .i64 0] 49)).cell? ⟨w2.heap.size, 1, none⟩ = some (.int .i64 0) := obj_cell oN 1
    have p2 : (w2.alloc (.cells #[.string ⟨#[]⟩, .int .i64 0, .int .i64 0] 49)).cell? ⟨w2.heap.size, 2, none⟩ = some (.int .i64 0) := obj_cell oN 2
    have f0 := obj_free oF 0
    have f1 := obj_free oF 1
    have f2 := obj_free oF 2
    have r0 : w2.cell? ⟨E, 0, none⟩ = some (.string ⟨#[]⟩) := obj_cell oF 0
    have r1 : w2.cell? ⟨E, 1, none⟩ = some (.int .i64 0) := obj_cell oF 1
    have r2 : w2.cell? ⟨E, 2, none⟩ = some (.int .i64 0) := obj_cell oF 2
    have hne : ¬ w2.heap.size = E := by omega
    have hne2 : ¬ E = w2.heap.size := by omega
    have oG := ((B.refl _).alloc #[.string ⟨#[]⟩, .int .i64 0, .int .i64 0] 49).obj (obj_three oF (.string ⟨#[]⟩) (.int .i64 0) (.int .i64 0))
    have bG := (b_three hB (b := E) hEw (.string ⟨#[]⟩) (.int .i64 0) (.int .i64 0)).alloc #[.string ⟨#[]⟩, .int .i64 0, .int .i64 0] 49
    go_wp2
    have z0 := obj_cell oG 0
    have z1 := obj_cell oG 1
    have z2 := obj_cell oG 2
    exact bodyPost_ret (v := .agg #[.string ⟨#[]⟩, .int .i64 0, .int .i64 0]) (by simp [results, Tryd.results26, go_sem, z0, z1, z2]) rfl ⟨rfl, bG⟩
  | some nrc =>
    obtain ⟨N, R, C⟩ := nrc
    rw [hat] at cA
    replace cA : Calls Tryd.prog 29 #[.agg #[.slice ao d.ws.length ac, .slice bo d.ts.length bc, .slice co d.fs.length cc], .int .i64 (k : Int)] _ fun e w' => e = .returned (.tuple #[.agg #[.string N, .int .i64 R, .int .i64 C], .bool true]) ∧ B _ w' := cA
    clear hat h hb
    go_enter Tryd.func26, Tryd.ntmps26
    go_wp2_with fail
    refine cA.mono ?_
    rintro _ w2 ⟨rfl, q2⟩
    have oF := q2.obj oE
    have hlt := obj_lt (q2.obj oE)
    obtain ⟨E, hE⟩ : ∃ E, w.heap.size + 1 = E := ⟨_, rfl⟩
    have hEw : w.heap.size ≤ E := by omega
    rw [hE] at oF hlt ⊢
    clear hE
    have hB := q1.trans q2
    have oN := obj_new w2 (.cells #[.string N, .int .i64 R, .int .i64 C] 49)
    have p0 : (w2.alloc (.cells #[.string N, .int .i64 R, .int .i64 C] 49)).cell? ⟨w2.heap.size, 0, none⟩ = some (.string N) := obj_cell oN 0
    have p1 : (w2.alloc (.cells #[.string N, .int .i64 R, .int .i64 C] 49)).cell? ⟨w2.heap.size, 1, none⟩ = some (.int .i64 R) := obj_cell oN 1
    have p2 : (w2.alloc (.cells #[.string N, .int .i64 R, .int .i64 C] 49)).cell? ⟨w2.heap.size, 2, none⟩ = some (.int .i64 C) := obj_cell oN 2
    have f0 := obj_free oF 0
    have f1 := obj_free oF 1
    have f2 := obj_free oF 2
    have r0 : w2.cell? ⟨E, 0, none⟩ = some (.string ⟨#[]⟩) := obj_cell oF 0
    have r1 : w2.cell? ⟨E, 1, none⟩ = some (.int .i64 0) := obj_cell oF 1
    have r2 : w2.cell? ⟨E, 2, none⟩ = some (.int .i64 0) := obj_cell oF 2
    have hne : ¬ w2.heap.size = E := by omega
    have hne2 : ¬ E = w2.heap.size := by omega
    have oG := ((B.refl _).alloc #[.string N, .int .i64 R, .int .i64 C] 49).obj (obj_three oF (.string N) (.int .i64 R) (.int .i64 C))
    have bG := (b_three hB (b := E) hEw (.string N) (.int .i64 R) (.int .i64 C)).alloc #[.string N, .int .i64 R, .int .i64 C] 49
    go_wp2
    have z0 := obj_cell oG 0
    have z1 := obj_cell oG 1
    have z2 := obj_cell oG 2
    exact bodyPost_ret (v := .agg #[.string N, .int .i64 R, .int .i64 C]) (by simp [results, Tryd.results26, go_sem, z0, z1, z2]) rfl ⟨rfl, bG⟩
end Go.Proofs.YthlileddhgglnaaDoor
