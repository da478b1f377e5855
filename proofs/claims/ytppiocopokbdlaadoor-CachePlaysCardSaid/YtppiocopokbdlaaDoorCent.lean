/-
  Layer 6: the code's own entry: the one of a key that is there, or a new one.
-/
import Derived.Test.YtppiocopokbdlaaDoorCachem
import Derived.Test.YtppiocopokbdlaaDoorSync
import Derived.Maps.OwnOps
import Derived.WalkSpells
namespace Go.Proofs.YtppiocopokbdlaaDoor
open Go.RowKit Go.Maps Go.WideMaps

theorem str_law : Keyed Tryd.prog 9 := string_keyed Tryd.underlying9
theorem entry_zero (w : World) : (zeroValue 64).run Tryd.prog w = .ok (.pointer none) w := by kernel_rfl
/-- 'm[k]' at whatever elements: the walk goes on with some value that reads so. -/
theorem wpList_lookup_any {H : Type} {P : Program} (w : World) {ops : Array Oper} {rest : List Oper} {o : Oper} {a : Act} {Q : Exit → Act → World → Prop}
    (hg : o.guard = none) (m x : Operand) (t : TypeId) (hop : o.op = Op.lookup t m x false)
    (k e : TypeId) (R : Value → Option (DataW H × List MemPlace)) (K : Keyed P k) (ht : P.underlying t = some (.map k e)) {z : Value} (hz : (zeroValue e).run P w = .ok z w) {zd : DataW H} {zp : List MemPlace} (hzd : R z = some (zd, zp)) (b n : Nat) (D : DataW H)
    (hm : a.eval m = .map (some b)) (hown : w.ownsMap P k R b n D) (key : Value) (kl : Lit) (hx : a.eval x = key) (hkey : keyOf P k key = some kl)
    (hK : ∀ (v : Value) (ps : List MemPlace), R v = some (D.atKey kl zd, ps) → wpList P ops Q rest (a.put o.dst v) w) :
    wpList P ops Q (o :: rest) a w := by
  refine wpList_plain hg fun K' hK' => ?_
  obtain ⟨v, ps, hrun, hv⟩ := hown.lookup K ht hz hzd hkey
  unfold Oper.wp
  simp [execOp, hop, hm, hx, hrun, Result.andThen]
  exact hK' _ _ (hK v ps hv)
theorem key_of (l : List Sec) (hl : (keyText l).length ≤ 1150) : keyOf Tryd.prog 9 (.string (keyS l)) = some (.string (keyText l)) := by
  have := keyOf_string_mk (P := Tryd.prog) (k := 9) Tryd.underlying9 (s := keyS l) (by show (keyText l).toArray.size ≤ maxLen; unfold maxLen; simp; omega)
  simpa [keyS] using this

section
variable {T : World → Value → List (Int × Int) → Prop} {c bm base n : Nat} {E : List Ent}

set_option maxRecDepth 100000 in
set_option maxHeartbeats 1600000 in
theorem entry_hit (w : World) (l : List Sec) (hl : (keyText l).length ≤ 1150) (hC : CacheC T w c bm base n E) (e0 : Ent) (he : e0 ∈ E) (hel : e0.l = l) :
    Calls Tryd.prog 24 #[.pointer (some ⟨c, 0, none⟩), .string (keyS l)] w fun e w' => e = .returned (.pointer (some ⟨e0.b, 0, none⟩)) ∧ CacheC T w' c bm base n E ∧ G (CS c bm) w w' := by
  have hkey := key_of l hl
  have q1 := cs_own w c bm 2 (.int .i32 1)
  have p1 : G (fun i => i = c) w (w.setCell ⟨c, 2, none⟩ (.int .i32 1)) := one_own _ _ _ _
  have c2 : w.cell? ⟨c, 2, none⟩ = some (.int .i32 0) := by rw [obj_cell hC.obj]; rfl
  have f2 := obj_free hC.obj 2
  have o1 := obj_set hC.obj 2 (.int .i32 1)
  have hlt := hC.lt
  obtain ⟨D, hD, hF⟩ := hC.map
  have hat := (hF l).trans (entD_some he hel hC.pairL)
  have hD1 := hD.setCell (a := ⟨c, 2, none⟩) (by show bm ≠ c; omega) (.int .i32 1)
  have HC := Lib.hid hC
  clear hC hF hD
  have c4 : (w.setCell ⟨c, 2, none⟩ (.int .i32 1)).cell? ⟨c, 3 + 1, none⟩ = some (.map (some bm)) := by rw [obj_cell o1]; rfl
  have k2 : (w.setCell ⟨c, 2, none⟩ (.int .i32 1)).cell? ⟨c, 2, none⟩ = some (.int .i32 1) := by rw [obj_cell o1]; rfl
  have g2 := obj_free o1 2
  have cL := lock_free c 2 w c2 f2
  have cU := fun u => unlock_deferred c 2 u _ k2 g2
  generalize w.setCell ⟨c, 2, none⟩ (.int .i32 1) = w1 at *
  go_enter_defers Tryd.func24, Tryd.ntmps24
  go_wp2_with (first
    | (go_at_call 37; refine cL.mono ?_; rintro e w1 ⟨rfl, rfl⟩)
    | (at_lookup; refine wpList_lookup_any _ rfl _ _ 49 rfl 9 64 ptrElem str_law Tryd.underlying49 (entry_zero _) (zd := .nil) (zp := []) rfl bm _ D rfl hD1 _ _ rfl hkey ?_; intro pv ps hpv; rw [hat] at hpv; obtain rfl := ptrElem_lit hpv))
  refine leaves_cons (f := 38) (args := #[.pointer (some ⟨c, 2, none⟩)]) (by simp) (by simp [go_sem]) ?_
  refine (cU .returning).mono ?_
  rintro e u' w'' ⟨rfl, rfl, rfl⟩
  have q2 := q1.trans (cs_own _ c bm 2 (.int .i32 0))
  have o2 := obj_set o1 2 (.int .i32 0)
  exact ⟨_, results_tmp rfl _ _ _, rfl, CacheM.put HC.out (p1.trans (one_own _ c 2 _)) o2, q2⟩

set_option maxRecDepth 100000 in
set_option maxHeartbeats 1600000 in
theorem entry_new (w : World) (l : List Sec) (hl : (keyText l).length ≤ 1150) (hC : CacheC T w c bm base n E) (hn : ∀ e ∈ E, e.l ≠ l) (hk : E.length < 1000000) :
    Calls Tryd.prog 24 #[.pointer (some ⟨c, 0, none⟩), .string (keyS l)] w fun e w' => ∃ b, e = .returned (.pointer (some ⟨b, 0, none⟩)) ∧ w.heap.size ≤ b ∧
      w'.heap[b]? = some (.cells #[.int .u32 0, .int .i32 0, .int .u32 0, .pointer none] 72 (0, 0)) ∧
      CacheM T w' c bm base n E.length (E.length + 1) (fun l' => if l' = l then .lit (.int .i64 b) else entD E l') E ∧ G (CS c bm) w w' := by
  have hkey := key_of l hl
  have q1 := cs_own w c bm 2 (.int .i32 1)
  have p1 : G (fun i => i = c) w (w.setCell ⟨c, 2, none⟩ (.int .i32 1)) := one_own _ _ _ _
  have c2 : w.cell? ⟨c, 2, none⟩ = some (.int .i32 0) := by rw [obj_cell hC.obj]; rfl
  have f2 := obj_free hC.obj 2
  have o1 := obj_set hC.obj 2 (.int .i32 1)
  have hlt := hC.lt
  obtain ⟨D, hD, hF⟩ := hC.map
  have hat := (hF l).trans (entD_none hn)
  have hD1 := hD.setCell (a := ⟨c, 2, none⟩) (by show bm ≠ c; omega) (.int .i32 1)
  have HC := Lib.hid hC
  have HF := Lib.hid hF
  clear hC hF hD
  have cL := lock_free c 2 w c2 f2
  generalize w.setCell ⟨c, 2, none⟩ (.int .i32 1) = w1 at *
  have c4 : w1.cell? ⟨c, 3 + 1, none⟩ = some (.map (some bm)) := by rw [obj_cell o1]; rfl
  have b4 : ∀ o, (w1.alloc o).cell? ⟨c, 4, none⟩ = some (.map (some bm)) := fun o => by rw [obj_cell (obj_past o1 o)]; rfl
  go_enter_defers Tryd.func24, Tryd.ntmps24
  go_wp2_with (first
    | (go_at_call 37; refine cL.mono ?_; rintro e w1 ⟨rfl, rfl⟩)
    | (at_lookup; refine wpList_lookup_any _ rfl _ _ 49 rfl 9 64 ptrElem str_law Tryd.underlying49 (entry_zero _) (zd := .nil) (zp := []) rfl bm _ D rfl hD1 _ _ rfl hkey ?_; intro pv ps hpv; rw [hat] at hpv; obtain rfl := ptrElem_nil hpv)
    | (at_mapUpdate; refine wpList_mapUpdate_in _ rfl _ _ _ 49 rfl 9 64 str_law Tryd.underlying49 ptrElem bm _ D rfl (hD1.alloc _) (by unfold maxLen; omega) _ _ _ rfl rfl hkey _ [] (ptrElem_at _) ?_; intro w2 hD2 ht2))
  have gA := ht2.grown
  have qA := (q1.alloc (.cells #[.int .u32 0, .int .i32 0, .int .u32 0, .pointer none] 72)).grown gA (fun k hk => .inl (.inr (Option.some.inj hk).symm))
  have q3 := qA.trans (cs_own w2 c bm 2 (.int .i32 0))
  have o2 : w2.heap[c]? = _ := (gA.block c (by have := obj_lt o1; simp; omega) (fun e => by have := Option.some.inj e; omega)).trans (obj_past o1 _)
  have n2 : w2.heap[w1.heap.size]? = _ := (gA.block w1.heap.size (by simp) (fun e => by have := Option.some.inj e; have := obj_lt o1; omega)).trans (obj_new w1 _)
  have o3 := obj_set o2 2 (.int .i32 0)
  have k2 : w2.cell? ⟨c, 2, none⟩ = some (.int .i32 1) := by rw [obj_cell o2]; rfl
  have D3 := hD2.setCell (a := ⟨c, 2, none⟩) (by show bm ≠ c; omega) (.int .i32 0)
  have hsz : w.heap.size ≤ w1.heap.size := q1.size
  have hb1 : w1.heap.size ≠ c := by have := obj_lt o1; omega
  refine leaves_cons (f := 38) (args := #[.pointer (some ⟨c, 2, none⟩)]) (by simp) (by simp [go_sem]) ?_
  refine (unlock_deferred c 2 .returning _ k2 (obj_free o2 2)).mono ?_
  rintro e u' w'' ⟨rfl, rfl, rfl⟩
  refine ⟨_, results_tmp rfl _ _ _, w1.heap.size, rfl, hsz, obj_other n2 hb1 _, ⟨o3, ⟨_, D3, fun l' => ?_⟩, HC.out.lt, HC.out.lb, Nat.le_trans HC.out.le q3.size, fun e he => (HC.out.ents e he).g q3 HC.out.cs, HC.out.apart⟩, q3⟩
  by_cases cl : l' = l
  · subst cl
    rw [if_pos rfl, atKey_put_same hD1.isMap (by simp [WideAt.IsKeyLit])]
  · rw [if_neg cl, atKey_put_other (fun e => cl (key_inj _ _ (Lit.string.inj e)))]
    exact HF.out l'
end
end Go.Proofs.YtppiocopokbdlaaDoor
