/-
  Layer 6: an entry that is told, made or to be made; the cache behind it.
-/
import Derived.Test.YtppiocopokbdlaaDoorCmade
namespace Go.Proofs.YtppiocopokbdlaaDoor
open Go.RowKit

/-- The entry of a shape: one that is there, or a new one, to be made. -/
def AtE (T : World → Value → List (Int × Int) → Prop) (c bm base n : Nat) (E : List Ent) (l : List Sec) (lb b : Nat) (w : World) : Prop :=
  (∃ e0 ∈ E, e0.l = l ∧ b = e0.b ∧ CacheC T w c bm base n E) ∨
  ((∀ e ∈ E, e.l ≠ l) ∧ (∀ e ∈ E, e.hi ≤ b) ∧ (base ≤ b ∧ lb ≤ b) ∧ w.heap[b]? = some (.cells #[.int .u32 0, .int .i32 0, .int .u32 0, .pointer none] 72 (0, 0)) ∧
    CacheM T w c bm base n E.length (E.length + 1) (fun l' => if l' = l then .lit (.int .i64 b) else entD E l') E)
/-- It is told: the variables that the call has made hold what they must. -/
structure Mid (T : World → Value → List (Int × Int) → Prop) (c bm base n : Nat) (E : List Ent) (l : List Sec) (v : Value) (w0 : World) (b eB sB cB : Nat) (w : World) : Prop where
  at_ : AtE T c bm base n E l w0.heap.size b w
  secs : IsSecs w v l
  eC : w.cell? ⟨eB, 0, none⟩ = some (.pointer (some ⟨b, 0, none⟩))
  sC : w.cell? ⟨sB, 0, none⟩ = some v
  cC : w.cell? ⟨cB, 0, none⟩ = some (.pointer (some ⟨c, 0, none⟩))
  g : G (CS c bm) w0 w

section
variable {T : World → Value → List (Int × Int) → Prop} {c bm base n : Nat} {E : List Ent} {l : List Sec}

theorem AtE.keepB {w w' : World} {lb b : Nat} (h : AtE T c bm base n E l lb b w) (q : B w w') : AtE T c bm base n E l lb b w' := by
  rcases h with ⟨e0, h1, h2, h3, h4⟩ | ⟨h1, h2, h3, h4, h5⟩
  · exact .inl ⟨e0, h1, h2, h3, CacheM.keepB h4 q⟩
  · exact .inr ⟨h1, h2, h3, (q.g (fun _ => False)).obj (fun h => h) h4, h5.keepB q⟩
/-- The variable that holds it is written. -/
theorem mid_store {v : Value} {w5 w6 : World} {b eB sB cB : Nat} {u : Value} {F : List Sec → DataW Unit} {m k : Nat} (hC : CacheM T w5 c bm base n m k F E) (hv : IsSecs w5 v l) (sC : w5.cell? ⟨sB, 0, none⟩ = some v) (cC : w5.cell? ⟨cB, 0, none⟩ = some (.pointer (some ⟨c, 0, none⟩)))
    (sne : sB ≠ c ∧ sB ≠ bm) (cne : cB ≠ c ∧ cB ≠ bm) (g : G (CS c bm) w5 w6) (hA : AtE T c bm base n E l w5.heap.size b w6) (heB : w5.heap.size ≤ eB) (hne : b ≠ eB) (hu : w6.cell? ⟨eB, 0, none⟩ = some u) :
    Mid T c bm base n E l v w5 b eB sB cB (w6.setCell ⟨eB, 0, none⟩ (.pointer (some ⟨b, 0, none⟩))) := by
  have his := hC.his
  have h1 := hC.lt
  have h2 := hC.lb
  have h3 := hC.le
  have ge : G (fun i => i = eB) w6 (w6.setCell ⟨eB, 0, none⟩ (.pointer (some ⟨b, 0, none⟩))) := one_own _ _ _ _
  have gg : G (CS c bm) w5 (w6.setCell ⟨eB, 0, none⟩ (.pointer (some ⟨b, 0, none⟩))) := g.setCell (.inr heB) _
  refine ⟨?_, hC.secs hv gg, World.cell?_setCell_same _ _ _ hu, gg.keep (by rintro (h | h); exact sne.1 h; exact sne.2 h) sC, gg.keep (by rintro (h | h); exact cne.1 h; exact cne.2 h) cC, gg⟩
  have ap : ∀ i, i = eB → i ≠ c ∧ i ≠ bm ∧ ∀ e ∈ E, i ≠ e.b ∧ (i < e.lo ∨ e.hi ≤ i) := fun i hi => by
    subst hi
    refine ⟨by omega, by omega, fun e he => ?_⟩
    obtain ⟨y1, y2, y3⟩ := his e he
    exact ⟨by omega, .inr (by omega)⟩
  rcases hA with ⟨e0, k1, k2, k3, k4⟩ | ⟨k1, k2, k3, k4, k5⟩
  · exact .inl ⟨e0, k1, k2, k3, CacheM.apartG k4 ge ap⟩
  · exact .inr ⟨k1, k2, k3, ge.obj hne k4, k5.apartG ge ap⟩
theorem mid_new {v : Value} {w5 w6 : World} {b sB cB : Nat} {F : List Sec → DataW Unit} {m k : Nat} {t : TypeId} (hC : CacheM T w5 c bm base n m k F E) (hv : IsSecs w5 v l) (sC : w5.cell? ⟨sB, 0, none⟩ = some v) (cC : w5.cell? ⟨cB, 0, none⟩ = some (.pointer (some ⟨c, 0, none⟩)))
    (sne : sB ≠ c ∧ sB ≠ bm) (cne : cB ≠ c ∧ cB ≠ bm) (g : G (CS c bm) w5 w6) (hA : AtE T c bm base n E l w5.heap.size b w6) :
    Mid T c bm base n E l v w5 b w6.heap.size sB cB (w6.alloc (.cells #[.pointer (some ⟨b, 0, none⟩)] t)) := by
  have gg := g.alloc (.cells #[.pointer (some ⟨b, 0, none⟩)] t)
  exact ⟨hA.keepB ((B.refl w6).alloc _ _), hC.secs hv gg, by simp, gg.keep (by rintro (h | h); exact sne.1 h; exact sne.2 h) sC, gg.keep (by rintro (h | h); exact cne.1 h; exact cne.2 h) cC, gg⟩
/-- The lock of a new entry is taken: what is asked of the world in which its table is made. -/
theorem new_locked {w : World} {b : Nat} (hn : ∀ e ∈ E, e.hi ≤ b) (hb : base ≤ b) (ho : w.heap[b]? = some (.cells #[.int .u32 0, .int .i32 0, .int .u32 0, .pointer none] 72 (0, 0))) {F : List Sec → DataW Unit} {m k : Nat} (hC : CacheM T w c bm base n m k F E) :
    CacheM T (w.setCell ⟨b, 1, none⟩ (.int .i32 1)) c bm base n m k F E ∧ (w.setCell ⟨b, 1, none⟩ (.int .i32 1)).heap[b]? = some (.cells #[.int .u32 0, .int .i32 1, .int .u32 0, .pointer none] 72 (0, 0)) ∧ G (fun i => i = b) w (w.setCell ⟨b, 1, none⟩ (.int .i32 1)) := by
  have h1 := hC.lt
  have h2 := hC.lb
  have his := hC.his
  refine ⟨hC.apartG (one_own w b 1 _) (fun i hi => ?_), obj_set ho 1 _, one_own _ _ _ _⟩
  subst hi
  refine ⟨by omega, by omega, fun e he => ?_⟩
  have := hn e he
  obtain ⟨y1, y2, y3⟩ := his e he
  exact ⟨by omega, .inr (by omega)⟩
/-- It is made, done, and free again. -/
theorem made_end {w w8 : World} {b : Nat} {p : Value} {lo hi : Nat} (hr : rightS l = true) (hn : ∀ e ∈ E, e.l ≠ l) (hb : base ≤ b) (hbE : ∀ e ∈ E, e.hi ≤ b) (hlt : b < w.heap.size)
    (h : Made T c bm base n b l (fun l' => if l' = l then .lit (.int .i64 b) else entD E l') E w p lo hi w8) :
    CacheC T ((w8.drew.setCell ⟨b, 0, none⟩ (.int .u32 1)).setCell ⟨b, 1, none⟩ (.int .i32 0)) c bm base n (E ++ [⟨l, b, p, lo, hi⟩]) ∧
    ((w8.drew.setCell ⟨b, 0, none⟩ (.int .u32 1)).setCell ⟨b, 1, none⟩ (.int .i32 0)).cell? ⟨b, 3, none⟩ = some p ∧
    G (fun i => i = c ∨ i = b) w ((w8.drew.setCell ⟨b, 0, none⟩ (.int .u32 1)).setCell ⟨b, 1, none⟩ (.int .i32 0)) := by
  have h1 := h.cache.lt
  have h2 := h.cache.lb
  have his := h.cache.his
  have hlo := h.lo
  have gb : G (fun i => i = b) w8 ((w8.drew.setCell ⟨b, 0, none⟩ (.int .u32 1)).setCell ⟨b, 1, none⟩ (.int .i32 0)) := (((G.refl (fun i => i = b) w8).drew).trans (one_own _ b 0 _)).trans (one_own _ b 1 _)
  have o1 : w8.drew.heap[b]? = some (.cells #[.int .u32 0, .int .i32 1, .int .u32 0, p] 72 (0, 0)) := h.obj
  have o3 := obj_set (obj_set o1 0 (.int .u32 1)) 1 (.int .i32 0)
  refine ⟨CacheM.more hn (h.cache.apartG gb (fun i hi' => ?_)) ⟨?_, gb.tabN h.tab (fun i y1 y2 y3 => by have y4 : lo ≤ i := y1; omega), hr, hb, by show b < lo; omega⟩ hbE, ?_, h.g.trans (gb.mono (fun _ _ h => .inr h))⟩
  · subst hi'
    refine ⟨by omega, by omega, fun e he => ?_⟩
    have := hbE e he
    obtain ⟨y1, y2, y3⟩ := his e he
    exact ⟨by omega, .inr (by omega)⟩
  · simpa using o3
  · rw [obj_cell o3]
    simp
end
end Go.Proofs.YtppiocopokbdlaaDoor
