/-
 Contracts and what they rest on.
-/
import Derived.Maps.AppendAt
import Derived.OwnWalk
import Derived.Laws.OwnMore
import Derived.Deep.AppendLies
import Derived.KernelRfl
import Derived.Test.YtalnfojaccfcjaaGreatDoorY3
namespace Go.Proofs.YtalnfojaccfcjaaGreatDoor
open Go.RowKit
theorem secs_own {w : World} {base : Nat} {e : TypeId} {ao : Option Addr} {k c : Nat} {l : List Sec} (h : w.ownsRow base e 6 (.slice ao k c) k (flat l)) (hl : l.length = k) (hk : 0 < k) (hI : ∀ s ∈ l, s.I) : IsSecs w (.slice ao k c) l := by
 have hh := h
 rcases hh.2 with ⟨_, h0⟩ | ⟨g, cap, cur, hv, _, _, h1, h2, _⟩
 ·omega
 ·simp only [Value.slice.injEq] at hv
  obtain ⟨rfl, _, rfl⟩ := hv
  subst hl
  exact isSecs_cells hI h1 h2 (fun j u hj => by have := h.cells (g := g) rfl j u hj; rwa [add0] at this)
theorem secInfo : (Tryz.prog.info? 37).map (fun i => (i.zero, i.size, i.bytes)) = some (some (.agg #[.bool false, .int .i64 0, .int .i64 0, .int .i64 0, .int .i64 0, .int .i64 0]), 6, 48) := by kernel_rfl
theorem u8_wf {k : Int} (w : (Lit.int .u8 k).wf = true) : 0 ≤ k ∧ k ≤ 255 := by
 simp [Lit.wf, IntKind.min, IntKind.max, IntKind.signed, IntKind.bits] at w
 omega
theorem shape_right : ∀ m : Nat, rightS (shapeOf m) = true
 | 0 => by decide
 | 1 => by decide
 | 2 => by decide
 | 3 => by decide
 | 4 => by decide
 | n + 5 => by rw [show shapeOf (n + 5) = shapeOf 5 from rfl]; decide
theorem IsSecs.form {w : World} {v : Value} {l : List Sec} (h : IsSecs w v l) : ∃ ao n cap, v = .slice ao n cap := by
 rcases h with ⟨rfl, rfl⟩ | ⟨a, cap, rfl, _⟩
 ·exact ⟨_, _, _, rfl⟩
 ·exact ⟨_, _, _, rfl⟩
theorem flat_set : ∀ (l : List Sec) (i j : Nat) (s s' : Sec) (x : Value), l[i]? = some s → j < 6 → s'.cells = s.cells.set j x → flat (l.set i s') = (flat l).set (i * 6 + j) x
 | [], _, _, _, _, _, h, _, _ => by simp at h
 | y :: l, 0, j, s, s', x, h, hj, e => by
  simp at h
  subst h
  show s'.cells ++ flat l = (y.cells ++ flat l).set (0 * 6 + j) x
  rw [Nat.zero_mul, Nat.zero_add, List.set_append_left _ _ (by simpa [Sec.cells] using hj), e]
 | y :: l, i + 1, j, s, s', x, h, hj, e => by
  show y.cells ++ flat (l.set i s') = (y.cells ++ flat l).set ((i + 1) * 6 + j) x
  rw [List.set_append_right _ _ (by simp [Sec.cells]; omega), flat_set l i j s s' x (by simpa using h) hj e]
  congr 2
  simp [Sec.cells]
  omega
theorem flat_len (l : List Sec) : (flat l).length = l.length * 6 := by
 induction l with
 | nil => rfl
 | cons s l ih =>
  show (s.cells ++ flat l).length = _
  rw [List.length_append, ih, List.length_cons]
  simp [Sec.cells]
  omega
theorem flat_one (l : List Sec) : ∀ u ∈ flat l, u.oneCell' = true := by
 intro u hu
 obtain ⟨s, _, hs⟩ := List.mem_flatMap.1 hu
 simp only [Sec.cells, List.mem_cons, List.not_mem_nil, or_false] at hs
 rcases hs with h | h | h | h | h | h <;> rw [h] <;> rfl
theorem add_parts (a : Addr) (k : Nat) : (a.add k).block = a.block ∧ (a.add k).off = a.off + k := by
 unfold Addr.add
 split
 ·rename_i h; rw [h]; exact ⟨rfl, rfl⟩
 ·exact ⟨rfl, rfl⟩
theorem add_more (a : Addr) (k r : Nat) (hr : 0 < r) : a.add (k + r) = ⟨(a.add k).block, (a.add k).off + r, none⟩ := by
 obtain ⟨h1, h2⟩ := add_parts a k
 rw [h1, h2]
 unfold Addr.add
 rw [if_neg (by omega), Nat.add_assoc]
theorem secs_news {w : World} {a : Addr} {l : List Sec} (h4 : ∀ i s, l[i]? = some s → s.I ∧ SecAt w (a.add (i * 6)) s) : ∀ j u, (flat l)[j]? = some u → w.cell? (a.add j) = some u := by
 intro j u hj
 have hlt : j < (flat l).length := (List.getElem?_eq_some_iff.1 hj).1
 rw [flat_len] at hlt
 obtain ⟨i, r, rfl, hr⟩ : ∃ i r, j = i * 6 + r ∧ r < 6 := ⟨j / 6, j % 6, by omega, by omega⟩
 have hi : i < l.length := by omega
 have hg := List.getElem?_eq_getElem hi
 obtain ⟨_, hs⟩ := h4 i _ hg
 rw [flat_get l i r _ hg hr] at hj
 match r, hr with
 | 0, _ => simp only [Sec.cells, List.getElem?_cons_zero, Option.some.injEq] at hj; rw [Nat.add_zero, ← hj]; exact hs.r
 | 1, _ => rw [add_more _ _ _ (by omega), hs.h]; exact hj
 | 2, _ => rw [add_more _ _ _ (by omega), hs.a0]; exact hj
 | 3, _ => rw [add_more _ _ _ (by omega), hs.b0]; exact hj
 | 4, _ => rw [add_more _ _ _ (by omega), hs.a1]; exact hj
 | 5, _ => rw [add_more _ _ _ (by omega), hs.b1]; exact hj
theorem news_plain {w : World} {cs : Array Value} {t : TypeId} {H : Nat} (hH : w.heap.size = H) : ∀ j u, cs.toList[j]? = some u → (w.alloc (.cells cs t)).cell? ((⟨H, 0, none⟩ : Addr).add j) = some u := by
 intro j u h
 rw [add0]
 subst hH
 rw [World.cell?_alloc_new]
 simpa using h
theorem flat_snoc (l : List Sec) (s : Sec) : flat (l ++ [s]) = flat l ++ s.cells := by simp [flat]
def TwoS (w : World) (b : Nat) : Prop := ∀ m : Nat, m < 2 → ∃ v l, w.cell? ⟨b, m, none⟩ = some v ∧ IsSecs w v l ∧ rightS l = true
theorem twoS_new (w : World) (t : TypeId) (x y : Value) (lx ly : List Sec) (hx : IsSecs w x lx) (hy : IsSecs w y ly) (rx : rightS lx = true) (ry : rightS ly = true) :
  TwoS (w.alloc (.cells #[x, y] t)) w.heap.size := by
 intro m hm
 rw [World.cell?_alloc_new]
 match m, hm with
 | 0, _ => exact ⟨_, lx, rfl, hx.keepB ((B.refl w).alloc _ _), rx⟩
 | 1, _ => exact ⟨_, ly, rfl, hy.keepB ((B.refl w).alloc _ _), ry⟩
theorem TwoS.keep {w w' : World} {b : Nat} (h : TwoS w b) (q : B w w') : TwoS w' b := fun m hm => by
 obtain ⟨v, l, h1, h2, h3⟩ := h m hm
 exact ⟨v, l, q.keep h1, h2.keepB q, h3⟩
theorem u16_wf {k : Int} (w : (Lit.int .u16 k).wf = true) : 0 ≤ k ∧ k ≤ 65535 := by
 simp [Lit.wf, IntKind.min, IntKind.max, IntKind.signed, IntKind.bits] at w
 omega
theorem and_I64 (x y : Int) : I64 (bits .and .i64 x y) := by
 rw [and_i64]
 have := BitVec.toInt_lt (x := BitVec.ofInt 64 x &&& BitVec.ofInt 64 y)
 have := BitVec.le_toInt (x := BitVec.ofInt 64 x &&& BitVec.ofInt 64 y)
 unfold I64
 omega
theorem IsSecs.formL {w : World} {v : Value} {l : List Sec} (h : IsSecs w v l) : ∃ ao cap, v = .slice ao l.length cap := by
 rcases h with ⟨rfl, rfl⟩ | ⟨a, cap, rfl, _⟩
 ·exact ⟨_, _, rfl⟩
 ·exact ⟨_, _, rfl⟩
end Go.Proofs.YtalnfojaccfcjaaGreatDoor
namespace Go.Proofs.YtalnfojaccfcjaaGreatDoor
open Go.RowKit
set_option linter.unusedVariables false
def Fl.cells (f : Fl) : List Value := [.string f.n, .int .i64 f.r, .int .i64 f.c, .int .i64 f.v]
def flatF (L : List Fl) : List Value := L.flatMap Fl.cells
theorem flatF_len (L : List Fl) : (flatF L).length = L.length * 4 := by
 induction L with
 | nil => rfl
 | cons x l ih =>
  show (x.cells ++ flatF l).length = _
  rw [List.length_append, ih, List.length_cons]
  simp [Fl.cells]
  omega
theorem flatF_get : ∀ (L : List Fl) (i j : Nat) (r : Fl), L[i]? = some r → j < 4 → (flatF L)[i * 4 + j]? = r.cells[j]?
 | [], _, _, _, h, _ => by simp at h
 | r :: L, 0, j, r', h, hj => by
  simp at h
  subst h
  rw [Nat.zero_mul, Nat.zero_add]
  show (r.cells ++ flatF L)[j]? = _
  rw [List.getElem?_append_left (by simpa [Fl.cells] using hj)]
 | r :: L, i + 1, j, r', h, hj => by
  show (r.cells ++ flatF L)[(i + 1) * 4 + j]? = _
  rw [List.getElem?_append_right (by simp [Fl.cells]; omega), show (i + 1) * 4 + j - r.cells.length = i * 4 + j by simp [Fl.cells]; omega]
  exact flatF_get L i j r' (by simpa using h) hj
theorem flatF_snoc (L : List Fl) (f : Fl) : flatF (L ++ [f]) = flatF L ++ f.cells := by simp [flatF]
theorem flatR_snoc : ∀ (L : List Rec) (vs : List Value) (r : Rec) (v : Value), L.length = vs.length → flatR (L ++ [r]) (vs ++ [v]) = flatR L vs ++ r.cells v
 | [], [], r, v, _ => by simp [flatR]
 | [], _ :: _, _, _, h => by simp at h
 | _ :: _, [], _, _, h => by simp at h
 | x :: L, u :: vs, r, v, h => by
  show x.cells u ++ flatR (L ++ [r]) (vs ++ [v]) = (x.cells u ++ flatR L vs) ++ _
  rw [flatR_snoc L vs r v (by simpa using h), List.append_assoc]
theorem moreW_snoc : ∀ (L : List Wr) (r : Wr) (s : Sec), moreW (L ++ [r]) s = L ++ [moreR r s]
 | [], _, _ => rfl
 | [_], _, _ => rfl
 | x :: y :: L, r, s => by
  show x :: moreW ((y :: L) ++ [r]) s = _
  rw [moreW_snoc (y :: L) r s]
  rfl
def ownL (ss tt : List Value) : Bool × Nat → Option Nat
 | (true, i) => (ss[i]?).bind Value.ownBlock
 | (false, i) => (tt[i]?).bind Value.ownBlock
structure Rows (w : World) (base : Nat) (wv tv fv : Value) (d : Dk) (ss tt : List Value) : Prop where
 ws : w.ownsRow base 33 5 wv d.ws.length (flatR d.ws ss)
 ts : w.ownsRow base 35 5 tv d.ts.length (flatR d.ts tt)
 fs : w.ownsRow base 41 4 fv d.fs.length (flatF d.fs)
 sl : ss.length = d.ws.length
 tl : tt.length = d.ts.length
 sh : ∀ (i : Nat) r v, d.ws[i]? = some r → ss[i]? = some v → w.ownsRow base 37 6 v r.l.length (flat r.l)
 th : ∀ (i : Nat) r v, d.ts[i]? = some r → tt[i]? = some v → w.ownsRow base 37 6 v r.l.length (flat r.l)
 wi : ∀ r ∈ d.ws, ∀ s ∈ r.l, s.I
 ti : ∀ r ∈ d.ts, ∀ s ∈ r.l, s.I
 apart : ∀ x y k, ownL ss tt x = some k → ownL ss tt y = some k → x = y
theorem Rows.start (w : World) (base : Nat) : Rows w base (.slice none 0 0) (.slice none 0 0) (.slice none 0 0) dk0 [] [] :=
 ⟨World.ownsRow_nil _ _ _ _, World.ownsRow_nil _ _ _ _, World.ownsRow_nil _ _ _ _, rfl, rfl, fun i r v h => by simp [dk0] at h, fun i r v h => by simp [dk0] at h, fun r h => by simp [dk0] at h, fun r h => by simp [dk0] at h,
  fun x y k h => by obtain ⟨b, i⟩ := x; cases b <;> simp [ownL] at h⟩
theorem isSecs_own {w : World} {base : Nat} {e : TypeId} {v : Value} {l : List Sec} (h : w.ownsRow base e 6 v l.length (flat l)) (hI : ∀ s ∈ l, s.I) : IsSecs w v l := by
 rcases Nat.eq_zero_or_pos l.length with h0 | h0
 ·obtain rfl : l = [] := List.length_eq_zero_iff.1 h0
  rcases h.2 with ⟨rfl, _⟩ | ⟨g, cap, cur, rfl, _, _, h1, h2, _⟩
  ·exact .inl ⟨rfl, rfl⟩
  ·exact .inr ⟨_, cap, rfl, h1, h2, fun i s hs => by simp at hs⟩
 ·rcases h.2 with ⟨_, h1⟩ | ⟨g, cap, cur, rfl, h1⟩
  ·omega
  ·exact secs_own h rfl h0 hI
theorem isRecs_own {w : World} {base : Nat} {e : TypeId} {v : Value} {L : List Rec} {vs : List Value} (h : w.ownsRow base e 5 v L.length (flatR L vs)) (hv : L.length = vs.length) (hs : ∀ (i : Nat) (r : Rec) (v : Value), L[i]? = some r → vs[i]? = some v → IsSecs w v r.l) : IsRecs w v L := by
 have hh := h
 rcases hh.2 with ⟨rfl, h0⟩ | ⟨g, cap, cur, rfl, _, _, h1, h2, _⟩
 ·exact .inl ⟨rfl, List.length_eq_zero_iff.1 h0⟩
 ·exact recs_cells hv h1 h2 (fun j u hj => by have := h.cells rfl j u hj; rwa [add0] at this) hs
theorem isFls_own {w : World} {base : Nat} {e : TypeId} {v : Value} {L : List Fl} (h : w.ownsRow base e 4 v L.length (flatF L)) : IsFls w v L := by
 have hh := h
 rcases hh.2 with ⟨rfl, h0⟩ | ⟨g, cap, cur, rfl, _, _, h1, h2, _⟩
 ·exact .inl ⟨rfl, List.length_eq_zero_iff.1 h0⟩
 ·refine .inr ⟨_, cap, rfl, h1, h2, fun i f hf => ?_⟩
  have hc := fun j u hj => h.cells (g := g) rfl j u hj
  have k := fun j (hj : j < 4) u (hu : f.cells[j]? = some u) => hc (i * 4 + j) u ((flatF_get L i j f hf hj).trans hu)
  simp only [add0] at k
  rw [add0]
  exact ⟨k 0 (by omega) _ rfl, k 1 (by omega) _ rfl, k 2 (by omega) _ rfl, k 3 (by omega) _ rfl⟩
section
variable {w w' : World} {base : Nat} {wv tv fv : Value} {d : Dk} {ss tt : List Value}
theorem Rows.dk (h : Rows w base wv tv fv d ss tt) : IsDk w wv tv fv d :=
 ⟨isRecs_own h.ws h.sl.symm (fun i r v hr hv => isSecs_own (h.sh i r v hr hv) (h.wi r (List.mem_of_getElem? hr))),
  isRecs_own h.ts h.tl.symm (fun i r v hr hv => isSecs_own (h.th i r v hr hv) (h.ti r (List.mem_of_getElem? hr))), isFls_own h.fs⟩
theorem Rows.keep (h : Rows w base wv tv fv d ss tt) (hk : ∀ i, base ≤ i → ∀ cs e, (e = 33 ∨ e = 35 ∨ e = 41 ∨ e = 37) → w.heap[i]? = some (.cells cs e (0, 0)) → w'.heap[i]? = w.heap[i]?) : Rows w' base wv tv fv d ss tt := by
 have own : ∀ {e size n : Nat} {v : Value} {xs : List Value}, (e = 33 ∨ e = 35 ∨ e = 41 ∨ e = 37) → w.ownsRow base e size v n xs → w'.ownsRow base e size v n xs := fun {e size n v xs} he h => by
  refine ⟨h.1, ?_⟩
  rcases h.2 with hn | ⟨g, cap, cur, rfl, hb, hg, rest⟩
  ·exact .inl hn
  ·exact .inr ⟨g, cap, cur, rfl, hb, (hk g hb cur e he hg).trans hg, rest⟩
 exact ⟨own (by simp) h.ws, own (by simp) h.ts, own (by simp) h.fs, h.sl, h.tl, fun i r v h1 h2 => own (by simp) (h.sh i r v h1 h2), fun i r v h1 h2 => own (by simp) (h.th i r v h1 h2), h.wi, h.ti, h.apart⟩
theorem Rows.tn {K : List (Option TypeId)} {b : Nat} (h : Rows w base wv tv fv d ss tt) (t : Tn K b w w') (h1 : some 33 ∉ K) (h2 : some 35 ∉ K) (h3 : some 41 ∉ K) (h4 : some 37 ∉ K) : Rows w' base wv tv fv d ss tt :=
 h.keep fun i _ cs e he ho => by rcases he with rfl | rfl | rfl | rfl <;> exact (t.objc ho (by assumption)).trans ho.symm
theorem Rows.b (h : Rows w base wv tv fv d ss tt) (q : B w w') : Rows w' base wv tv fv d ss tt :=
 h.keep fun i _ cs e he ho => q.below.block i (obj_lt ho)
theorem nodup_nil {x : Bool × Nat} {k : Nat} : ownL (ss ++ [.slice none 0 0]) tt x = some k → ownL ss tt x = some k := by
 obtain ⟨b, i⟩ := x
 cases b
 ·exact id
 ·simp only [ownL]
  intro h
  rcases Nat.lt_trichotomy i ss.length with hi | hi | hi
  ·rwa [List.getElem?_append_left hi] at h
  ·subst hi
   rw [List.getElem?_append_right (Nat.le_refl _)] at h
   simp [Value.ownBlock] at h
  ·rw [List.getElem?_eq_none (by simp; omega)] at h
   cases h
theorem nodup_nilT {x : Bool × Nat} {k : Nat} : ownL ss (tt ++ [.slice none 0 0]) x = some k → ownL ss tt x = some k := by
 obtain ⟨b, i⟩ := x
 cases b
 ·simp only [ownL]
  intro h
  rcases Nat.lt_trichotomy i tt.length with hi | hi | hi
  ·rwa [List.getElem?_append_left hi] at h
  ·subst hi
   rw [List.getElem?_append_right (Nat.le_refl _)] at h
   simp [Value.ownBlock] at h
  ·rw [List.getElem?_eq_none (by simp; omega)] at h
   cases h
 ·exact id
theorem Rows.addW (h : Rows w base wv tv fv d ss tt) {wv' : Value} {r : Wr} (hr : r.l = []) (hg : w.grownBy w' wv.ownBlock) (ho : w'.ownsRow base 33 5 wv' (d.ws.length + 1) (flatR d.ws ss ++ r.cells (.slice none 0 0))) :
  Rows w' base wv' tv fv { d with ws := d.ws ++ [r] } (ss ++ [.slice none 0 0]) tt := by
 refine ⟨?_, h.ts.kept hg (rows_apart h.ts h.ws (by decide)), h.fs.kept hg (rows_apart h.fs h.ws (by decide)), by simp [h.sl], h.tl, fun i x v hx hv => ?_, fun i x v hx hv => (h.th i x v hx hv).kept hg (rows_apart (h.th i x v hx hv) h.ws (by decide)), fun x hx => ?_, h.ti, fun x y k hx hy => h.apart x y k (nodup_nil hx) (nodup_nil hy)⟩
 ·rw [flatR_snoc _ _ _ _ h.sl.symm]
  simpa using ho
 ·simp only at hx
  rcases Nat.lt_trichotomy i d.ws.length with hi | hi | hi
  ·rw [List.getElem?_append_left hi] at hx
   rw [List.getElem?_append_left (by rw [h.sl]; exact hi)] at hv
   exact (h.sh i x v hx hv).kept hg (rows_apart (h.sh i x v hx hv) h.ws (by decide))
  ·subst hi
   rw [List.getElem?_append_right (Nat.le_refl _)] at hx
   rw [List.getElem?_append_right (by rw [h.sl]; exact Nat.le_refl _), h.sl] at hv
   simp at hx hv
   subst hx hv
   rw [hr]
   exact World.ownsRow_nil _ _ _ _
  ·rw [List.getElem?_eq_none (by simp; omega)] at hx
   cases hx
 ·rcases List.mem_append.1 hx with hx | hx
  ·exact h.wi x hx
  ·obtain rfl := List.mem_singleton.1 hx
   rw [hr]
   simp
theorem Rows.addT (h : Rows w base wv tv fv d ss tt) {tv' : Value} {r : Wr} (hr : r.l = []) (hg : w.grownBy w' tv.ownBlock) (ho : w'.ownsRow base 35 5 tv' (d.ts.length + 1) (flatR d.ts tt ++ r.cells (.slice none 0 0))) :
  Rows w' base wv tv' fv { d with ts := d.ts ++ [r] } ss (tt ++ [.slice none 0 0]) := by
 refine ⟨h.ws.kept hg (rows_apart h.ws h.ts (by decide)), ?_, h.fs.kept hg (rows_apart h.fs h.ts (by decide)), h.sl, by simp [h.tl], fun i x v hx hv => (h.sh i x v hx hv).kept hg (rows_apart (h.sh i x v hx hv) h.ts (by decide)), fun i x v hx hv => ?_, h.wi, fun x hx => ?_, fun x y k hx hy => h.apart x y k (nodup_nilT hx) (nodup_nilT hy)⟩
 ·rw [flatR_snoc _ _ _ _ h.tl.symm]
  simpa using ho
 ·simp only at hx
  rcases Nat.lt_trichotomy i d.ts.length with hi | hi | hi
  ·rw [List.getElem?_append_left hi] at hx
   rw [List.getElem?_append_left (by rw [h.tl]; exact hi)] at hv
   exact (h.th i x v hx hv).kept hg (rows_apart (h.th i x v hx hv) h.ts (by decide))
  ·subst hi
   rw [List.getElem?_append_right (Nat.le_refl _)] at hx
   rw [List.getElem?_append_right (by rw [h.tl]; exact Nat.le_refl _), h.tl] at hv
   simp at hx hv
   subst hx hv
   rw [hr]
   exact World.ownsRow_nil _ _ _ _
  ·rw [List.getElem?_eq_none (by simp; omega)] at hx
   cases hx
 ·rcases List.mem_append.1 hx with hx | hx
  ·exact h.ti x hx
  ·obtain rfl := List.mem_singleton.1 hx
   rw [hr]
   simp
theorem Rows.addF (h : Rows w base wv tv fv d ss tt) {fv' : Value} {f : Fl} (hg : w.grownBy w' fv.ownBlock) (ho : w'.ownsRow base 41 4 fv' (d.fs.length + 1) (flatF d.fs ++ f.cells)) :
  Rows w' base wv tv fv' { d with fs := d.fs ++ [f] } ss tt := by
 refine ⟨h.ws.kept hg (rows_apart h.ws h.fs (by decide)), h.ts.kept hg (rows_apart h.ts h.fs (by decide)), ?_, h.sl, h.tl, fun i x v hx hv => (h.sh i x v hx hv).kept hg (rows_apart (h.sh i x v hx hv) h.fs (by decide)), fun i x v hx hv => (h.th i x v hx hv).kept hg (rows_apart (h.th i x v hx hv) h.fs (by decide)), h.wi, h.ti, h.apart⟩
 rw [flatF_snoc]
 simpa using ho
theorem Rows.old (h : Rows w base wv tv fv d ss tt) {x : Bool × Nat} {k : Nat} (hx : ownL ss tt x = some k) : k < w.heap.size := by
 obtain ⟨b, i⟩ := x
 cases b
 ·simp only [ownL] at hx
  cases hv : tt[i]? with
  | none => rw [hv] at hx; cases hx
  | some v =>
   rw [hv] at hx
   have hi : i < d.ts.length := by rw [← h.tl]; exact (List.getElem?_eq_some_iff.1 hv).1
   exact ((h.th i _ v (List.getElem?_eq_getElem hi) hv).lt k hx).2
 ·simp only [ownL] at hx
  cases hv : ss[i]? with
  | none => rw [hv] at hx; cases hx
  | some v =>
   rw [hv] at hx
   have hi : i < d.ws.length := by rw [← h.sl]; exact (List.getElem?_eq_some_iff.1 hv).1
   exact ((h.sh i _ v (List.getElem?_eq_getElem hi) hv).lt k hx).2
theorem apart_turn {f f' : Bool × Nat → Option Nat} {x0 : Bool × Nat} {g : Nat} (h : ∀ x y k, f x = some k → f y = some k → x = y) (h0 : f' x0 = some g) (hne : ∀ x, x ≠ x0 → f' x = f x) (hg : f x0 = some g ∨ ∀ x k, f x = some k → k ≠ g) :
  ∀ x y k, f' x = some k → f' y = some k → x = y := by
 intro x y k hx hy
 have key : ∀ z, z ≠ x0 → f' z = some g → False := fun z hz hzg => by
  rw [hne z hz] at hzg
  rcases hg with hg | hg
  ·exact hz (h z x0 g hzg hg)
  ·exact hg z g hzg rfl
 by_cases h1 : x = x0
 ·by_cases h2 : y = x0
  ·rw [h1, h2]
  ·subst h1
   rw [h0] at hx
   cases hx
   exact (key y h2 hy).elim
 ·by_cases h2 : y = x0
  ·subst h2
   rw [h0] at hy
   cases hy
   exact (key x h1 hx).elim
  ·rw [hne x h1] at hx
   rw [hne y h2] at hy
   exact h x y k hx hy
theorem flatR_last (ws0 : List Wr) (ss0 : List Value) (r : Wr) (s : Sec) (v v' : Value) (h : ws0.length = ss0.length) : (flatR (ws0 ++ [r]) (ss0 ++ [v])).set (ws0.length * 5 + 4) v' = flatR (ws0 ++ [moreR r s]) (ss0 ++ [v']) := by
 rw [flatR_snoc _ _ _ _ h, flatR_snoc _ _ _ _ h, List.set_append_right _ _ (by rw [flatR_len _ _ h]; omega), flatR_len _ _ h, Nat.add_sub_cancel_left]
 rfl
theorem Rows.addSW {w1 : World} {ws0 : List Wr} {r : Wr} {ts : List Wr} {fs : List Fl} {ss0 : List Value} {v v' : Value} {gW g cap : Nat} {s : Sec} (h : Rows w base (.slice (some ⟨gW, 0, none⟩) (ws0.length + 1) cap) tv fv ⟨ws0 ++ [r], ts, fs⟩ (ss0 ++ [v]) tt) (hs : s.I)
  (hg : w.grownBy w1 v.ownBlock) (ho : w1.ownsRow base 37 6 v' (r.l.length + 1) (flat r.l ++ s.cells)) (hv' : v'.ownBlock = some g) (hgg : v.ownBlock = some g ∨ g = w.heap.size) :
  Rows (w1.setCell ⟨gW, ws0.length * 5 + 4, none⟩ v') base (.slice (some ⟨gW, 0, none⟩) (ws0.length + 1) cap) tv fv ⟨ws0 ++ [moreR r s], ts, fs⟩ (ss0 ++ [v']) tt := by
 have hsl : ss0.length = ws0.length := by have := h.sl; simpa using this
 have hS : w.ownsRow base 37 6 v r.l.length (flat r.l) := h.sh ws0.length r v (by simp) (by rw [← hsl]; simp)
 have h1 := h.ws.kept hg (rows_apart h.ws hS (by decide))
 have h1' : w1.ownsRow base 33 5 (.slice (some ⟨gW, 0, none⟩) (ws0.length + 1) cap) (ws0.length + 1) (flatR (ws0 ++ [r]) (ss0 ++ [v])) := by simpa using h1
 obtain ⟨h2, g2⟩ := h1'.stored (ws0.length * 5 + 4) v'
 rw [flatR_last ws0 ss0 r s v v' hsl.symm] at h2
 have o1 : ∀ {e size n : Nat} {u : Value} {xs : List Value}, e ≠ 33 → w1.ownsRow base e size u n xs → (w1.setCell ⟨gW, ws0.length * 5 + 4, none⟩ v').ownsRow base e size u n xs := fun {e size n u xs} he hu => by
  refine hu.kept g2 ?_
  rcases rows_apart hu h1' he with h3 | h3
  ·exact .inl h3
  ·exact .inr h3
 have lastL : ∀ (i : Nat), i ≠ ws0.length → ∀ u, (ss0 ++ [v'])[i]? = some u → (ss0 ++ [v])[i]? = some u := fun i hi u hu => by
  rcases Nat.lt_or_ge i ss0.length with hl | hl
  ·rw [List.getElem?_append_left hl] at hu ⊢
   exact hu
  ·rw [List.getElem?_eq_none (by simp; omega)] at hu
   cases hu
 have own2 : ∀ x, x ≠ ((true, ws0.length) : Bool × Nat) → ownL (ss0 ++ [v']) tt x = ownL (ss0 ++ [v]) tt x := fun x hx => by
  obtain ⟨b, i⟩ := x
  cases b
  ·rfl
  ·have hi : i ≠ ws0.length := fun e => hx (by rw [e])
   simp only [ownL]
   rcases Nat.lt_or_ge i ss0.length with hl | hl
   ·rw [List.getElem?_append_left hl, List.getElem?_append_left hl]
   ·rw [List.getElem?_eq_none (by simp; omega), List.getElem?_eq_none (by simp; omega)]
 have hv0 : ownL (ss0 ++ [v]) tt (true, ws0.length) = v.ownBlock := by simp [ownL, ← hsl]
 have far : ∀ (x : Bool × Nat) (k : Nat) (u : Value), ownL (ss0 ++ [v]) tt x = some k → x ≠ (true, ws0.length) → u.ownBlock = some k → u.ownBlock ≠ v.ownBlock := fun x k u hx hne hu e => by
  rw [hu] at e
  exact hne (h.apart x _ k hx (hv0.trans e.symm))
 have keep : ∀ (x : Bool × Nat) (u : Value) {n : Nat} {xs : List Value}, x ≠ (true, ws0.length) → ownL (ss0 ++ [v]) tt x = u.ownBlock → w.ownsRow base 37 6 u n xs → (w1.setCell ⟨gW, ws0.length * 5 + 4, none⟩ v').ownsRow base 37 6 u n xs := fun x u {n xs} hx hu ho => by
  refine o1 (by decide) (ho.kept hg ?_)
  cases hb : u.ownBlock with
  | none => exact .inl rfl
  | some k => exact .inr (hb ▸ far x k u (hu.trans hb) hx hb)
 refine ⟨by simpa using h2, o1 (by decide) (h.ts.kept hg (rows_apart h.ts hS (by decide))), o1 (by decide) (h.fs.kept hg (rows_apart h.fs hS (by decide))), by simp [hsl], h.tl, fun i x u hx hu => ?_, fun i x u hx hu => keep (false, i) u (by simp) (by simp [ownL, hu]) (h.th i x u hx hu), fun x hx => ?_, h.ti, ?_⟩
 ·by_cases hi : i = ws0.length
  ·subst hi
   rw [← hsl] at hu
   simp at hx hu
   subst hx hu
   have := o1 (by decide) ho
   rw [← flat_snoc] at this
   simpa [moreR] using this
  ·have hu' := lastL i hi u hu
   have hx' : (ws0 ++ [r])[i]? = some x := by
    rcases Nat.lt_or_ge i ws0.length with hl | hl
    ·simp only at hx
     rw [List.getElem?_append_left hl] at hx ⊢
     exact hx
    ·simp only at hx
     rw [List.getElem?_eq_none (by simp; omega)] at hx
     cases hx
   exact keep (true, i) u (by simpa using hi) (by simp [ownL, hu']) (h.sh i x u hx' hu')
 ·rcases List.mem_append.1 hx with hx | hx
  ·exact h.wi x (List.mem_append_left _ hx)
  ·obtain rfl := List.mem_singleton.1 hx
   intro s' hs'
   rcases List.mem_append.1 hs' with hs' | hs'
   ·exact h.wi r (by simp) s' hs'
   ·obtain rfl := List.mem_singleton.1 hs'
    exact hs
 ·refine apart_turn (x0 := (true, ws0.length)) (g := g) h.apart (by simp [ownL, ← hsl, hv']) own2 ?_
  rcases hgg with hgg | hgg
  ·exact .inl (hv0.trans hgg)
  ·exact .inr fun x k hx e => by have := h.old hx; omega
theorem Rows.addST {w1 : World} {ws0 : List Wr} {r : Wr} {ws : List Wr} {fs : List Fl} {ss0 : List Value} {v v' : Value} {gW g cap : Nat} {s : Sec} (h : Rows w base wv (.slice (some ⟨gW, 0, none⟩) (ws0.length + 1) cap) fv ⟨ws, ws0 ++ [r], fs⟩ ss (ss0 ++ [v])) (hs : s.I)
  (hg : w.grownBy w1 v.ownBlock) (ho : w1.ownsRow base 37 6 v' (r.l.length + 1) (flat r.l ++ s.cells)) (hv' : v'.ownBlock = some g) (hgg : v.ownBlock = some g ∨ g = w.heap.size) :
  Rows (w1.setCell ⟨gW, ws0.length * 5 + 4, none⟩ v') base wv (.slice (some ⟨gW, 0, none⟩) (ws0.length + 1) cap) fv ⟨ws, ws0 ++ [moreR r s], fs⟩ ss (ss0 ++ [v']) := by
 have hsl : ss0.length = ws0.length := by have := h.tl; simpa using this
 have hS : w.ownsRow base 37 6 v r.l.length (flat r.l) := h.th ws0.length r v (by simp) (by rw [← hsl]; simp)
 have h1 := h.ts.kept hg (rows_apart h.ts hS (by decide))
 have h1' : w1.ownsRow base 35 5 (.slice (some ⟨gW, 0, none⟩) (ws0.length + 1) cap) (ws0.length + 1) (flatR (ws0 ++ [r]) (ss0 ++ [v])) := by simpa using h1
 obtain ⟨h2, g2⟩ := h1'.stored (ws0.length * 5 + 4) v'
 rw [flatR_last ws0 ss0 r s v v' hsl.symm] at h2
 have o1 : ∀ {e size n : Nat} {u : Value} {xs : List Value}, e ≠ 35 → w1.ownsRow base e size u n xs → (w1.setCell ⟨gW, ws0.length * 5 + 4, none⟩ v').ownsRow base e size u n xs := fun {e size n u xs} he hu => by
  refine hu.kept g2 ?_
  rcases rows_apart hu h1' he with h3 | h3
  ·exact .inl h3
  ·exact .inr h3
 have lastL : ∀ (i : Nat), i ≠ ws0.length → ∀ u, (ss0 ++ [v'])[i]? = some u → (ss0 ++ [v])[i]? = some u := fun i hi u hu => by
  rcases Nat.lt_or_ge i ss0.length with hl | hl
  ·rw [List.getElem?_append_left hl] at hu ⊢
   exact hu
  ·rw [List.getElem?_eq_none (by simp; omega)] at hu
   cases hu
 have own2 : ∀ x, x ≠ ((false, ws0.length) : Bool × Nat) → ownL ss (ss0 ++ [v']) x = ownL ss (ss0 ++ [v]) x := fun x hx => by
  obtain ⟨b, i⟩ := x
  cases b
  ·have hi : i ≠ ws0.length := fun e => hx (by rw [e])
   simp only [ownL]
   rcases Nat.lt_or_ge i ss0.length with hl | hl
   ·rw [List.getElem?_append_left hl, List.getElem?_append_left hl]
   ·rw [List.getElem?_eq_none (by simp; omega), List.getElem?_eq_none (by simp; omega)]
  ·rfl
 have hv0 : ownL ss (ss0 ++ [v]) (false, ws0.length) = v.ownBlock := by simp [ownL, ← hsl]
 have far : ∀ (x : Bool × Nat) (k : Nat) (u : Value), ownL ss (ss0 ++ [v]) x = some k → x ≠ (false, ws0.length) → u.ownBlock = some k → u.ownBlock ≠ v.ownBlock := fun x k u hx hne hu e => by
  rw [hu] at e
  exact hne (h.apart x _ k hx (hv0.trans e.symm))
 have keep : ∀ (x : Bool × Nat) (u : Value) {n : Nat} {xs : List Value}, x ≠ (false, ws0.length) → ownL ss (ss0 ++ [v]) x = u.ownBlock → w.ownsRow base 37 6 u n xs → (w1.setCell ⟨gW, ws0.length * 5 + 4, none⟩ v').ownsRow base 37 6 u n xs := fun x u {n xs} hx hu ho => by
  refine o1 (by decide) (ho.kept hg ?_)
  cases hb : u.ownBlock with
  | none => exact .inl rfl
  | some k => exact .inr (hb ▸ far x k u (hu.trans hb) hx hb)
 refine ⟨o1 (by decide) (h.ws.kept hg (rows_apart h.ws hS (by decide))), by simpa using h2, o1 (by decide) (h.fs.kept hg (rows_apart h.fs hS (by decide))), h.sl, by simp [hsl], fun i x u hx hu => keep (true, i) u (by simp) (by simp [ownL, hu]) (h.sh i x u hx hu), fun i x u hx hu => ?_, h.wi, fun x hx => ?_, ?_⟩
 ·by_cases hi : i = ws0.length
  ·subst hi
   rw [← hsl] at hu
   simp at hx hu
   subst hx hu
   have := o1 (by decide) ho
   rw [← flat_snoc] at this
   simpa [moreR] using this
  ·have hu' := lastL i hi u hu
   have hx' : (ws0 ++ [r])[i]? = some x := by
    rcases Nat.lt_or_ge i ws0.length with hl | hl
    ·simp only at hx
     rw [List.getElem?_append_left hl] at hx ⊢
     exact hx
    ·simp only at hx
     rw [List.getElem?_eq_none (by simp; omega)] at hx
     cases hx
   exact keep (false, i) u (by simpa using hi) (by simp [ownL, hu']) (h.th i x u hx' hu')
 ·rcases List.mem_append.1 hx with hx | hx
  ·exact h.ti x (List.mem_append_left _ hx)
  ·obtain rfl := List.mem_singleton.1 hx
   intro s' hs'
   rcases List.mem_append.1 hs' with hs' | hs'
   ·exact h.ti r (by simp) s' hs'
   ·obtain rfl := List.mem_singleton.1 hs'
    exact hs
 ·refine apart_turn (x0 := (false, ws0.length)) (g := g) h.apart (by simp [ownL, ← hsl, hv']) own2 ?_
  rcases hgg with hgg | hgg
  ·exact .inl (hv0.trans hgg)
  ·exact .inr fun x k hx e => by have := h.old hx; omega
end
end Go.Proofs.YtalnfojaccfcjaaGreatDoor
namespace Go.Proofs.YtalnfojaccfcjaaGreatDoor
open Go.RowKit
set_option linter.unusedVariables false
def RowIn (w : World) (v : Value) (m : Nat) (news : List Value) : Prop :=
 (v = .slice none 0 0 ∧ m = 0 ∧ news = []) ∨ ∃ (ad : Addr) (c : Nat), v = .slice (some ad) m c ∧ ∀ j u, news[j]? = some u → w.cell? (ad.add j) = some u
theorem RowIn.keepB {w w' : World} {v : Value} {m : Nat} {news : List Value} (h : RowIn w v m news) (q : B w w') : RowIn w' v m news := by
 rcases h with h | ⟨ad, c, h1, h2⟩
 ·exact .inl h
 ·exact .inr ⟨ad, c, h1, fun j u hj => q.keep (h2 j u hj)⟩
theorem RowIn.form {w : World} {v : Value} {m : Nat} {news : List Value} (h : RowIn w v m news) : ∃ ao cap, v = .slice ao m cap := by
 rcases h with ⟨rfl, rfl, _⟩ | ⟨ad, c, rfl, _⟩
 ·exact ⟨_, _, rfl⟩
 ·exact ⟨_, _, rfl⟩
theorem ownsRow_form {w : World} {base : Nat} {e : TypeId} {size n : Nat} {v : Value} {xs : List Value} (h : w.ownsRow base e size v n xs) : ∃ o c, v = .slice o n c := by
 rcases h.2 with ⟨rfl, rfl⟩ | ⟨g, cap, cur, rfl, _⟩
 ·exact ⟨_, _, rfl⟩
 ·exact ⟨_, _, rfl⟩
theorem copy_run {P : Program} (w : World) (t ty e : TypeId) (i : TypeInfo) (z : Value) (size bytes : Nat) (ht : P.underlying t = some (.slice e)) (hi : P.info? e = some i) (hz : i.zero = some z)
  (hsize : i.size = size) (hby : i.bytes = bytes) (hzs : z.cells.size = size) (hsz : 0 < size) (v : Value) (m : Nat) (news : List Value) (hv : RowIn w v m news) (hl : news.length = m * size) (h1 : ∀ u ∈ news, u.oneCell' = true)
  (h63 : m ≤ maxLen) (hbytes : m * bytes ≤ 140737488355328) :
  ∃ o c w', (Builtin.append_ #[t, t] ty #[.slice none 0 0, v]).run P w = .ok (.slice o m c) w' ∧ w'.ownsRow w.heap.size e size (.slice o m c) m news ∧ B w w' := by
 rcases hv with ⟨rfl, rfl, rfl⟩ | ⟨ad, c, rfl, hc⟩
 ·exact ⟨none, 0, w, run_append_owned_none w w.heap.size t ty e i size ht hi _ 0 [] (World.ownsRow_nil _ _ _ _), World.ownsRow_nil _ _ _ _, B.refl w⟩
 ·obtain ⟨v', w', hr, h2, h3, _, h5⟩ := run_append_own_at (P := P) w w.heap.size t ty e i z size bytes ht hi hz hsize hby hzs hsz (.slice none 0 0) 0 [] (World.ownsRow_nil _ _ _ _) ad m c news hl hc h1 (by omega) (by simpa using hbytes) (Nat.le_refl _)
  simp only [Nat.zero_add, List.nil_append] at h2
  obtain ⟨o, c', rfl⟩ := ownsRow_form h2
  exact ⟨o, c', w', hr, h2, (B.refl w).grownBy h3 (fun _ h => by cases h)⟩
theorem wpList_copy {P : Program} (w : World) {ops : Array Oper} {rest : List Oper} {o : Oper} {a : Act} {Q : Exit → Act → World → Prop} (hgd : o.guard = none) (s x : Operand) (t : TypeId)
  (ho : o.op = .call { callee := .builtin .append, args := #[s, x], argTypes := #[t, t] })
  (e : TypeId) (i : TypeInfo) (z : Value) (size bytes : Nat) (ht : P.underlying t = some (.slice e)) (hi : P.info? e = some i) (hz : i.zero = some z)
  (hsize : i.size = size) (hby : i.bytes = bytes) (hzs : z.cells.size = size) (hsz : 0 < size) (v : Value) (hs : a.eval s = .slice none 0 0) (hx : a.eval x = v) (m : Nat) (news : List Value) (hv : RowIn w v m news) (hl : news.length = m * size) (h1 : ∀ u ∈ news, u.oneCell' = true)
  (h63 : m ≤ maxLen) (hbytes : m * bytes ≤ 140737488355328)
  (h : ∀ oN cN w', w'.ownsRow w.heap.size e size (.slice oN m cN) m news → B w w' → wpList P ops Q rest (a.put o.dst (.slice oN m cN)) w') : wpList P ops Q (o :: rest) a w :=
 wpList_plain hgd fun K hK => by
  obtain ⟨oN, cN, w', hr, h2, h3⟩ := copy_run (P := P) w t o.type e i z size bytes ht hi hz hsize hby hzs hsz v m news hv hl h1 h63 hbytes
  unfold Oper.wp execOp
  simp only [ho, resolve, invoke, builtin, Sem.run_bind, Sem.run_pure, Result.andThen_ok, List.map_toArray, List.map_cons, List.map_nil, hs, hx, hr]
  exact hK _ _ (h oN cN w' h2 h3)
theorem secs_in {w : World} {v : Value} {l : List Sec} (h : IsSecs w v l) : RowIn w v l.length (flat l) := by
 rcases h with ⟨rfl, rfl⟩ | ⟨a, cap, rfl, h2, h3, h4⟩
 ·exact .inl ⟨rfl, rfl, rfl⟩
 ·exact .inr ⟨a, cap, rfl, secs_news h4⟩
theorem secs_I {w : World} {v : Value} {l : List Sec} (h : IsSecs w v l) : ∀ s ∈ l, s.I := by
 rcases h with ⟨rfl, rfl⟩ | ⟨a, cap, rfl, h2, h3, h4⟩
 ·simp
 ·intro s hs
  obtain ⟨i, hi⟩ := List.getElem?_of_mem hs
  exact (h4 i s hi).1
theorem fls_in {w : World} {v : Value} {L : List Fl} (h : IsFls w v L) : RowIn w v L.length (flatF L) := by
 rcases h with ⟨rfl, rfl⟩ | ⟨a, cap, rfl, h2, h3, h4⟩
 ·exact .inl ⟨rfl, rfl, rfl⟩
 ·refine .inr ⟨a, cap, rfl, fun j u hj => ?_⟩
  have hlt : j < (flatF L).length := (List.getElem?_eq_some_iff.1 hj).1
  rw [flatF_len] at hlt
  obtain ⟨i, r, rfl, hr⟩ : ∃ i r, j = i * 4 + r ∧ r < 4 := ⟨j / 4, j % 4, by omega, by omega⟩
  have hi : i < L.length := by omega
  have hg := List.getElem?_eq_getElem hi
  have hs := h4 i _ hg
  rw [flatF_get L i r _ hg hr] at hj
  match r, hr with
  | 0, _ => simp only [Fl.cells, List.getElem?_cons_zero, Option.some.injEq] at hj; rw [Nat.add_zero, ← hj]; exact hs.n
  | 1, _ => rw [add_more _ _ _ (by omega), hs.r]; exact hj
  | 2, _ => rw [add_more _ _ _ (by omega), hs.c]; exact hj
  | 3, _ => rw [add_more _ _ _ (by omega), hs.v]; exact hj
theorem flatF_one (L : List Fl) : ∀ u ∈ flatF L, u.oneCell' = true := by
 intro u hu
 obtain ⟨f, _, hf⟩ := List.mem_flatMap.1 hu
 simp only [Fl.cells, List.mem_cons, List.not_mem_nil, or_false] at hf
 rcases hf with rfl | rfl | rfl | rfl <;> rfl
theorem recs_vs {w : World} {v : Value} {L : List Rec} (h : IsRecs w v L) : ∃ vs : List Value, vs.length = L.length ∧ (∀ (i : Nat) r u, L[i]? = some r → vs[i]? = some u → IsSecs w u r.l) ∧ RowIn w v L.length (flatR L vs) := by
 rcases h with ⟨rfl, rfl⟩ | ⟨a, cap, rfl, h2, h3, h4⟩
 ·exact ⟨[], rfl, fun i r u h => by simp at h, .inl ⟨rfl, rfl, rfl⟩⟩
 ·clear h2 h3
  have hex : ∀ i : Nat, ∃ u, ∀ r, L[i]? = some r → w.cell? ⟨(a.add (i * 5)).block, (a.add (i * 5)).off + 4, none⟩ = some u ∧ IsSecs w u r.l := fun i => by
   cases hr : L[i]? with
   | none => exact ⟨.bool false, fun r h => by cases h⟩
   | some r =>
    obtain ⟨u, h1, h2⟩ := (h4 i r hr).l
    exact ⟨u, fun r' h => by obtain rfl := Option.some.inj h; exact ⟨h1, h2⟩⟩
  have hvs : ∃ f : Nat → Value, ∀ i r, L[i]? = some r → w.cell? ⟨(a.add (i * 5)).block, (a.add (i * 5)).off + 4, none⟩ = some (f i) ∧ IsSecs w (f i) r.l := ⟨fun i => Classical.choose (hex i), fun i => Classical.choose_spec (hex i)⟩
  obtain ⟨f, hf⟩ := hvs
  refine ⟨(List.range L.length).map f, by simp, fun i r u hr hu => ?_, .inr ⟨a, cap, rfl, fun j u hj => ?_⟩⟩
  ·have hi : i < L.length := (List.getElem?_eq_some_iff.1 hr).1
   rw [List.getElem?_map, List.getElem?_range hi] at hu
   obtain rfl := Option.some.inj hu
   exact (hf i r hr).2
  ·have hlt : j < (flatR L ((List.range L.length).map f)).length := (List.getElem?_eq_some_iff.1 hj).1
   rw [flatR_len _ _ (by simp)] at hlt
   obtain ⟨i, r, rfl, hr⟩ : ∃ i r, j = i * 5 + r ∧ r < 5 := ⟨j / 5, j % 5, by omega, by omega⟩
   have hi : i < L.length := by omega
   have hg := List.getElem?_eq_getElem hi
   have hs := h4 i _ hg
   have hl := (hf i _ hg).1
   rw [flatR_get L ((List.range L.length).map f) i r _ (f i) hg (by rw [List.getElem?_map, List.getElem?_range hi]; rfl) hr] at hj
   match r, hr with
   | 0, _ => simp only [Rec.cells, List.getElem?_cons_zero, Option.some.injEq] at hj; rw [Nat.add_zero, ← hj]; exact hs.n
   | 1, _ => rw [add_more _ _ _ (by omega), hs.x]; exact hj
   | 2, _ => rw [add_more _ _ _ (by omega), hs.y]; exact hj
   | 3, _ => rw [add_more _ _ _ (by omega), hs.z]; exact hj
   | 4, _ => rw [add_more _ _ _ (by omega), hl]; exact hj
theorem flatR_one : ∀ (L : List Rec) (vs : List Value), (∀ v ∈ vs, v.oneCell' = true) → ∀ u ∈ flatR L vs, u.oneCell' = true
 | [], _, _, u, hu => by simp [flatR] at hu
 | _ :: _, [], _, u, hu => by simp [flatR] at hu
 | r :: L, v :: vs, h, u, hu => by
  rcases List.mem_append.1 (show u ∈ r.cells v ++ flatR L vs from hu) with hu | hu
  ·simp only [Rec.cells, List.mem_cons, List.not_mem_nil, or_false] at hu
   rcases hu with rfl | rfl | rfl | rfl | rfl
   ·rfl
   ·rfl
   ·rfl
   ·rfl
   ·exact h _ (by simp)
  ·exact flatR_one L vs (fun x hx => h x (by simp [hx])) u hu
theorem vs_one {w : World} {L : List Rec} {vs : List Value} (hl : vs.length = L.length) (h : ∀ (i : Nat) r u, L[i]? = some r → vs[i]? = some u → IsSecs w u r.l) : ∀ v ∈ vs, v.oneCell' = true := by
 intro v hv
 obtain ⟨i, hi, rfl⟩ := List.getElem_of_mem hv
 obtain ⟨ao, m, cap, e⟩ := (h i _ _ (List.getElem?_eq_getElem (by omega)) (List.getElem?_eq_getElem hi)).form
 rw [e]
 rfl
theorem lsec_info : (Tryz.prog.info? 37).map (fun i => (i.zero, i.size, i.bytes)) = some (some (.agg #[.bool false, .int .i64 0, .int .i64 0, .int .i64 0, .int .i64 0, .int .i64 0]), 6, 48) := by kernel_rfl
set_option maxRecDepth 100000 in
set_option maxHeartbeats 1000000 in
theorem lsec_any (v : Value) (l : List Sec) (w : World) (h : IsSecs w v l) (h100 : l.length ≤ 1000000) : Calls Tryz.prog 88 #[v] w fun r w' => ∃ o c, r = .returned (.slice o l.length c) ∧ w'.ownsRow w.heap.size 37 6 (.slice o l.length c) l.length (flat l) ∧ B w w' := by
 obtain ⟨i0, hi0, hz0, hz1, hz2⟩ := info_of lsec_info
 have hin := secs_in h
 obtain ⟨ao, cap, rfl⟩ := hin.form
 have hl1 := flat_len l
 have hl2 := flat_one l
 generalize flat l = XS at *
 obtain ⟨m, hm⟩ : ∃ m, l.length = m := ⟨_, rfl⟩
 rw [hm] at hin hl1 h100 ⊢
 have z1 : m ≤ maxLen := by unfold maxLen; omega
 have z2 : m * 48 ≤ 140737488355328 := by omega
 clear hm
 go_enter Tryz.func88, Tryz.ntmps88
 go_wp2_with (at_builtin; refine wpList_copy _ rfl _ _ 31 rfl 37 i0 _ 6 48 Tryz.underlying31 hi0 hz0 hz1 hz2 rfl (by omega) _ rfl rfl m XS hin hl1 hl2 z1 z2 ?_; intro oN cN w2 hown hq)
 go_ret
 exact ⟨oN, cN, rfl, hown, hq⟩
theorem lware_info : (Tryz.prog.info? 33).map (fun i => (i.zero, i.size, i.bytes)) = some (some (.agg #[.string ⟨#[]⟩, .int .i64 0, .int .i64 0, .int .i64 0, .slice none 0 0]), 5, 64) := by kernel_rfl
set_option maxRecDepth 100000 in
set_option maxHeartbeats 1000000 in
theorem lware_any (v : Value) (L : List Rec) (vs : List Value) (w : World) (h : RowIn w v L.length (flatR L vs)) (hvl : vs.length = L.length) (hv1 : ∀ v ∈ vs, v.oneCell' = true) (h100 : L.length ≤ 1000000) : Calls Tryz.prog 110 #[v] w fun r w' => ∃ o c, r = .returned (.slice o L.length c) ∧ w'.ownsRow w.heap.size 33 5 (.slice o L.length c) L.length (flatR L vs) ∧ B w w' := by
 obtain ⟨i0, hi0, hz0, hz1, hz2⟩ := info_of lware_info
 have hin := h
 obtain ⟨ao, cap, rfl⟩ := hin.form
 have hl1 := flatR_len L vs hvl.symm
 have hl2 := flatR_one L vs hv1
 generalize flatR L vs = XS at *
 obtain ⟨m, hm⟩ : ∃ m, L.length = m := ⟨_, rfl⟩
 rw [hm] at hin hl1 h100 ⊢
 have z1 : m ≤ maxLen := by unfold maxLen; omega
 have z2 : m * 64 ≤ 140737488355328 := by omega
 clear hm
 go_enter Tryz.func110, Tryz.ntmps110
 go_wp2_with (at_builtin; refine wpList_copy _ rfl _ _ 22 rfl 33 i0 _ 5 64 Tryz.underlying22 hi0 hz0 hz1 hz2 rfl (by omega) _ rfl rfl m XS hin hl1 hl2 z1 z2 ?_; intro oN cN w2 hown hq)
 go_ret
 exact ⟨oN, cN, rfl, hown, hq⟩
theorem ltip_info : (Tryz.prog.info? 35).map (fun i => (i.zero, i.size, i.bytes)) = some (some (.agg #[.string ⟨#[]⟩, .int .i64 0, .int .i64 0, .int .i64 0, .slice none 0 0]), 5, 64) := by kernel_rfl
set_option maxRecDepth 100000 in
set_option maxHeartbeats 1000000 in
theorem ltip_any (v : Value) (L : List Rec) (vs : List Value) (w : World) (h : RowIn w v L.length (flatR L vs)) (hvl : vs.length = L.length) (hv1 : ∀ v ∈ vs, v.oneCell' = true) (h100 : L.length ≤ 1000000) : Calls Tryz.prog 111 #[v] w fun r w' => ∃ o c, r = .returned (.slice o L.length c) ∧ w'.ownsRow w.heap.size 35 5 (.slice o L.length c) L.length (flatR L vs) ∧ B w w' := by
 obtain ⟨i0, hi0, hz0, hz1, hz2⟩ := info_of ltip_info
 have hin := h
 obtain ⟨ao, cap, rfl⟩ := hin.form
 have hl1 := flatR_len L vs hvl.symm
 have hl2 := flatR_one L vs hv1
 generalize flatR L vs = XS at *
 obtain ⟨m, hm⟩ : ∃ m, L.length = m := ⟨_, rfl⟩
 rw [hm] at hin hl1 h100 ⊢
 have z1 : m ≤ maxLen := by unfold maxLen; omega
 have z2 : m * 64 ≤ 140737488355328 := by omega
 clear hm
 go_enter Tryz.func111, Tryz.ntmps111
 go_wp2_with (at_builtin; refine wpList_copy _ rfl _ _ 23 rfl 35 i0 _ 5 64 Tryz.underlying23 hi0 hz0 hz1 hz2 rfl (by omega) _ rfl rfl m XS hin hl1 hl2 z1 z2 ?_; intro oN cN w2 hown hq)
 go_ret
 exact ⟨oN, cN, rfl, hown, hq⟩
theorem lfill_info : (Tryz.prog.info? 41).map (fun i => (i.zero, i.size, i.bytes)) = some (some (.agg #[.string ⟨#[]⟩, .int .i64 0, .int .i64 0, .int .i64 0]), 4, 40) := by kernel_rfl
set_option maxRecDepth 100000 in
set_option maxHeartbeats 1000000 in
theorem lfill_any (v : Value) (L : List Fl) (w : World) (h : IsFls w v L) (h100 : L.length ≤ 1000000) : Calls Tryz.prog 112 #[v] w fun r w' => ∃ o c, r = .returned (.slice o L.length c) ∧ w'.ownsRow w.heap.size 41 4 (.slice o L.length c) L.length (flatF L) ∧ B w w' := by
 obtain ⟨i0, hi0, hz0, hz1, hz2⟩ := info_of lfill_info
 have hin := fls_in h
 obtain ⟨ao, cap, rfl⟩ := hin.form
 have hl1 := flatF_len L
 have hl2 := flatF_one L
 generalize flatF L = XS at *
 obtain ⟨m, hm⟩ : ∃ m, L.length = m := ⟨_, rfl⟩
 rw [hm] at hin hl1 h100 ⊢
 have z1 : m ≤ maxLen := by unfold maxLen; omega
 have z2 : m * 40 ≤ 140737488355328 := by omega
 clear hm
 go_enter Tryz.func112, Tryz.ntmps112
 go_wp2_with (at_builtin; refine wpList_copy _ rfl _ _ 24 rfl 41 i0 _ 4 40 Tryz.underlying24 hi0 hz0 hz1 hz2 rfl (by omega) _ rfl rfl m XS hin hl1 hl2 z1 z2 ?_; intro oN cN w2 hown hq)
 go_ret
 exact ⟨oN, cN, rfl, hown, hq⟩
end Go.Proofs.YtalnfojaccfcjaaGreatDoor
