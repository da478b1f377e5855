/-
 Contracts and what they rest on.
-/
import Derived.Maps.AppendAt
import Derived.Test.YthlileddhgglnaaGreatDoorY3
namespace Go.Proofs.YthlileddhgglnaaGreatDoor
open Go.RowKit
set_option linter.unusedVariables false
def Fl.cells (f : Fl) : List Value := [.string f.n, .int .i64 f.r, .int .i64 f.c, .int .i64 f.v]
def flatF (L : List Fl) : List Value := L.flatMap Fl.cells
theorem flatF_len (L : List Fl) : (flatF L).length = L.length * 4 := by
 induction L with
 | nil => rfl
 | cons x l ih =>
  show (x.cells ++ flatF l).length = _
  rw [List.length_append, ih, List.length_cons]
  simp [Fl.cells]
  omega
theorem flatF_get : ∀ (L : List Fl) (i j : Nat) (r : Fl), L[i]? = some r → j < 4 → (flatF L)[i * 4 + j]? = r.cells[j]?
 | [], _, _, _, h, _ => by simp at h
 | r :: L, 0, j, r', h, hj => by
  simp at h
  subst h
  rw [Nat.zero_mul, Nat.zero_add]
  show (r.cells ++ flatF L)[j]? = _
  rw [List.getElem?_append_left (by simpa [Fl.cells] using hj)]
 | r :: L, i + 1, j, r', h, hj => by
  show (r.cells ++ flatF L)[(i + 1) * 4 + j]? = _
  rw [List.getElem?_append_right (by simp [Fl.cells]; omega), show (i + 1) * 4 + j - r.cells.length = i * 4 + j by simp [Fl.cells]; omega]
  exact flatF_get L i j r' (by simpa using h) hj
theorem flatF_snoc (L : List Fl) (f : Fl) : flatF (L ++ [f]) = flatF L ++ f.cells := by simp [flatF]
theorem flatR_snoc : ∀ (L : List Rec) (vs : List Value) (r : Rec) (v : Value), L.length = vs.length → flatR (L ++ [r]) (vs ++ [v]) = flatR L vs ++ r.cells v
 | [], [], r, v, _ => by simp [flatR]
 | [], _ :: _, _, _, h => by simp at h
 | _ :: _, [], _, _, h => by simp at h
 | x :: L, u :: vs, r, v, h => by
  show x.cells u ++ flatR (L ++ [r]) (vs ++ [v]) = (x.cells u ++ flatR L vs) ++ _
  rw [flatR_snoc L vs r v (by simpa using h), List.append_assoc]
def ownL (ss tt : List Value) : Bool × Nat → Option Nat
 | (true, i) => (ss[i]?).bind Value.ownBlock
 | (false, i) => (tt[i]?).bind Value.ownBlock
structure Rows (w : World) (base : Nat) (wv tv fv : Value) (d : Dk) (ss tt : List Value) : Prop where
 ws : w.ownsRow base 33 5 wv d.ws.length (flatR d.ws ss)
 ts : w.ownsRow base 35 5 tv d.ts.length (flatR d.ts tt)
 fs : w.ownsRow base 41 4 fv d.fs.length (flatF d.fs)
 sl : ss.length = d.ws.length
 tl : tt.length = d.ts.length
 sh : ∀ (i : Nat) r v, d.ws[i]? = some r → ss[i]? = some v → w.ownsRow base 37 6 v r.l.length (flat r.l)
 th : ∀ (i : Nat) r v, d.ts[i]? = some r → tt[i]? = some v → w.ownsRow base 37 6 v r.l.length (flat r.l)
 wi : ∀ r ∈ d.ws, ∀ s ∈ r.l, s.I
 ti : ∀ r ∈ d.ts, ∀ s ∈ r.l, s.I
 apart : ∀ x y k, ownL ss tt x = some k → ownL ss tt y = some k → x = y
theorem Rows.start (w : World) (base : Nat) : Rows w base (.slice none 0 0) (.slice none 0 0) (.slice none 0 0) dk0 [] [] :=
 ⟨World.ownsRow_nil _ _ _ _, World.ownsRow_nil _ _ _ _, World.ownsRow_nil _ _ _ _, rfl, rfl, fun i r v h => by simp [dk0] at h, fun i r v h => by simp [dk0] at h, fun r h => by simp [dk0] at h, fun r h => by simp [dk0] at h,
  fun x y k h => by obtain ⟨b, i⟩ := x; cases b <;> simp [ownL] at h⟩
theorem isSecs_own {w : World} {base : Nat} {e : TypeId} {v : Value} {l : List Sec} (h : w.ownsRow base e 6 v l.length (flat l)) (hI : ∀ s ∈ l, s.I) : IsSecs w v l := by
 rcases Nat.eq_zero_or_pos l.length with h0 | h0
 ·obtain rfl : l = [] := List.length_eq_zero_iff.1 h0
  rcases h.2 with ⟨rfl, _⟩ | ⟨g, cap, cur, rfl, _, _, h1, h2, _⟩
  ·exact .inl ⟨rfl, rfl⟩
  ·exact .inr ⟨_, cap, rfl, h1, h2, fun i s hs => by simp at hs⟩
 ·rcases h.2 with ⟨_, h1⟩ | ⟨g, cap, cur, rfl, h1⟩
  ·omega
  ·exact secs_own h rfl h0 hI
theorem isRecs_own {w : World} {base : Nat} {e : TypeId} {v : Value} {L : List Rec} {vs : List Value} (h : w.ownsRow base e 5 v L.length (flatR L vs)) (hv : L.length = vs.length) (hs : ∀ (i : Nat) (r : Rec) (v : Value), L[i]? = some r → vs[i]? = some v → IsSecs w v r.l) : IsRecs w v L := by
 have hh := h
 rcases hh.2 with ⟨rfl, h0⟩ | ⟨g, cap, cur, rfl, _, _, h1, h2, _⟩
 ·exact .inl ⟨rfl, List.length_eq_zero_iff.1 h0⟩
 ·exact recs_cells hv h1 h2 (fun j u hj => by have := h.cells rfl j u hj; rwa [add0] at this) hs
theorem isFls_own {w : World} {base : Nat} {e : TypeId} {v : Value} {L : List Fl} (h : w.ownsRow base e 4 v L.length (flatF L)) : IsFls w v L := by
 have hh := h
 rcases hh.2 with ⟨rfl, h0⟩ | ⟨g, cap, cur, rfl, _, _, h1, h2, _⟩
 ·exact .inl ⟨rfl, List.length_eq_zero_iff.1 h0⟩
 ·refine .inr ⟨_, cap, rfl, h1, h2, fun i f hf => ?_⟩
  have hc := fun j u hj => h.cells (g := g) rfl j u hj
  have k := fun j (hj : j < 4) u (hu : f.cells[j]? = some u) => hc (i * 4 + j) u ((flatF_get L i j f hf hj).trans hu)
  simp only [add0] at k
  rw [add0]
  exact ⟨k 0 (by omega) _ rfl, k 1 (by omega) _ rfl, k 2 (by omega) _ rfl, k 3 (by omega) _ rfl⟩
section
variable {w w' : World} {base : Nat} {wv tv fv : Value} {d : Dk} {ss tt : List Value}
theorem Rows.dk (h : Rows w base wv tv fv d ss tt) : IsDk w wv tv fv d :=
 ⟨isRecs_own h.ws h.sl.symm (fun i r v hr hv => isSecs_own (h.sh i r v hr hv) (h.wi r (List.mem_of_getElem? hr))),
  isRecs_own h.ts h.tl.symm (fun i r v hr hv => isSecs_own (h.th i r v hr hv) (h.ti r (List.mem_of_getElem? hr))), isFls_own h.fs⟩
theorem Rows.keep (h : Rows w base wv tv fv d ss tt) (hk : ∀ i, base ≤ i → ∀ cs e, (e = 33 ∨ e = 35 ∨ e = 41 ∨ e = 37) → w.heap[i]? = some (.cells cs e (0, 0)) → w'.heap[i]? = w.heap[i]?) : Rows w' base wv tv fv d ss tt := by
 have own : ∀ {e size n : Nat} {v : Value} {xs : List Value}, (e = 33 ∨ e = 35 ∨ e = 41 ∨ e = 37) → w.ownsRow base e size v n xs → w'.ownsRow base e size v n xs := fun {e size n v xs} he h => by
  refine ⟨h.1, ?_⟩
  rcases h.2 with hn | ⟨g, cap, cur, rfl, hb, hg, rest⟩
  ·exact .inl hn
  ·exact .inr ⟨g, cap, cur, rfl, hb, (hk g hb cur e he hg).trans hg, rest⟩
 exact ⟨own (by simp) h.ws, own (by simp) h.ts, own (by simp) h.fs, h.sl, h.tl, fun i r v h1 h2 => own (by simp) (h.sh i r v h1 h2), fun i r v h1 h2 => own (by simp) (h.th i r v h1 h2), h.wi, h.ti, h.apart⟩
theorem Rows.tn {K : List (Option TypeId)} {b : Nat} (h : Rows w base wv tv fv d ss tt) (t : Tn K b w w') (h1 : some 33 ∉ K) (h2 : some 35 ∉ K) (h3 : some 41 ∉ K) (h4 : some 37 ∉ K) : Rows w' base wv tv fv d ss tt :=
 h.keep fun i _ cs e he ho => by rcases he with rfl | rfl | rfl | rfl <;> exact (t.objc ho (by assumption)).trans ho.symm
theorem Rows.b (h : Rows w base wv tv fv d ss tt) (q : B w w') : Rows w' base wv tv fv d ss tt :=
 h.keep fun i _ cs e he ho => q.below.block i (obj_lt ho)
theorem nodup_nil {x : Bool × Nat} {k : Nat} : ownL (ss ++ [.slice none 0 0]) tt x = some k → ownL ss tt x = some k := by
 obtain ⟨b, i⟩ := x
 cases b
 ·exact id
 ·simp only [ownL]
  intro h
  rcases Nat.lt_trichotomy i ss.length with hi | hi | hi
  ·rwa [List.getElem?_append_left hi] at h
  ·subst hi
   rw [List.getElem?_append_right (Nat.le_refl _)] at h
   simp [Value.ownBlock] at h
  ·rw [List.getElem?_eq_none (by simp; omega)] at h
   cases h
theorem nodup_nilT {x : Bool × Nat} {k : Nat} : ownL ss (tt ++ [.slice none 0 0]) x = some k → ownL ss tt x = some k := by
 obtain ⟨b, i⟩ := x
 cases b
 ·simp only [ownL]
  intro h
  rcases Nat.lt_trichotomy i tt.length with hi | hi | hi
  ·rwa [List.getElem?_append_left hi] at h
  ·subst hi
   rw [List.getElem?_append_right (Nat.le_refl _)] at h
   simp [Value.ownBlock] at h
  ·rw [List.getElem?_eq_none (by simp; omega)] at h
   cases h
 ·exact id
theorem Rows.addW (h : Rows w base wv tv fv d ss tt) {wv' : Value} {r : Wr} (hr : r.l = []) (hg : w.grownBy w' wv.ownBlock) (ho : w'.ownsRow base 33 5 wv' (d.ws.length + 1) (flatR d.ws ss ++ r.cells (.slice none 0 0))) :
  Rows w' base wv' tv fv { d with ws := d.ws ++ [r] } (ss ++ [.slice none 0 0]) tt := by
 refine ⟨?_, h.ts.kept hg (rows_apart h.ts h.ws (by decide)), h.fs.kept hg (rows_apart h.fs h.ws (by decide)), by simp [h.sl], h.tl, fun i x v hx hv => ?_, fun i x v hx hv => (h.th i x v hx hv).kept hg (rows_apart (h.th i x v hx hv) h.ws (by decide)), fun x hx => ?_, h.ti, fun x y k hx hy => h.apart x y k (nodup_nil hx) (nodup_nil hy)⟩
 ·rw [flatR_snoc _ _ _ _ h.sl.symm]
  simpa using ho
 ·simp only at hx
  rcases Nat.lt_trichotomy i d.ws.length with hi | hi | hi
  ·rw [List.getElem?_append_left hi] at hx
   rw [List.getElem?_append_left (by rw [h.sl]; exact hi)] at hv
   exact (h.sh i x v hx hv).kept hg (rows_apart (h.sh i x v hx hv) h.ws (by decide))
  ·subst hi
   rw [List.getElem?_append_right (Nat.le_refl _)] at hx
   rw [List.getElem?_append_right (by rw [h.sl]; exact Nat.le_refl _), h.sl] at hv
   simp at hx hv
   subst hx hv
   rw [hr]
   exact World.ownsRow_nil _ _ _ _
  ·rw [List.getElem?_eq_none (by simp; omega)] at hx
   cases hx
 ·rcases List.mem_append.1 hx with hx | hx
  ·exact h.wi x hx
  ·obtain rfl := List.mem_singleton.1 hx
   rw [hr]
   simp
theorem Rows.addT (h : Rows w base wv tv fv d ss tt) {tv' : Value} {r : Wr} (hr : r.l = []) (hg : w.grownBy w' tv.ownBlock) (ho : w'.ownsRow base 35 5 tv' (d.ts.length + 1) (flatR d.ts tt ++ r.cells (.slice none 0 0))) :
  Rows w' base wv tv' fv { d with ts := d.ts ++ [r] } ss (tt ++ [.slice none 0 0]) := by
 refine ⟨h.ws.kept hg (rows_apart h.ws h.ts (by decide)), ?_, h.fs.kept hg (rows_apart h.fs h.ts (by decide)), h.sl, by simp [h.tl], fun i x v hx hv => (h.sh i x v hx hv).kept hg (rows_apart (h.sh i x v hx hv) h.ts (by decide)), fun i x v hx hv => ?_, h.wi, fun x hx => ?_, fun x y k hx hy => h.apart x y k (nodup_nilT hx) (nodup_nilT hy)⟩
 ·rw [flatR_snoc _ _ _ _ h.tl.symm]
  simpa using ho
 ·simp only at hx
  rcases Nat.lt_trichotomy i d.ts.length with hi | hi | hi
  ·rw [List.getElem?_append_left hi] at hx
   rw [List.getElem?_append_left (by rw [h.tl]; exact hi)] at hv
   exact (h.th i x v hx hv).kept hg (rows_apart (h.th i x v hx hv) h.ts (by decide))
  ·subst hi
   rw [List.getElem?_append_right (Nat.le_refl _)] at hx
   rw [List.getElem?_append_right (by rw [h.tl]; exact Nat.le_refl _), h.tl] at hv
   simp at hx hv
   subst hx hv
   rw [hr]
   exact World.ownsRow_nil _ _ _ _
  ·rw [List.getElem?_eq_none (by simp; omega)] at hx
   cases hx
 ·rcases List.mem_append.1 hx with hx | hx
  ·exact h.ti x hx
  ·obtain rfl := List.mem_singleton.1 hx
   rw [hr]
   simp
theorem Rows.addF (h : Rows w base wv tv fv d ss tt) {fv' : Value} {f : Fl} (hg : w.grownBy w' fv.ownBlock) (ho : w'.ownsRow base 41 4 fv' (d.fs.length + 1) (flatF d.fs ++ f.cells)) :
  Rows w' base wv tv fv' { d with fs := d.fs ++ [f] } ss tt := by
 refine ⟨h.ws.kept hg (rows_apart h.ws h.fs (by decide)), h.ts.kept hg (rows_apart h.ts h.fs (by decide)), ?_, h.sl, h.tl, fun i x v hx hv => (h.sh i x v hx hv).kept hg (rows_apart (h.sh i x v hx hv) h.fs (by decide)), fun i x v hx hv => (h.th i x v hx hv).kept hg (rows_apart (h.th i x v hx hv) h.fs (by decide)), h.wi, h.ti, h.apart⟩
 rw [flatF_snoc]
 simpa using ho
theorem Rows.old (h : Rows w base wv tv fv d ss tt) {x : Bool × Nat} {k : Nat} (hx : ownL ss tt x = some k) : k < w.heap.size := by
 obtain ⟨b, i⟩ := x
 cases b
 ·simp only [ownL] at hx
  cases hv : tt[i]? with
  | none => rw [hv] at hx; cases hx
  | some v =>
   rw [hv] at hx
   have hi : i < d.ts.length := by rw [← h.tl]; exact (List.getElem?_eq_some_iff.1 hv).1
   exact ((h.th i _ v (List.getElem?_eq_getElem hi) hv).lt k hx).2
 ·simp only [ownL] at hx
  cases hv : ss[i]? with
  | none => rw [hv] at hx; cases hx
  | some v =>
   rw [hv] at hx
   have hi : i < d.ws.length := by rw [← h.sl]; exact (List.getElem?_eq_some_iff.1 hv).1
   exact ((h.sh i _ v (List.getElem?_eq_getElem hi) hv).lt k hx).2
end
end Go.Proofs.YthlileddhgglnaaGreatDoor
namespace Go.Proofs.YthlileddhgglnaaGreatDoor
open Go.RowKit
set_option linter.unusedVariables false
def RowIn (w : World) (v : Value) (m : Nat) (news : List Value) : Prop :=
 (v = .slice none 0 0 ∧ m = 0 ∧ news = []) ∨ ∃ (ad : Addr) (c : Nat), v = .slice (some ad) m c ∧ ∀ j u, news[j]? = some u → w.cell? (ad.add j) = some u
theorem RowIn.keepB {w w' : World} {v : Value} {m : Nat} {news : List Value} (h : RowIn w v m news) (q : B w w') : RowIn w' v m news := by
 rcases h with h | ⟨ad, c, h1, h2⟩
 ·exact .inl h
 ·exact .inr ⟨ad, c, h1, fun j u hj => q.keep (h2 j u hj)⟩
theorem RowIn.form {w : World} {v : Value} {m : Nat} {news : List Value} (h : RowIn w v m news) : ∃ ao cap, v = .slice ao m cap := by
 rcases h with ⟨rfl, rfl, _⟩ | ⟨ad, c, rfl, _⟩
 ·exact ⟨_, _, rfl⟩
 ·exact ⟨_, _, rfl⟩
theorem ownsRow_form {w : World} {base : Nat} {e : TypeId} {size n : Nat} {v : Value} {xs : List Value} (h : w.ownsRow base e size v n xs) : ∃ o c, v = .slice o n c := by
 rcases h.2 with ⟨rfl, rfl⟩ | ⟨g, cap, cur, rfl, _⟩
 ·exact ⟨_, _, rfl⟩
 ·exact ⟨_, _, rfl⟩
theorem copy_run {P : Program} (w : World) (t ty e : TypeId) (i : TypeInfo) (z : Value) (size bytes : Nat) (ht : P.underlying t = some (.slice e)) (hi : P.info? e = some i) (hz : i.zero = some z)
  (hsize : i.size = size) (hby : i.bytes = bytes) (hzs : z.cells.size = size) (hsz : 0 < size) (v : Value) (m : Nat) (news : List Value) (hv : RowIn w v m news) (hl : news.length = m * size) (h1 : ∀ u ∈ news, u.oneCell' = true)
  (h63 : m ≤ maxLen) (hbytes : m * bytes ≤ 140737488355328) :
  ∃ o c w', (Builtin.append_ #[t, t] ty #[.slice none 0 0, v]).run P w = .ok (.slice o m c) w' ∧ w'.ownsRow w.heap.size e size (.slice o m c) m news ∧ B w w' := by
 rcases hv with ⟨rfl, rfl, rfl⟩ | ⟨ad, c, rfl, hc⟩
 ·exact ⟨none, 0, w, run_append_owned_none w w.heap.size t ty e i size ht hi _ 0 [] (World.ownsRow_nil _ _ _ _), World.ownsRow_nil _ _ _ _, B.refl w⟩
 ·obtain ⟨v', w', hr, h2, h3, _, h5⟩ := run_append_own_at (P := P) w w.heap.size t ty e i z size bytes ht hi hz hsize hby hzs hsz (.slice none 0 0) 0 [] (World.ownsRow_nil _ _ _ _) ad m c news hl hc h1 (by omega) (by simpa using hbytes) (Nat.le_refl _)
  simp only [Nat.zero_add, List.nil_append] at h2
  obtain ⟨o, c', rfl⟩ := ownsRow_form h2
  exact ⟨o, c', w', hr, h2, (B.refl w).grownBy h3 (fun _ h => by cases h)⟩
theorem wpList_copy {P : Program} (w : World) {ops : Array Oper} {rest : List Oper} {o : Oper} {a : Act} {Q : Exit → Act → World → Prop} (hgd : o.guard = none) (s x : Operand) (t : TypeId)
  (ho : o.op = .call { callee := .builtin .append, args := #[s, x], argTypes := #[t, t] })
  (e : TypeId) (i : TypeInfo) (z : Value) (size bytes : Nat) (ht : P.underlying t = some (.slice e)) (hi : P.info? e = some i) (hz : i.zero = some z)
  (hsize : i.size = size) (hby : i.bytes = bytes) (hzs : z.cells.size = size) (hsz : 0 < size) (v : Value) (hs : a.eval s = .slice none 0 0) (hx : a.eval x = v) (m : Nat) (news : List Value) (hv : RowIn w v m news) (hl : news.length = m * size) (h1 : ∀ u ∈ news, u.oneCell' = true)
  (h63 : m ≤ maxLen) (hbytes : m * bytes ≤ 140737488355328)
  (h : ∀ oN cN w', w'.ownsRow w.heap.size e size (.slice oN m cN) m news → B w w' → wpList P ops Q rest (a.put o.dst (.slice oN m cN)) w') : wpList P ops Q (o :: rest) a w :=
 wpList_plain hgd fun K hK => by
  obtain ⟨oN, cN, w', hr, h2, h3⟩ := copy_run (P := P) w t o.type e i z size bytes ht hi hz hsize hby hzs hsz v m news hv hl h1 h63 hbytes
  unfold Oper.wp execOp
  simp only [ho, resolve, invoke, builtin, Sem.run_bind, Sem.run_pure, Result.andThen_ok, List.map_toArray, List.map_cons, List.map_nil, hs, hx, hr]
  exact hK _ _ (h oN cN w' h2 h3)
theorem secs_in {w : World} {v : Value} {l : List Sec} (h : IsSecs w v l) : RowIn w v l.length (flat l) := by
 rcases h with ⟨rfl, rfl⟩ | ⟨a, cap, rfl, h2, h3, h4⟩
 ·exact .inl ⟨rfl, rfl, rfl⟩
 ·exact .inr ⟨a, cap, rfl, secs_news h4⟩
theorem secs_I {w : World} {v : Value} {l : List Sec} (h : IsSecs w v l) : ∀ s ∈ l, s.I := by
 rcases h with ⟨rfl, rfl⟩ | ⟨a, cap, rfl, h2, h3, h4⟩
 ·simp
 ·intro s hs
  obtain ⟨i, hi⟩ := List.getElem?_of_mem hs
  exact (h4 i s hi).1
theorem fls_in {w : World} {v : Value} {L : List Fl} (h : IsFls w v L) : RowIn w v L.length (flatF L) := by
 rcases h with ⟨rfl, rfl⟩ | ⟨a, cap, rfl, h2, h3, h4⟩
 ·exact .inl ⟨rfl, rfl, rfl⟩
 ·refine .inr ⟨a, cap, rfl, fun j u hj => ?_⟩
  have hlt : j < (flatF L).length := (List.getElem?_eq_some_iff.1 hj).1
  rw [flatF_len] at hlt
  obtain ⟨i, r, rfl, hr⟩ : ∃ i r, j = i * 4 + r ∧ r < 4 := ⟨j / 4, j % 4, by omega, by omega⟩
  have hi : i < L.length := by omega
  have hg := List.getElem?_eq_getElem hi
  have hs := h4 i _ hg
  rw [flatF_get L i r _ hg hr] at hj
  match r, hr with
  | 0, _ => simp only [Fl.cells, List.getElem?_cons_zero, Option.some.injEq] at hj; rw [Nat.add_zero, ← hj]; exact hs.n
  | 1, _ => rw [add_more _ _ _ (by omega), hs.r]; exact hj
  | 2, _ => rw [add_more _ _ _ (by omega), hs.c]; exact hj
  | 3, _ => rw [add_more _ _ _ (by omega), hs.v]; exact hj
theorem flatF_one (L : List Fl) : ∀ u ∈ flatF L, u.oneCell' = true := by
 intro u hu
 obtain ⟨f, _, hf⟩ := List.mem_flatMap.1 hu
 simp only [Fl.cells, List.mem_cons, List.not_mem_nil, or_false] at hf
 rcases hf with rfl | rfl | rfl | rfl <;> rfl
theorem recs_vs {w : World} {v : Value} {L : List Rec} (h : IsRecs w v L) : ∃ vs : List Value, vs.length = L.length ∧ (∀ (i : Nat) r u, L[i]? = some r → vs[i]? = some u → IsSecs w u r.l) ∧ RowIn w v L.length (flatR L vs) := by
 rcases h with ⟨rfl, rfl⟩ | ⟨a, cap, rfl, h2, h3, h4⟩
 ·exact ⟨[], rfl, fun i r u h => by simp at h, .inl ⟨rfl, rfl, rfl⟩⟩
 ·clear h2 h3
  have hex : ∀ i : Nat, ∃ u, ∀ r, L[i]? = some r → w.cell? ⟨(a.add (i * 5)).block, (a.add (i * 5)).off + 4, none⟩ = some u ∧ IsSecs w u r.l := fun i => by
   cases hr : L[i]? with
   | none => exact ⟨.bool false, fun r h => by cases h⟩
   | some r =>
    obtain ⟨u, h1, h2⟩ := (h4 i r hr).l
    exact ⟨u, fun r' h => by obtain rfl := Option.some.inj h; exact ⟨h1, h2⟩⟩
  have hvs : ∃ f : Nat → Value, ∀ i r, L[i]? = some r → w.cell? ⟨(a.add (i * 5)).block, (a.add (i * 5)).off + 4, none⟩ = some (f i) ∧ IsSecs w (f i) r.l := ⟨fun i => Classical.choose (hex i), fun i => Classical.choose_spec (hex i)⟩
  obtain ⟨f, hf⟩ := hvs
  refine ⟨(List.range L.length).map f, by simp, fun i r u hr hu => ?_, .inr ⟨a, cap, rfl, fun j u hj => ?_⟩⟩
  ·have hi : i < L.length := (List.getElem?_eq_some_iff.1 hr).1
   rw [List.getElem?_map, List.getElem?_range hi] at hu
   obtain rfl := Option.some.inj hu
   exact (hf i r hr).2
  ·have hlt : j < (flatR L ((List.range L.length).map f)).length := (List.getElem?_eq_some_iff.1 hj).1
   rw [flatR_len _ _ (by simp)] at hlt
   obtain ⟨i, r, rfl, hr⟩ : ∃ i r, j = i * 5 + r ∧ r < 5 := ⟨j / 5, j % 5, by omega, by omega⟩
   have hi : i < L.length := by omega
   have hg := List.getElem?_eq_getElem hi
   have hs := h4 i _ hg
   have hl := (hf i _ hg).1
   rw [flatR_get L ((List.range L.length).map f) i r _ (f i) hg (by rw [List.getElem?_map, List.getElem?_range hi]; rfl) hr] at hj
   match r, hr with
   | 0, _ => simp only [Rec.cells, List.getElem?_cons_zero, Option.some.injEq] at hj; rw [Nat.add_zero, ← hj]; exact hs.n
   | 1, _ => rw [add_more _ _ _ (by omega), hs.x]; exact hj
   | 2, _ => rw [add_more _ _ _ (by omega), hs.y]; exact hj
   | 3, _ => rw [add_more _ _ _ (by omega), hs.z]; exact hj
   | 4, _ => rw [add_more _ _ _ (by omega), hl]; exact hj
theorem flatR_one : ∀ (L : List Rec) (vs : List Value), (∀ v ∈ vs, v.oneCell' = true) → ∀ u ∈ flatR L vs, u.oneCell' = true
 | [], _, _, u, hu => by simp [flatR] at hu
 | _ :: _, [], _, u, hu => by simp [flatR] at hu
 | r :: L, v :: vs, h, u, hu => by
  rcases List.mem_append.1 (show u ∈ r.cells v ++ flatR L vs from hu) with hu | hu
  ·simp only [Rec.cells, List.mem_cons, List.not_mem_nil, or_false] at hu
   rcases hu with rfl | rfl | rfl | rfl | rfl
   ·rfl
   ·rfl
   ·rfl
   ·rfl
   ·exact h _ (by simp)
  ·exact flatR_one L vs (fun x hx => h x (by simp [hx])) u hu
theorem vs_one {w : World} {L : List Rec} {vs : List Value} (hl : vs.length = L.length) (h : ∀ (i : Nat) r u, L[i]? = some r → vs[i]? = some u → IsSecs w u r.l) : ∀ v ∈ vs, v.oneCell' = true := by
 intro v hv
 obtain ⟨i, hi, rfl⟩ := List.getElem_of_mem hv
 obtain ⟨ao, m, cap, e⟩ := (h i _ _ (List.getElem?_eq_getElem (by omega)) (List.getElem?_eq_getElem hi)).form
 rw [e]
 rfl
theorem lsec_info : (Tryz.prog.info? 37).map (fun i => (i.zero, i.size, i.bytes)) = some (some (.agg #[.bool false, .int .i64 0, .int .i64 0, .int .i64 0, .int .i64 0, .int .i64 0]), 6, 48) := by kernel_rfl
set_option maxRecDepth 100000 in
set_option maxHeartbeats 1000000 in
theorem lsec_any (v : Value) (l : List Sec) (w : World) (h : IsSecs w v l) (h100 : l.length ≤ 1000000) : Calls Tryz.prog 79 #[v] w fun r w' => ∃ o c, r = .returned (.slice o l.length c) ∧ w'.ownsRow w.heap.size 37 6 (.slice o l.length c) l.length (flat l) ∧ B w w' := by
 obtain ⟨i0, hi0, hz0, hz1, hz2⟩ := info_of lsec_info
 have hin := secs_in h
 obtain ⟨ao, cap, rfl⟩ := hin.form
 have hl1 := flat_len l
 have hl2 := flat_one l
 generalize flat l = XS at *
 obtain ⟨m, hm⟩ : ∃ m, l.length = m := ⟨_, rfl⟩
 rw [hm] at hin hl1 h100 ⊢
 have z1 : m ≤ maxLen := by unfold maxLen; omega
 have z2 : m * 48 ≤ 140737488355328 := by omega
 clear hm
 go_enter Tryz.func79, Tryz.ntmps79
 go_wp2_with (at_builtin; refine wpList_copy _ rfl _ _ 31 rfl 37 i0 _ 6 48 Tryz.underlying31 hi0 hz0 hz1 hz2 rfl (by omega) _ rfl rfl m XS hin hl1 hl2 z1 z2 ?_; intro oN cN w2 hown hq)
 go_ret
 exact ⟨oN, cN, rfl, hown, hq⟩
theorem lware_info : (Tryz.prog.info? 33).map (fun i => (i.zero, i.size, i.bytes)) = some (some (.agg #[.string ⟨#[]⟩, .int .i64 0, .int .i64 0, .int .i64 0, .slice none 0 0]), 5, 64) := by kernel_rfl
set_option maxRecDepth 100000 in
set_option maxHeartbeats 1000000 in
theorem lware_any (v : Value) (L : List Rec) (vs : List Value) (w : World) (h : RowIn w v L.length (flatR L vs)) (hvl : vs.length = L.length) (hv1 : ∀ v ∈ vs, v.oneCell' = true) (h100 : L.length ≤ 1000000) : Calls Tryz.prog 98 #[v] w fun r w' => ∃ o c, r = .returned (.slice o L.length c) ∧ w'.ownsRow w.heap.size 33 5 (.slice o L.length c) L.length (flatR L vs) ∧ B w w' := by
 obtain ⟨i0, hi0, hz0, hz1, hz2⟩ := info_of lware_info
 have hin := h
 obtain ⟨ao, cap, rfl⟩ := hin.form
 have hl1 := flatR_len L vs hvl.symm
 have hl2 := flatR_one L vs hv1
 generalize flatR L vs = XS at *
 obtain ⟨m, hm⟩ : ∃ m, L.length = m := ⟨_, rfl⟩
 rw [hm] at hin hl1 h100 ⊢
 have z1 : m ≤ maxLen := by unfold maxLen; omega
 have z2 : m * 64 ≤ 140737488355328 := by omega
 clear hm
 go_enter Tryz.func98, Tryz.ntmps98
 go_wp2_with (at_builtin; refine wpList_copy _ rfl _ _ 22 rfl 33 i0 _ 5 64 Tryz.underlying22 hi0 hz0 hz1 hz2 rfl (by omega) _ rfl rfl m XS hin hl1 hl2 z1 z2 ?_; intro oN cN w2 hown hq)
 go_ret
 exact ⟨oN, cN, rfl, hown, hq⟩
theorem ltip_info : (Tryz.prog.info? 35).map (fun i => (i.zero, i.size, i.bytes)) = some (some (.agg #[.string ⟨#[]⟩, .int .i64 0, .int .i64 0, .int .i64 0, .slice none 0 0]), 5, 64) := by kernel_rfl
set_option maxRecDepth 100000 in
set_option maxHeartbeats 1000000 in
theorem ltip_any (v : Value) (L : List Rec) (vs : List Value) (w : World) (h : RowIn w v L.length (flatR L vs)) (hvl : vs.length = L.length) (hv1 : ∀ v ∈ vs, v.oneCell' = true) (h100 : L.length ≤ 1000000) : Calls Tryz.prog 99 #[v] w fun r w' => ∃ o c, r = .returned (.slice o L.length c) ∧ w'.ownsRow w.heap.size 35 5 (.slice o L.length c) L.length (flatR L vs) ∧ B w w' := by
 obtain ⟨i0, hi0, hz0, hz1, hz2⟩ := info_of ltip_info
 have hin := h
 obtain ⟨ao, cap, rfl⟩ := hin.form
 have hl1 := flatR_len L vs hvl.symm
 have hl2 := flatR_one L vs hv1
 generalize flatR L vs = XS at *
 obtain ⟨m, hm⟩ : ∃ m, L.length = m := ⟨_, rfl⟩
 rw [hm] at hin hl1 h100 ⊢
 have z1 : m ≤ maxLen := by unfold maxLen; omega
 have z2 : m * 64 ≤ 140737488355328 := by omega
 clear hm
 go_enter Tryz.func99, Tryz.ntmps99
 go_wp2_with (at_builtin; refine wpList_copy _ rfl _ _ 23 rfl 35 i0 _ 5 64 Tryz.underlying23 hi0 hz0 hz1 hz2 rfl (by omega) _ rfl rfl m XS hin hl1 hl2 z1 z2 ?_; intro oN cN w2 hown hq)
 go_ret
 exact ⟨oN, cN, rfl, hown, hq⟩
theorem lfill_info : (Tryz.prog.info? 41).map (fun i => (i.zero, i.size, i.bytes)) = some (some (.agg #[.string ⟨#[]⟩, .int .i64 0, .int .i64 0, .int .i64 0]), 4, 40) := by kernel_rfl
set_option maxRecDepth 100000 in
set_option maxHeartbeats 1000000 in
theorem lfill_any (v : Value) (L : List Fl) (w : World) (h : IsFls w v L) (h100 : L.length ≤ 1000000) : Calls Tryz.prog 100 #[v] w fun r w' => ∃ o c, r = .returned (.slice o L.length c) ∧ w'.ownsRow w.heap.size 41 4 (.slice o L.length c) L.length (flatF L) ∧ B w w' := by
 obtain ⟨i0, hi0, hz0, hz1, hz2⟩ := info_of lfill_info
 have hin := fls_in h
 obtain ⟨ao, cap, rfl⟩ := hin.form
 have hl1 := flatF_len L
 have hl2 := flatF_one L
 generalize flatF L = XS at *
 obtain ⟨m, hm⟩ : ∃ m, L.length = m := ⟨_, rfl⟩
 rw [hm] at hin hl1 h100 ⊢
 have z1 : m ≤ maxLen := by unfold maxLen; omega
 have z2 : m * 40 ≤ 140737488355328 := by omega
 clear hm
 go_enter Tryz.func100, Tryz.ntmps100
 go_wp2_with (at_builtin; refine wpList_copy _ rfl _ _ 24 rfl 41 i0 _ 4 40 Tryz.underlying24 hi0 hz0 hz1 hz2 rfl (by omega) _ rfl rfl m XS hin hl1 hl2 z1 z2 ?_; intro oN cN w2 hown hq)
 go_ret
 exact ⟨oN, cN, rfl, hown, hq⟩
end Go.Proofs.YthlileddhgglnaaGreatDoor
namespace Go.Proofs.YthlileddhgglnaaGreatDoor
open Go.RowKit
section
variable {P : Program} {ops : Array Oper} {Q : Exit → Act → World → Prop} {md : Region.Mode} {S : World → Prop} {g : Nat}
def Closed (md : Region.Mode) (ops : Array Oper) (listed : Array Bool) : Prop :=
 ∀ j oj, ops[j]? = some oj → listed.getD j false = true → ∀ e ∈ oj.after, Region.binds md e = true → listed.getD e.on false = true
theorem getD_set_eq {listed : Array Bool} {i : Nat} (d : Bool) (h : i < listed.size) : (listed.setIfInBounds i true).getD i d = true := by
 rw [Array.getD_eq_getD_getElem?, Array.getElem?_setIfInBounds]; simp [h]
theorem getD_set_other {listed : Array Bool} {i k : Nat} (d : Bool) (h : i ≠ k) : (listed.setIfInBounds i true).getD k d = listed.getD k d := by
 rw [Array.getD_eq_getD_getElem?, Array.getD_eq_getD_getElem?, Array.getElem?_setIfInBounds, if_neg h]
theorem getD_set_grow {listed : Array Bool} {i k : Nat} (h : listed.getD k false = true) : (listed.setIfInBounds i true).getD k false = true := by
 by_cases e : i = k
 ·subst e
  by_cases c : i < listed.size
  ·exact getD_set_eq _ c
  ·rw [Array.getD_eq_getD_getElem?, Array.getElem?_eq_none (by omega)] at h; cases h
 ·rw [getD_set_other _ e]; exact h
theorem getD_flip {listed : Array Bool} {i : Nat} (h : listed.getD i true = false) : listed.getD i false = false := by
 by_cases c : i < listed.size
 ·simp [c] at h ⊢; exact h
 ·rw [Array.getD_eq_getD_getElem?, Array.getElem?_eq_none (by omega)] at h; cases h
theorem Closed.set {listed : Array Bool} (h : Closed md ops listed) {i : Nat} (hr : i ∈ Region.ready md ops listed) : Closed md ops (listed.setIfInBounds i true) := by
 intro j oj hj hl e he hb
 by_cases c : i = j
 ·subst c
  obtain ⟨_, o, ho, h2⟩ := mem_ready.1 hr
  obtain rfl := Option.some.inj (ho.symm.trans hj)
  exact getD_set_grow (h2 e he hb)
 ·rw [getD_set_other _ c] at hl
  exact getD_set_grow (h j oj hj hl e he hb)
def wpAnyG (P : Program) (md : Region.Mode) (ops : Array Oper) (Q : Exit → Act → World → Prop) (S : World → Prop) (g : Nat) : Nat → Array Bool → Act → World → Prop
 | 0, listed, a, w => Region.ready md ops listed = [] ∧ Q .normal a w
 | fuel + 1, listed, a, w =>
  (Region.ready md ops listed = [] → Q .normal a w) ∧
  ∀ i ∈ Region.ready md ops listed, wpOp P ops Q i (fun a' w' => (i ≠ g → listed.getD g false = false → S w') ∧ wpAnyG P md ops Q S g fuel (listed.setIfInBounds i true) a' w') a w
theorem wpAny_of_gate : ∀ (fuel : Nat) (listed : Array Bool) (a : Act) (w : World), wpAnyG P md ops Q S g fuel listed a w → wpAny P md ops Q fuel listed a w
 | 0, _, _, _, h => h
 | fuel + 1, _, _, _, h => ⟨h.1, fun i hi => wpOp_mono (fun a' w' h' => wpAny_of_gate fuel _ a' w' h'.2) (h.2 i hi)⟩
def Behind (md : Region.Mode) (ops : Array Oper) (i g : Nat) : Prop :=
 ∀ listed, Closed md ops listed → listed.getD i true = false → listed.getD g false = false ∧ g ∉ Region.ready md ops listed
theorem wpAnyG_first {i : Nat} {oi : Oper} {v : Value} {T : World → Prop} (hi : ops[i]? = some oi) (hsel : ∀ (j : Nat) (o : Oper) cs b, ops[j]? = some o → o.op ≠ .select cs b) (hig : i ≠ g)
  (hT : (∀ w, T w) ∨ ((∀ w, S w → T w) ∧ Behind md ops i g)) (hQ : ∀ c a w, Q (.panic c) (a.put oi.dst v) w → Q (.panic c) a w) :
  ∀ (fuel : Nat) (listed : Array Bool) (a : Act) (w : World), Closed md ops listed →
   (∀ j oj, ops[j]? = some oj → j ≠ i → listed.getD j true = false → (∀ e ∈ oj.after, Region.binds md e = true → e.on ≠ i) → oi.apart ops oj = true) →
   i ∈ Region.ready md ops listed → YieldsIf P ops T oi v a → T w → (listed.getD g false = false → S w) →
   wpAnyG P md ops Q S g fuel (listed.setIfInBounds i true) (a.put oi.dst v) w → wpAnyG P md ops Q S g (fuel + 1) listed a w := by
 intro fuel
 induction fuel with
 | zero =>
  intro listed a w _ _ hr hy hTw hSw H
  refine ⟨fun h => (by rw [h] at hr; cases hr), fun j hj => ?_⟩
  by_cases hji : j = i
  ·subst hji; exact hy.wpOp hi hTw ⟨fun _ h => hSw h, H⟩
  ·have := ready_mono hj hji
   rw [H.1] at this
   cases this
 | succ fuel ih =>
  intro listed a w hcl hfree hr hy hTw hSw H
  refine ⟨fun h => (by rw [h] at hr; cases hr), fun j hj => ?_⟩
  by_cases hji : j = i
  ·subst hji; exact hy.wpOp hi hTw ⟨fun _ h => hSw h, H⟩
  ·have h1 := H.2 j (ready_mono hj hji)
   obtain ⟨hjun, oj, hoj, hall⟩ := mem_ready.1 hj
   have hiun := (mem_ready.1 hr).1
   have hnot : ∀ e ∈ oj.after, Region.binds md e = true → e.on ≠ i := fun e he hb heq => by
    have h1 := hall e he hb
    rw [heq, getD_flip hiun] at h1
    cases h1
   have h2 := wpOp_putIf hoj (hfree j oj hoj hji hjun hnot) (fun cs b => hsel i oi cs b hi) (fun cs b => hsel j oj cs b hoj) hQ hy h1
   have hfree' : ∀ k ok, ops[k]? = some ok → k ≠ i → (listed.setIfInBounds j true).getD k true = false →
     (∀ e ∈ ok.after, Region.binds md e = true → e.on ≠ i) → oi.apart ops ok = true := fun k ok hk hki hun hno => by
    refine hfree k ok hk hki ?_ hno
    by_cases hjk : j = k
    ·subst hjk; exact hjun
    ·rw [getD_set_other true hjk] at hun; exact hun
   rw [getD_set_other _ hig] at h2
   refine wpOp_mono (fun a' w' h3 => ?_) h2
   have hS' : (listed.setIfInBounds j true).getD g false = false → S w' := fun h => by
    by_cases hjg : j = g
    ·subst hjg
     rw [getD_set_eq _ (by
      by_cases c : j < listed.size
      ·exact c
      ·rw [Array.getD_eq_getD_getElem?, Array.getElem?_eq_none (by omega)] at hjun; cases hjun)] at h
     cases h
    ·rw [getD_set_other _ hjg] at h
     exact h3.2.1 hjg h
   have hT' : T w' := by
    rcases hT with hT | ⟨hT, hB⟩
    ·exact hT w'
    ·obtain ⟨hg1, hg2⟩ := hB listed hcl hiun
     refine hT w' (h3.2.1 (fun e => hg2 (e ▸ hj)) hg1)
   refine ⟨fun h4 h5 => h3.2.1 h4 h5, ih (listed.setIfInBounds j true) a' w' (hcl.set hj) hfree' (ready_mono hr (Ne.symm hji)) h3.1 hT' hS' ?_⟩
   rw [Array.setIfInBounds_comm _ _ hji]
   exact h3.2.2
def laterOk (am : List Nat) (i later : Nat) : Bool :=
 (List.range am.length).all fun d => !later.testBit d || d == i || (List.range d).any fun e => later.testBit e && (am.getD d 0).testBit e
theorem later_unlisted (am : List Nat) (ham : ops.toList.map (amOf md) = am) (i later : Nat) (hl : laterOk am i later = true) (listed : Array Bool) (hcl : Closed md ops listed) (hi : listed.getD i false = false) :
  ∀ d, d < am.length → later.testBit d = true → listed.getD d false = false := by
 intro d
 induction d using Nat.strongRecOn with
 | _ d ih =>
  intro hd hb
  have h := List.all_eq_true.1 hl d (List.mem_range.2 hd)
  rw [hb] at h
  simp only [Bool.not_true, Bool.false_or, Bool.or_eq_true, beq_iff_eq, List.any_eq_true, List.mem_range, Bool.and_eq_true] at h
  rcases h with rfl | ⟨e, he, h1, h2⟩
  ·exact hi
  ·have hlen : am.length = ops.size := by rw [← ham]; simp
   obtain ⟨o, ho⟩ : ∃ o, ops[d]? = some o := ⟨_, Array.getElem?_eq_getElem (by omega)⟩
   have ea : am.getD d 0 = amOf md o := by
    rw [← ham, List.getD_eq_getElem?_getD, List.getElem?_map, Array.getElem?_toList, ho]; rfl
   rw [ea] at h2
   obtain ⟨x, hx, hxb, hxe⟩ := (amOf_bit md o e).1 h2
   cases c : listed.getD d false
   ·rfl
   ·have := hcl d o ho c x hx hxb
    rw [hxe, ih e he (by omega) h1] at this
    cases this
theorem behind_of (am : List Nat) (ham : ops.toList.map (amOf md) = am) (i later : Nat) (hl : laterOk am i later = true) (hg : later.testBit g = true) (hgi : g ≠ i) (hgn : g < am.length) : Behind md ops i g := by
 intro listed hcl hi
 refine ⟨later_unlisted am ham i later hl listed hcl (getD_flip hi) g hgn hg, fun hr => ?_⟩
 obtain ⟨_, o, ho, h2⟩ := mem_ready.1 hr
 have h := List.all_eq_true.1 hl g (List.mem_range.2 hgn)
 rw [hg] at h
 simp only [Bool.not_true, Bool.false_or, Bool.or_eq_true, beq_iff_eq, List.any_eq_true, List.mem_range, Bool.and_eq_true] at h
 rcases h with h | ⟨e, he, h1, h3⟩
 ·exact hgi h
 ·have ea : am.getD g 0 = amOf md o := by
   rw [← ham, List.getD_eq_getElem?_getD, List.getElem?_map, Array.getElem?_toList, ho]; rfl
  rw [ea] at h3
  obtain ⟨x, hx, hxb, hxe⟩ := (amOf_bit md o e).1 h3
  have h4 := h2 x hx hxb
  rw [hxe, later_unlisted am ham i later hl listed hcl (getD_flip hi) e (by omega) h1] at h4
  cases h4
end
def seqOkG (n g : Nat) (am cf later : List Nat) : List (Nat × Nat) → Nat → Bool
 | [], done => (List.range n).all done.testBit
 | (i, k) :: l, done => decide (i < n) && !done.testBit i && (am.getD i 0 &&& done == am.getD i 0) &&
   (if k = 2 ∨ k = 4 then (List.range n).all (fun j => j == i || done.testBit j || !(am.getD j 0 &&& done == am.getD j 0)) else (cf.getD i 0 &&& done == cf.getD i 0) && i != g) &&
   (if k = 0 then laterOk am i (later.getD i 0) && (later.getD i 0).testBit g else if k = 2 then i != g && !done.testBit g else if k = 4 then i == g || done.testBit g else true) && seqOkG n g am cf later l (done ||| 2 ^ i)
def wpSeqG (P : Program) (ops : Array Oper) (Q : Exit → Act → World → Prop) (S : World → Prop) : List (Nat × Nat) → Act → World → Prop
 | [], a, w => Q .normal a w
 | (i, k) :: l, a, w => ∃ o, ops[i]? = some o ∧
   (if k = 0 then ∃ v, (Region.wanted o (yielded ops a.tmps) = true ∧ ∀ w, S w → (execOp a.eval o).run P w = .ok (.value v) w) ∧ wpSeqG P ops Q S l (a.put o.dst v) w
   else if k = 1 then Region.wanted o (yielded ops a.tmps) = false ∧ wpSeqG P ops Q S l (a.put o.dst undef) w
   else if k = 2 then wpOp P ops Q i (fun a' w' => S w' ∧ wpSeqG P ops Q S l a' w') a w
   else if k = 3 then ∃ v, (Region.wanted o (yielded ops a.tmps) = true ∧ ∀ w, (execOp a.eval o).run P w = .ok (.value v) w) ∧ wpSeqG P ops Q S l (a.put o.dst v) w
   else k = 4 ∧ wpOp P ops Q i (fun a' w' => wpSeqG P ops Q S l a' w') a w)
theorem wpAnyG_seq {P : Program} {md : Region.Mode} {ops : Array Oper} {Q : Exit → Act → World → Prop} {S : World → Prop} (g : Nat) (am cf later : List Nat) (hgn : g < ops.size)
  (ham : ops.toList.map (amOf md) = am) (hcf : cfAll md ops ops.toList 0 = cf) (hs : Region.noSelect ops = true)
  (hQ : ∀ c a w d v, Q (.panic c) (Act.put a d v) w → Q (.panic c) a w) :
  ∀ (l : List (Nat × Nat)) (done : Nat) (listed : Array Bool) (a : Act) (w : World), Inv ops.size listed done → Closed md ops listed → seqOkG ops.size g am cf later l done = true → (done.testBit g = false → S w) →
   wpSeqG P ops Q S l a w → wpAnyG P md ops Q S g l.length listed a w := by
 have am_get : ∀ (i : Nat) (o : Oper), ops[i]? = some o → am.getD i 0 = amOf md o := by
  intro i o ho
  rw [← ham, List.getD_eq_getElem?_getD, List.getElem?_map, Array.getElem?_toList, ho]; rfl
 have am_len : am.length = ops.size := by rw [← ham]; simp
 have cf_get : ∀ (i : Nat) (o : Oper), ops[i]? = some o → cf.getD i 0 = cfOf md ops o i ops.toList 0 := by
  intro i o ho
  rw [← hcf, List.getD_eq_getElem?_getD, cfAll_get md ops ops.toList 0 i o (by rw [Array.getElem?_toList]; exact ho), Nat.zero_add]; rfl
 have is_ready : ∀ (i done : Nat) (listed : Array Bool) (o : Oper), Inv ops.size listed done → ops[i]? = some o → done.testBit i = false → (am.getD i 0 &&& done == am.getD i 0) = true → i ∈ Region.ready md ops listed := by
  intro i done listed o hI ho hd ha
  have hin : i < ops.size := (Array.getElem?_eq_some_iff.1 ho).1
  refine mem_ready.2 ⟨by rw [hI.getT hin]; exact hd, o, ho, fun e he hb => ?_⟩
  rw [hI.getF]
  rw [am_get i o ho] at ha
  exact sub_bits ha e.on ((amOf_bit md o e.on).2 ⟨e, he, hb, rfl⟩)
 have ready_is : ∀ (i done : Nat) (listed : Array Bool), Inv ops.size listed done → i ∈ Region.ready md ops listed → i < ops.size ∧ done.testBit i = false ∧ (am.getD i 0 &&& done == am.getD i 0) = true := by
  intro i done listed hI hr
  obtain ⟨h1, o, ho, h2⟩ := mem_ready.1 hr
  have hin : i < ops.size := (Array.getElem?_eq_some_iff.1 ho).1
  refine ⟨hin, by rw [← hI.getT hin]; exact h1, ?_⟩
  rw [am_get i o ho]
  refine bits_sub fun k hk => ?_
  obtain ⟨e, he, hb, rfl⟩ := (amOf_bit md o k).1 hk
  rw [← hI.getF]
  exact h2 e he hb
 intro l
 induction l with
 | nil =>
  intro done listed a w hI _ hk _ h
  refine ⟨?_, h⟩
  refine List.eq_nil_iff_forall_not_mem.2 fun i hi => ?_
  obtain ⟨h1, h2, _⟩ := ready_is i done listed hI hi
  have := List.all_eq_true.1 hk i (List.mem_range.2 h1)
  rw [h2] at this
  cases this
 | cons x l ih =>
  obtain ⟨i, k⟩ := x
  intro done listed a w hI hcl hk hS h
  unfold seqOkG at hk
  simp only [Bool.and_eq_true, decide_eq_true_eq, Bool.not_eq_true'] at hk
  obtain ⟨⟨⟨⟨⟨k1, k2⟩, k3⟩, k4⟩, k5⟩, k6⟩ := hk
  obtain ⟨o, ho, h⟩ := h
  have hr := is_ready i done listed o hI ho k2 k3
  have hI' := hI.set k1
  have hcl' := hcl.set hr
  have gbit : ∀ j, j ≠ g → (done ||| 2 ^ j).testBit g = done.testBit g := fun j hj => by
   rw [Nat.testBit_or, testBit_pow]
   simp [hj]
  have hfree : ¬ (k = 2 ∨ k = 4) → i ≠ g ∧ ∀ j oj, ops[j]? = some oj → j ≠ i → listed.getD j true = false → (∀ e ∈ oj.after, Region.binds md e = true → e.on ≠ i) → o.apart ops oj = true := by
   intro hk2
   rw [if_neg hk2] at k4
   simp only [Bool.and_eq_true, bne_iff_ne] at k4
   refine ⟨k4.2, ?_⟩
   intro j oj hj hji hun hno
   cases c : o.apart ops oj
   ·exfalso
    have hjn : j < ops.size := (Array.getElem?_eq_some_iff.1 hj).1
    have hb : (amOf md oj).testBit i = false := by
     cases e : (amOf md oj).testBit i
     ·rfl
     ·obtain ⟨x, hx, hxb, hxi⟩ := (amOf_bit md oj i).1 e
      exact absurd hxi (hno x hx hxb)
    have k4' := k4.1
    rw [cf_get i o ho] at k4'
    have := sub_bits k4' j (cfOf_bit md ops o i j oj hji hb c ops.toList 0 j (by rw [Array.getElem?_toList]; exact hj) (Nat.zero_add _))
    rw [hI.getT hjn, this] at hun
    cases hun
   ·rfl
  have only : (k = 2 ∨ k = 4) → ∀ j ∈ Region.ready md ops listed, j = i := by
   intro hk2 j hj
   rw [if_pos hk2] at k4
   obtain ⟨q1, q2, q3⟩ := ready_is j done listed hI hj
   have := List.all_eq_true.1 k4 j (List.mem_range.2 q1)
   rw [q2, q3] at this
   simpa using this
  have hSl : listed.getD g false = false → S w := fun hg => hS (by rw [← hI.getF]; exact hg)
  rw [List.length_cons]
  by_cases c0 : k = 0
  ·subst c0
   obtain ⟨hig, hfr⟩ := hfree (by omega)
   rw [if_pos rfl] at h k5
   simp only [Bool.and_eq_true] at k5
   obtain ⟨v, ⟨hw, hv⟩, h⟩ := h
   have hB := behind_of (g := g) am ham i (later.getD i 0) k5.1 k5.2 (Ne.symm hig) (by omega)
   obtain ⟨hg1, _⟩ := hB listed hcl (mem_ready.1 hr).1
   exact wpAnyG_first (T := S) ho (Region.noSelect_spec hs) hig (.inr ⟨fun _ h => h, hB⟩) (fun c a w h => hQ c a w _ _ h) l.length listed a w hcl hfr hr (Or.inl ⟨hw, hv⟩) (hSl hg1) hSl
    (ih _ _ _ _ hI' hcl' k6 (fun hg => hSl hg1) h)
  rw [if_neg c0] at h
  by_cases c1 : k = 1
  ·subst c1
   obtain ⟨hig, hfr⟩ := hfree (by omega)
   rw [if_pos rfl] at h
   exact wpAnyG_first (T := fun _ => True) ho (Region.noSelect_spec hs) hig (.inl fun _ => trivial) (fun c a w h => hQ c a w _ _ h) l.length listed a w hcl hfr hr (Or.inr ⟨h.1, rfl⟩) trivial hSl
    (ih _ _ _ _ hI' hcl' k6 (fun hg => hS (by rw [gbit i hig] at hg; exact hg)) h.2)
  rw [if_neg c1] at h
  by_cases c2 : k = 2
  ·subst c2
   rw [if_pos rfl] at h
   simp only [if_neg c0, if_true, Bool.and_eq_true, bne_iff_ne, Bool.not_eq_true'] at k5
   refine ⟨fun e => (by rw [e] at hr; cases hr), fun j hj => ?_⟩
   obtain rfl := only (Or.inl rfl) j hj
   exact wpOp_mono (fun a' w' h' => ⟨fun _ _ => h'.1, ih _ _ _ _ hI' hcl' k6 (fun _ => h'.1) h'.2⟩) h
  rw [if_neg c2] at h
  by_cases c3 : k = 3
  ·subst c3
   obtain ⟨hig, hfr⟩ := hfree (by omega)
   rw [if_pos rfl] at h
   obtain ⟨v, ⟨hw, hv⟩, h⟩ := h
   exact wpAnyG_first (T := fun _ => True) ho (Region.noSelect_spec hs) hig (.inl fun _ => trivial) (fun c a w h => hQ c a w _ _ h) l.length listed a w hcl hfr hr (Or.inl ⟨hw, fun w _ => hv w⟩) trivial hSl
    (ih _ _ _ _ hI' hcl' k6 (fun hg => hS (by rw [gbit i hig] at hg; exact hg)) h)
  rw [if_neg c3] at h
  obtain ⟨c4, h⟩ := h
  subst c4
  simp only [if_neg c0, if_neg c2, if_true, Bool.or_eq_true, beq_iff_eq] at k5
  refine ⟨fun e => (by rw [e] at hr; cases hr), fun j hj => ?_⟩
  obtain rfl := only (Or.inr rfl) j hj
  have hdone : (done ||| 2 ^ j).testBit g = true := by
   rw [Nat.testBit_or, testBit_pow]
   rcases k5 with rfl | k5
   ·simp
   ·rw [k5]; rfl
  have hls : listed.getD g false = false → j = g := fun hg => by
   rcases k5 with k5 | k5
   ·exact k5
   ·rw [hI.getF, k5] at hg; cases hg
  exact wpOp_mono (fun a' w' h' => ⟨fun hjg hg => absurd (hls hg) hjg, ih _ _ _ _ hI' hcl' k6 (fun hg => by rw [hdone] at hg; cases hg) h'⟩) h
theorem wp_region_gate {P : Program} {ops : Array Oper} {Q : Exit → Act → World → Prop} {S : World → Prop} {id : Nat} {a : Act} {w : World} (g : Nat) (l : List (Nat × Nat)) (am cf later : List Nat) (hm : P.follows .mixedOrders = true)
  (hk : (Region.noSelect ops && decide (l.length = ops.size) && decide (g < ops.size) && decide (ops.toList.map (amOf .any) = am) && decide (cfAll .any ops ops.toList 0 = cf) && seqOkG ops.size g am cf later l 0) = true)
  (hQ : ∀ c a w d v, Q (.panic c) (Act.put a d v) w → Q (.panic c) a w) (hS : S w.drew)
  (h : S w.drew → wpSeqG P ops Q S l a w.drew) : (Code.region id ops true).wp P Q a w := by
 simp only [Bool.and_eq_true, decide_eq_true_eq] at hk
 obtain ⟨⟨⟨⟨⟨h1, h2⟩, hg⟩, h3⟩, h4⟩, h5⟩ := hk
 refine wp_region_any hm ?_
 rw [← h2]
 refine wpAny_of_gate (S := S) (g := g) _ _ _ _ ?_
 have := wpAnyG_seq (P := P) (md := .any) (S := S) g am cf later hg h3 h4 h1 hQ l 0 (Array.replicate ops.size false) a w.drew (Inv.start _) (fun j oj hj hl => by
  rw [Array.getD_eq_getD_getElem?, Array.getElem?_replicate] at hl
  split at hl <;> simp at hl) h5 (fun _ => hS) (h hS)
 rw [h2] at this ⊢
 exact this
theorem wpSeqG_take {P : Program} {ops : Array Oper} {Q : Exit → Act → World → Prop} {S : World → Prop} {l : List (Nat × Nat)} {t : List Value} {df : List _} {w : World} {i d : Nat} {o : Oper} {v : Value}
  (ho : ops.toList[i]? = some o) (hd : o.dst = some d) (hw : Region.wanted o (yielded ops t.toArray) = true)
  (hy : ∀ w, S w → (execOp (Act.eval { tmps := t.toArray, defers := df }) o).run P w = .ok (.value v) w)
  (h : wpSeqG P ops Q S l { tmps := (t.set d v).toArray, defers := df } w) : wpSeqG P ops Q S ((i, 0) :: l) { tmps := t.toArray, defers := df } w := by
 refine ⟨o, by rw [← Array.getElem?_toList]; exact ho, ?_⟩
 rw [if_pos rfl]
 refine ⟨v, ⟨hw, hy⟩, ?_⟩
 have e : Act.put { tmps := t.toArray, defers := df } o.dst v = { tmps := (t.set d v).toArray, defers := df } := by
  rw [hd]; simp [Act.put]
 rw [e]
 exact h
theorem wpSeqG_free {P : Program} {ops : Array Oper} {Q : Exit → Act → World → Prop} {S : World → Prop} {l : List (Nat × Nat)} {t : List Value} {df : List _} {w : World} {i d : Nat} {o : Oper} {v : Value}
  (ho : ops.toList[i]? = some o) (hd : o.dst = some d) (hw : Region.wanted o (yielded ops t.toArray) = true)
  (hy : ∀ w, (execOp (Act.eval { tmps := t.toArray, defers := df }) o).run P w = .ok (.value v) w)
  (h : wpSeqG P ops Q S l { tmps := (t.set d v).toArray, defers := df } w) : wpSeqG P ops Q S ((i, 3) :: l) { tmps := t.toArray, defers := df } w := by
 refine ⟨o, by rw [← Array.getElem?_toList]; exact ho, ?_⟩
 rw [if_neg (by decide), if_neg (by decide), if_neg (by decide), if_pos rfl]
 refine ⟨v, ⟨hw, hy⟩, ?_⟩
 have e : Act.put { tmps := t.toArray, defers := df } o.dst v = { tmps := (t.set d v).toArray, defers := df } := by
  rw [hd]; simp [Act.put]
 rw [e]
 exact h
theorem wpSeqG_call {P : Program} {ops : Array Oper} {Q : Exit → Act → World → Prop} {S : World → Prop} {l : List (Nat × Nat)} {a : Act} {w : World} {i : Nat} {o : Oper}
  (ho : ops.toList[i]? = some o) (hw : Region.wanted o (yielded ops a.tmps) = true)
  (h : ∀ K' : Act → World → Prop, Shut (∀ a w, S w → (S w → wpSeqG P ops Q S l a w) → K' a w) → Oper.wp P o a w K' Q) : wpSeqG P ops Q S ((i, 2) :: l) a w := by
 rw [Array.getElem?_toList] at ho
 refine ⟨o, ho, ?_⟩
 rw [if_neg (by decide), if_neg (by decide), if_pos rfl]
 refine wpOp_step ho fun K' hK => ?_
 rw [if_pos hw]
 exact h K' fun a w hS h => hK a w ⟨hS, h hS⟩
theorem wpSeqG_gate {P : Program} {ops : Array Oper} {Q : Exit → Act → World → Prop} {S : World → Prop} {l : List (Nat × Nat)} {a : Act} {w : World} {i : Nat} {o : Oper}
  (ho : ops.toList[i]? = some o) (hw : Region.wanted o (yielded ops a.tmps) = true)
  (h : ∀ K' : Act → World → Prop, Shut (∀ a w, wpSeqG P ops Q S l a w → K' a w) → Oper.wp P o a w K' Q) : wpSeqG P ops Q S ((i, 4) :: l) a w := by
 rw [Array.getElem?_toList] at ho
 refine ⟨o, ho, ?_⟩
 rw [if_neg (by decide), if_neg (by decide), if_neg (by decide), if_neg (by decide)]
 refine ⟨rfl, wpOp_step ho fun K' hK => ?_⟩
 rw [if_pos hw]
 exact h K' fun a w h => hK a w h
theorem wpSeqG_done {P : Program} {ops : Array Oper} {Q : Exit → Act → World → Prop} {S : World → Prop} {a : Act} {w : World} (h : Q .normal a w) : wpSeqG P ops Q S [] a w := h
end Go.Proofs.YthlileddhgglnaaGreatDoor
namespace Go.Proofs.YthlileddhgglnaaGreatDoor
open Go.RowKit
set_option linter.unusedVariables false
structure OwnD (w : World) (base : Nat) (wv tv fv : Value) (d : Dk) (ss tt : List Value) : Prop where
 ws : w.ownsRow base 33 5 wv d.ws.length (flatR d.ws ss)
 ts : w.ownsRow base 35 5 tv d.ts.length (flatR d.ts tt)
 fs : w.ownsRow base 41 4 fv d.fs.length (flatF d.fs)
 sl : ss.length = d.ws.length
 tl : tt.length = d.ts.length
 sh : ∀ (i : Nat) r v, d.ws[i]? = some r → ss[i]? = some v → w.ownsRow base 37 6 v r.l.length (flat r.l)
 th : ∀ (i : Nat) r v, d.ts[i]? = some r → tt[i]? = some v → w.ownsRow base 37 6 v r.l.length (flat r.l)
 wi : ∀ r ∈ d.ws, ∀ s ∈ r.l, s.I
 ti : ∀ r ∈ d.ts, ∀ s ∈ r.l, s.I
theorem OwnD.dk {w : World} {base : Nat} {wv tv fv : Value} {d : Dk} {ss tt : List Value} (h : OwnD w base wv tv fv d ss tt) : IsDk w wv tv fv d :=
 ⟨isRecs_own h.ws h.sl.symm (fun i r v hr hv => isSecs_own (h.sh i r v hr hv) (h.wi r (List.mem_of_getElem? hr))),
  isRecs_own h.ts h.tl.symm (fun i r v hr hv => isSecs_own (h.th i r v hr hv) (h.ti r (List.mem_of_getElem? hr))), isFls_own h.fs⟩
theorem own_on {w w' : World} {base e size n : Nat} {v : Value} {xs : List Value} (h : w.ownsRow base e size v n xs) (hb : ∀ i, base ≤ i → i < w.heap.size → w'.heap[i]? = w.heap[i]?) : w'.ownsRow base e size v n xs := by
 refine ⟨h.1, ?_⟩
 rcases h.2 with hn | ⟨g, cap, cur, rfl, hbg, hg, rest⟩
 ·exact .inl hn
 ·exact .inr ⟨g, cap, cur, rfl, hbg, (hb g hbg (obj_lt hg)).trans hg, rest⟩
theorem OwnD.on {w w' : World} {base : Nat} {wv tv fv : Value} {d : Dk} {ss tt : List Value} (h : OwnD w base wv tv fv d ss tt) (hb : ∀ i, base ≤ i → i < w.heap.size → w'.heap[i]? = w.heap[i]?) : OwnD w' base wv tv fv d ss tt :=
 ⟨own_on h.ws hb, own_on h.ts hb, own_on h.fs hb, h.sl, h.tl, fun i r v h1 h2 => own_on (h.sh i r v h1 h2) hb, fun i r v h1 h2 => own_on (h.th i r v h1 h2) hb, h.wi, h.ti⟩
theorem OwnD.held {w : World} {base : Nat} {wv tv fv : Value} {d : Dk} {ss tt : List Value} (h : OwnD w base wv tv fv d ss tt) : Held (fun w => IsDk w wv tv fv d) base w.heap.size w :=
 ⟨h.dk, Nat.le_refl _, fun w' hb => (h.on hb).dk⟩
theorem OwnD.heldW {w : World} {base : Nat} {wv tv fv : Value} {d : Dk} {ss tt : List Value} (h : OwnD w base wv tv fv d ss tt) (i : Nat) (r : Wr) (v : Value) (h1 : d.ws[i]? = some r) (h2 : ss[i]? = some v) : Held (fun w => IsSecs w v r.l) base w.heap.size w :=
 ⟨isSecs_own (h.sh i r v h1 h2) (h.wi r (List.mem_of_getElem? h1)), Nat.le_refl _, fun w' hb => isSecs_own (own_on (h.sh i r v h1 h2) hb) (h.wi r (List.mem_of_getElem? h1))⟩
theorem OwnD.heldT {w : World} {base : Nat} {wv tv fv : Value} {d : Dk} {ss tt : List Value} (h : OwnD w base wv tv fv d ss tt) (i : Nat) (r : Wr) (v : Value) (h1 : d.ts[i]? = some r) (h2 : tt[i]? = some v) : Held (fun w => IsSecs w v r.l) base w.heap.size w :=
 ⟨isSecs_own (h.th i r v h1 h2) (h.ti r (List.mem_of_getElem? h1)), Nat.le_refl _, fun w' hb => isSecs_own (own_on (h.th i r v h1 h2) hb) (h.ti r (List.mem_of_getElem? h1))⟩
theorem own_low {w : World} {base base' e size n : Nat} {v : Value} {xs : List Value} (h : w.ownsRow base e size v n xs) (hb : base' ≤ base) : w.ownsRow base' e size v n xs := by
 refine ⟨h.1, ?_⟩
 rcases h.2 with hn | ⟨g, cap, cur, rfl, hbg, rest⟩
 ·exact .inl hn
 ·exact .inr ⟨g, cap, cur, rfl, Nat.le_trans hb hbg, rest⟩
theorem own_keepBx {w w' : World} {base e size n : Nat} {v : Value} {xs : List Value} (h : w.ownsRow base e size v n xs) (q : B w w') : w'.ownsRow base e size v n xs :=
 own_on h fun i _ hi => q.below.block i hi
theorem own_objG {w w' : World} {base e t size n C : Nat} {v : Value} {xs : List Value} {cs : Array Value} (h : w.ownsRow base e size v n xs) (ho : w.heap[C]? = some (.cells cs t (0, 0))) (he : t ≠ e) (g : G (fun i => i = C) w w') : w'.ownsRow base e size v n xs := by
 refine ⟨h.1, ?_⟩
 rcases h.2 with hn | ⟨b, cap, cur, rfl, hbg, hb, rest⟩
 ·exact .inl hn
 ·refine .inr ⟨b, cap, cur, rfl, hbg, g.obj (fun hbC => ?_) hb, rest⟩
  subst hbC
  rw [ho] at hb
  simp only [Option.some.injEq, Obj.cells.injEq] at hb
  exact he hb.2.1
theorem farF2 {w : World} {b2 : Nat} {e2 t : TypeId} {s2 n2 : Nat} {v2 : Value} {x2 : List Value} {i : Nat} {cs : Array Value} (ho : w.heap[i]? = some (.cells cs t (0, 0))) (h2 : w.ownsRow b2 e2 s2 v2 n2 x2) (he : t ≠ e2) : v2.ownBlock ≠ some i :=
 obj_apart ho h2 (fun e => he (by simpa [kindO] using e))
def OwnV (k e size n : Nat) (xs : List Value) : Value → World → Prop := fun v w => ∃ o c, v = .slice o n c ∧ w.ownsRow k e size (.slice o n c) n xs
theorem slot_own (k e size n : Nat) (xs : List Value) : Slot.stays (OwnV k e size n xs) := fun _ _ _ ⟨o, c, h1, h2⟩ q => ⟨o, c, h1, own_keepBx h2 q⟩
def OwnA (k nw nt nf : Nat) (XW XT XF : List Value) : Value → World → Prop := fun v w => ∃ o1 c1 o2 c2 o3 c3, v = .agg #[.slice o1 nw c1, .slice o2 nt c2, .slice o3 nf c3] ∧ w.ownsRow k 33 5 (.slice o1 nw c1) nw XW ∧ w.ownsRow k 35 5 (.slice o2 nt c2) nt XT ∧ w.ownsRow k 41 4 (.slice o3 nf c3) nf XF
theorem slot_owna (k nw nt nf : Nat) (XW XT XF : List Value) : Slot.stays (OwnA k nw nt nf XW XT XF) := fun _ _ _ ⟨o1, c1, o2, c2, o3, c3, h, r1, r2, r3⟩ q => ⟨o1, c1, o2, c2, o3, c3, h, own_keepBx r1 q, own_keepBx r2 q, own_keepBx r3 q⟩
def BoxV (k : Nat) : Value → World → Prop := fun v w => ∃ b, v = .pointer (some ⟨b, 0, none⟩) ∧ w.heap[b]? = some (.cells #[.slice none 0 0, .slice none 0 0, .slice none 0 0] 26 (0, 0)) ∧ k ≤ b
theorem slot_box (k : Nat) : Slot.stays (BoxV k) := fun _ _ _ ⟨b, h1, h2, h3⟩ q => ⟨b, h1, q.obj h2, h3⟩
theorem flatR_set : ∀ (L : List Rec) (vs : List Value) (i : Nat) (v : Value), L.length = vs.length → i < L.length → (flatR L vs).set (i * 5 + 4) v = flatR L (vs.set i v)
 | [], _, i, _, _, h => by simp at h
 | _ :: _, [], _, _, h, _ => by simp at h
 | r :: L, u :: vs, 0, v, _, _ => by
  show (r.cells u ++ flatR L vs).set (0 * 5 + 4) v = r.cells v ++ flatR L vs
  rfl
 | r :: L, u :: vs, i + 1, v, h, hi => by
  show (r.cells u ++ flatR L vs).set ((i + 1) * 5 + 4) v = r.cells u ++ flatR L (vs.set i v)
  rw [List.set_append_right _ _ (by simp [Rec.cells]; omega), show (i + 1) * 5 + 4 - (r.cells u).length = i * 5 + 4 by simp [Rec.cells]; omega, flatR_set L vs i v (by simpa using h) (by simpa using hi)]
structure LpAt (L : List Rec) (w wr W1 : World) (k C n : Nat) (sv : Value) (ty : TypeId) (i : Nat) (ss : List Value) : Prop where
 len : ss.length = L.length
 row : wr.ownsRow k ty 5 sv n (flatR L ss)
 old : ∀ (j : Nat) r u, i ≤ j → L[j]? = some r → ss[j]? = some u → IsSecs w u r.l
 new : ∀ (j : Nat) r u, j < i → L[j]? = some r → ss[j]? = some u → wr.ownsRow k 37 6 u r.l.length (flat r.l)
 g : G (fun b => k ≤ b ∧ b ≠ C) W1 wr
 bw : B w wr
 own : ∀ {e size m : Nat} {v : Value} {xs : List Value}, e ≠ ty → W1.ownsRow k e size v m xs → wr.ownsRow k e size v m xs
theorem LpAt.start {L : List Rec} {w W1 : World} {k C n : Nat} {sv : Value} {ty : TypeId} {vs : List Value} (h1 : vs.length = L.length) (h2 : ∀ (i : Nat) r u, L[i]? = some r → vs[i]? = some u → IsSecs w u r.l) (bw : B w W1) (h3 : W1.ownsRow k ty 5 sv n (flatR L vs)) : LpAt L w W1 W1 k C n sv ty 0 vs :=
 ⟨h1, h3, fun j r u _ h4 h5 => h2 j r u h4 h5, fun j r u h => by omega, G.refl _ _, bw, fun _ h => h⟩
section
variable {L : List Rec} {w wr W1 : World} {k C n i : Nat} {sv : Value} {ty : TypeId} {ss : List Value}
theorem LpAt.at_ (h : LpAt L w wr W1 k C n sv ty i ss) (hn : L.length = n) (hi : i < n) : ∃ r u, L[i]? = some r ∧ ss[i]? = some u ∧ ∀ g, sv.ownBlock = some g → wr.cell? ⟨g, i * 5 + 4, none⟩ = some u := by
 have hr : L[i]? = some L[i] := List.getElem?_eq_getElem (by omega)
 have hu : ss[i]? = some (ss[i]'(by have := h.len; omega)) := List.getElem?_eq_getElem _
 refine ⟨_, _, hr, hu, fun g hg => ?_⟩
 have hx := flatR_get L ss i 4 _ _ hr hu (by omega)
 have := h.row
 obtain ⟨o, c, rfl⟩ := ownsRow_form this
 cases o with
 | none => cases hg
 | some a =>
  obtain ⟨g', cap, e, _⟩ := this.form (by omega)
  simp only [Value.slice.injEq, Option.some.injEq, true_and] at e
  obtain ⟨rfl, rfl⟩ := e
  obtain rfl : g' = g := Option.some.inj hg
  rw [this.cellAt (i * 5 + 4) (by omega), hx]
  rfl
theorem LpAt.old_at (h : LpAt L w wr W1 k C n sv ty i ss) {r : Rec} {u : Value} (hr : L[i]? = some r) (hu : ss[i]? = some u) : IsSecs wr u r.l := (h.old i r u (Nat.le_refl _) hr hu).keepB h.bw
theorem LpAt.next {wl w2 : World} {r : Rec} {u : Value} {g cp m o9 c9} (h : LpAt L w wl W1 k C n (.slice (some ⟨g, 0, none⟩) n cp) ty i ss) (hnL : L.length = n) (hk : k ≤ wl.heap.size) (hr : L[i]? = some r) (hu : ss[i]? = some u) (hl : i < n) (q : B wl w2) (hown : w2.ownsRow wl.heap.size 37 6 (.slice o9 m c9) m (flat r.l)) (hm : r.l.length = m) (hty : ty ≠ 37) (hgC : ¬ g = C) (hw : w.heap.size ≤ k) :
  LpAt L w (w2.setCell ⟨g, i * 5 + 4, none⟩ (.slice o9 m c9)) W1 k C n (.slice (some ⟨g, 0, none⟩) n cp) ty (i + 1) (ss.set i (.slice o9 m c9)) := by
 have hrow2 := own_keepBx h.row q
 obtain ⟨h2, g2⟩ := hrow2.stored (i * 5 + 4) (.slice o9 m c9)
 rw [flatR_set L ss i _ h.len.symm (by omega)] at h2
 have hgk : k ≤ g := (h.row.lt g rfl).1
 have o1 : ∀ {e size n' : Nat} {v : Value} {xs : List Value} {b : Nat}, e ≠ ty → w2.ownsRow b e size v n' xs → (w2.setCell ⟨g, i * 5 + 4, none⟩ (.slice o9 m c9)).ownsRow b e size v n' xs := fun {e size n' v xs b} he hv => hv.kept g2 (rows_apart hv hrow2 he)
 refine ⟨by simp [h.len], h2, fun j r' u' hj hr' hu' => ?_, fun j r' u' hj hr' hu' => ?_, ?_, ?_, fun he hv => o1 he (own_keepBx (h.own he hv) q)⟩
 ·rw [List.getElem?_set_ne (by omega)] at hu'
  exact h.old j r' u' (by omega) hr' hu'
 ·by_cases hji : j = i
  ·subst hji
   rw [List.getElem?_set_self (by have := h.len; omega)] at hu'
   obtain rfl := Option.some.inj hu'
   obtain rfl : r = r' := Option.some.inj (hr.symm.trans hr')
   rw [hm]
   exact o1 (fun e => hty e.symm) (own_low hown hk)
  ·rw [List.getElem?_set_ne (fun e => hji e.symm)] at hu'
   exact o1 (fun e => hty e.symm) (own_keepBx (h.new j r' u' (by omega) hr' hu') q)
 ·exact (h.g.trans (q.g _)).setCell (p := ⟨g, i * 5 + 4, none⟩) (.inl ⟨hgk, hgC⟩) _
 ·exact (h.bw.trans q).setCell (p := ⟨g, i * 5 + 4, none⟩) (Nat.le_trans hw hgk) _
end
end Go.Proofs.YthlileddhgglnaaGreatDoor
