/-
  Layer 13: from where to where a step goes; Layer 13: each step's own transfers; they are put behind the others.
-/
import Derived.Deep.AppendLies
import Derived.Test.YtjdkhobkdlldnaaGreatDoorY1
import Derived.Test.YtjdkhobkdlldnaaGreatDoorY2
import Derived.Test.YtjdkhobkdlldnaaGreatDoorY3
import Derived.Test.YtjdkhobkdlldnaaGreatDoorY4
import Derived.Test.YtjdkhobkdlldnaaGreatDoorY5
import Derived.Test.YtjdkhobkdlldnaaGreatDoorY6
import Derived.Test.YtjdkhobkdlldnaaGreatDoorY7
import Derived.Test.YtjdkhobkdlldnaaGreatDoorY8
namespace Go.Proofs.YtjdkhobkdlldnaaGreatDoor
open Go.RowKit
set_option linter.unusedVariables false
theorem addr_add (a : Addr) (i j : Nat) (hi : 0 < i) : (a.add i).add j = a.add (i + j) := by
  unfold Addr.add
  by_cases h : j = 0
  · subst h; simp [Nat.ne_of_gt hi]
  · simp [h, Nat.ne_of_gt hi, Nat.add_assoc]
theorem addP (b f j : Nat) : (⟨b, f, none⟩ : Addr).add j = ⟨b, f + j, none⟩ := by unfold Addr.add; split <;> simp_all
theorem addr3 (a : Addr) : a.add 3 = ⟨a.block, a.off + 3, none⟩ := by unfold Addr.add; rw [if_neg (by omega)]
theorem IsWps.tail {w : World} {a : Addr} {n cap : Nat} {f : Wp} {o : List Wp} (h : IsWps w (.slice (some a) (n + 1) cap) (f :: o)) (hn : o.length = n) : n + 1 ≤ cap ∧ cap ≤ maxLen ∧ WpAt w a f ∧ IsWps w (.slice (some ⟨a.block, a.off + 3, none⟩) n (cap - 1)) o := by
  rcases h with ⟨h, _⟩ | ⟨a', cap', h1, h2, h3, h4⟩
  · cases h
  · simp only [Value.slice.injEq, Option.some.injEq] at h1
    obtain ⟨rfl, _, rfl⟩ := h1
    simp only [List.length_cons] at h2
    refine ⟨by omega, h3, by have := h4 0 f rfl; simpa [Addr.add] using this, .inr ⟨a.add 3, cap - 1, by rw [hn, addr3], by omega, by omega, fun i g hg => ?_⟩⟩
    have := h4 (i + 1) g (by simpa using hg)
    rw [addr_add _ _ _ (by omega), show 3 + i * 3 = (i + 1) * 3 by omega]
    exact this
theorem opIC : (Tryz.prog.info? 124).map (fun i => (i.zero, i.size, i.bytes)) = some (some (.agg #[.string ⟨#[]⟩, .int .i64 0, .int .i64 0, .string ⟨#[]⟩, .int .i64 0, .int .i64 0, .int .i64 0, .string ⟨#[]⟩, .bool false]), 9, 96) := by kernel_rfl
theorem take_map_snoc {α : Type} (g : Wp → α) {o : List Wp} {i : Nat} {x : Wp} (hx : o[i]? = some x) : (o.take (i + 1)).map g = (o.take i).map g ++ [g x] := by
  rw [List.take_add_one, hx]
  simp
theorem flatOp_snoc (l : List Opx) (x : Opx) : flatOp (l ++ [x]) = flatOp l ++ x.cells := by simp [flatOp]
theorem rep_flat (N : Nat) (f : Wp) (v : Int) : flatOp (List.replicate N (opOf f f v)) = repL N [.string f.n, .int .i64 f.r, .int .i64 f.c, .string f.n, .int .i64 f.r, .int .i64 f.c, .int .i64 v, .string ⟨#[]⟩, .bool false] := by
  unfold flatOp repL
  rw [List.flatMap_replicate]
  rfl
theorem zip_snoc (v : Int) : ∀ {A C : List Wp} {i : Nat} {p x : Wp}, A[i]? = some p → C[i]? = some x → (List.zipWith (fun a b => opOf a b v) A C).take (i + 1) = (List.zipWith (fun a b => opOf a b v) A C).take i ++ [opOf p x v] := by
  intro A C i p x hp hx
  rw [List.take_add_one, List.getElem?_zipWith, hp, hx]
  rfl
set_option maxRecDepth 100000 in
set_option maxHeartbeats 2000000 in
theorem moves5_any (f : Wp) (v : Int) (nm : ByteArray) (N : Nat) (hN1 : 1 ≤ N) (hN2 : N ≤ 20) (wsv : Value) (w : World) (h : IsWps w wsv [f]) :
    Calls Tryz.prog 87 #[.agg #[.int .i64 5, .string nm, wsv, .int .i64 v, .int .i64 (N : Int)]] w fun e w' => ∃ lo lc, e = .returned (.slice lo N lc) ∧ w'.ownsRow w.heap.size 124 9 (.slice lo N lc) N (flatOp (List.replicate N (opOf f f v))) ∧ B w w' := by
  obtain ⟨ao, cap, rfl⟩ := h.form
  have hl1 : [f].length = 1 := rfl
  rw [hl1] at h ⊢
  clear hl1
  obtain ⟨a, rfl⟩ : ∃ a, ao = some a := by
    rcases h with ⟨h, _⟩ | ⟨a, _, h, _⟩
    · simp at h
    · simp only [Value.slice.injEq] at h; exact ⟨a, h.1⟩
  obtain ⟨hc1, hc2, hF, hO⟩ := h.tail (n := 0) rfl
  have q0 : B w (w.alloc (.cells #[.int .i64 5, .string nm, .slice (some a) 1 cap, .int .i64 v, .int .i64 (N : Int)] 67)) := (B.refl w).alloc _ _
  have oS := obj_new w (.cells #[.int .i64 5, .string nm, .slice (some a) 1 cap, .int .i64 v, .int .i64 (N : Int)] 67)
  obtain ⟨fn, fr, fc⟩ := f
  obtain ⟨f0, f1, f2⟩ := hF.keepB q0
  simp only at f0 f1 f2
  have k2 := obj_cell oS 2
  have HO := Lib.hid (And.intro hO (And.intro trivial (And.intro q0 (And.intro oS h))))
  have hbw := Lib.hid (Nat.le_refl w.heap.size)
  clear h hO hF q0 oS
  go_enter Tryz.func87, Tryz.ntmps87
  go_wp2_with fail
  generalize w.alloc (.cells #[.int .i64 5, .string nm, .slice (some a) 1 cap, .int .i64 v, .int .i64 (N : Int)] 67) = w0 at *
  obtain ⟨S, hS⟩ : ∃ S, w.heap.size = S := ⟨_, rfl⟩
  simp only [hS] at k2 HO ⊢
  have qx : ∀ cs, B w0 (w0.alloc (.cells cs 39)) := fun cs => (B.refl _).alloc _ _
  have f0' := fun cs => (qx cs).keep f0
  have f1' := fun cs => (qx cs).keep f1
  have f2' := fun cs => (qx cs).keep f2
  have k2' := fun cs => (qx cs).keep k2
  by_cases hcap : cap = 1
  all_goals
    go_region
    have oF := obj_new w0 (.cells #[.string fn, .int .i64 fr, .int .i64 fc] 39)
    have q1 := (qx #[.string fn, .int .i64 fr, .int .i64 fc]).drew
    have oS1 := q1.obj HO.out.2.2.2.1
    have hO1 := (HO.out.1.keepB HO.out.2.2.1).keepB q1
    have HB1 := Lib.hid (And.intro (HO.out.2.2.1.trans q1) (And.intro hS (And.intro hO1 (And.intro q1 HO.out.2.2.2.2))))
    have oF1 := (B.refl (w0.alloc (.cells #[.string fn, .int .i64 fr, .int .i64 fc] 39))).drew.obj oF
    clear f0 f1 f2 f0' f1' f2' k2 k2' qx q1 hS hO1 oF
    generalize (w0.alloc (.cells #[.string fn, .int .i64 fr, .int .i64 fc] 39)).drew = w1 at *
    generalize w0.heap.size = G at *
    have k01 := obj_cell oS1 0
    have k03 := obj_cell oS1 3
    have k04 := fun cs => ((B.refl w1).alloc cs 124).keep (obj_cell oS1 4)
    have g0 := obj_cell oF1 0
    have g1 := obj_cell oF1 1
    have g2 := obj_cell oF1 2
    have HBq := Lib.hid HB1.out.1
    have HSw := Lib.hid HB1.out.2.1
    clear HB1 oS1 oF1 HO
    have cR := fun w2 hsrc => repO_any ⟨w1.heap.size, 0, none⟩ 1 N [.string fn, .int .i64 fr, .int .i64 fc, .string fn, .int .i64 fr, .int .i64 fc, .int .i64 v, .string ⟨#[]⟩, .bool false] rfl (fun u hu => by simp only [List.mem_cons, List.not_mem_nil, or_false] at hu; rcases hu with rfl | rfl | rfl | rfl | rfl | rfl | rfl | rfl | rfl <;> rfl) hN1 (by omega) w2 hsrc
    have HN := Lib.hid (And.intro hN1 hN2)
    clear hN1 hN2
    go_wp2_with fail
    refine (cR _ (newest rfl)).mono ?_
    rintro e w2 ⟨g, rfl, hrow, q2⟩
    have q3 : B w1 w2 := B.trans ((B.refl w1).alloc _ _) q2
    have HZ := Lib.hid (And.intro hrow (HBq.out.trans q3))
    have hlo : w.heap.size ≤ (w1.alloc (.cells #[.string fn, .int .i64 fr, .int .i64 fc, .string fn, .int .i64 fr, .int .i64 fc, .int .i64 v, .string ⟨#[]⟩, .bool false] 124)).heap.size := (HBq.out.trans ((B.refl w1).alloc _ _)).below.size
    replace hlo := Lib.hid hlo
    clear hrow q2 q3 cR
    go_wp2
    go_ret
    exact ⟨some ⟨g, 0, none⟩, N, rfl, by rw [rep_flat] ; exact own_lowU HZ.out.1 hlo.out, HZ.out.2⟩
set_option maxRecDepth 100000 in
set_option maxHeartbeats 2000000 in
theorem moves23_any (k : Int) (hk : k = 2 ∨ k = 3) (f : Wp) (o : List Wp) (v : Int) (nm : ByteArray) (m : Int) (wsv : Value) (w : World) (h : IsWps w wsv (f :: o)) (h2 : 1 ≤ o.length) (h96 : o.length ≤ 95) :
    Calls Tryz.prog 87 #[.agg #[.int .i64 k, .string nm, wsv, .int .i64 v, .int .i64 m]] w fun e w' => ∃ lo lc, e = .returned (.slice lo o.length lc) ∧ w'.ownsRow w.heap.size 124 9 (.slice lo o.length lc) o.length (flatOp (o.map fun x => opOf f x v)) ∧ B w w' := by
  obtain ⟨i0, hi0, hz0, hz1, hz2⟩ := info_of opIC
  obtain ⟨ao, cap, rfl⟩ := h.form
  obtain ⟨n, hn⟩ : ∃ n, o.length = n := ⟨_, rfl⟩
  rw [List.length_cons, hn] at h ⊢
  rw [hn] at h2 h96
  obtain ⟨a, rfl⟩ : ∃ a, ao = some a := by
    rcases h with ⟨h, _⟩ | ⟨a, _, h, _⟩
    · simp at h
    · simp only [Value.slice.injEq] at h; exact ⟨a, h.1⟩
  obtain ⟨hc1, hc2, hF, hO⟩ := h.tail hn
  have q0 : B w (w.alloc (.cells #[.int .i64 k, .string nm, .slice (some a) (n + 1) cap, .int .i64 v, .int .i64 m] 67)) := (B.refl w).alloc _ _
  have oS := obj_new w (.cells #[.int .i64 k, .string nm, .slice (some a) (n + 1) cap, .int .i64 v, .int .i64 m] 67)
  obtain ⟨fn, fr, fc⟩ := f
  obtain ⟨f0, f1, f2⟩ := hF.keepB q0
  simp only at f0 f1 f2
  have h1n : (1 : Int) ≤ (n : Int) + 1 := by omega
  have k2 := obj_cell oS 2
  have HO := Lib.hid (And.intro hO (And.intro hn (And.intro q0 (And.intro oS h))))
  have hbw := Lib.hid (Nat.le_refl w.heap.size)
  clear h hO hn hF q0 oS
  have hcap : ¬ cap = 1 := by omega
  go_enter Tryz.func87, Tryz.ntmps87
  go_wp2_with fail
  generalize w.alloc (.cells #[.int .i64 k, .string nm, .slice (some a) (n + 1) cap, .int .i64 v, .int .i64 m] 67) = w0 at *
  obtain ⟨S, hS⟩ : ∃ S, w.heap.size = S := ⟨_, rfl⟩
  simp only [hS] at k2 HO ⊢
  have qx : ∀ cs, B w0 (w0.alloc (.cells cs 39)) := fun cs => (B.refl _).alloc _ _
  have f0' := fun cs => (qx cs).keep f0
  have f1' := fun cs => (qx cs).keep f1
  have f2' := fun cs => (qx cs).keep f2
  have k2' := fun cs => (qx cs).keep k2
  go_region
  have oF := obj_new w0 (.cells #[.string fn, .int .i64 fr, .int .i64 fc] 39)
  have q1 := (qx #[.string fn, .int .i64 fr, .int .i64 fc]).drew
  have oS1 := q1.obj HO.out.2.2.2.1
  have hO1 := (HO.out.1.keepB HO.out.2.2.1).keepB q1
  have HB1 := Lib.hid (And.intro (HO.out.2.2.1.trans q1) (And.intro hS (And.intro hO1 (And.intro q1 HO.out.2.2.2.2))))
  have oF1 := (B.refl (w0.alloc (.cells #[.string fn, .int .i64 fr, .int .i64 fc] 39))).drew.obj oF
  clear f0 f1 f2 f0' f1' f2' k2 k2' qx q1 hS hO1 oF
  generalize (w0.alloc (.cells #[.string fn, .int .i64 fr, .int .i64 fc] 39)).drew = w1 at *
  generalize w0.heap.size = G at *
  have k01 := obj_cell oS1 0
  rcases hk with rfl | rfl
  all_goals
    go_wp2_with fail
    go_loopw [5, 26] (fun lv iv wr => ∃ (i : Nat) (lo : Option Addr) (lc : Nat), i ≤ n ∧ iv = .int .i64 i ∧ lv = .slice lo i lc ∧ wr.ownsRow w1.heap.size 124 9 (.slice lo i lc) i (flatOp ((o.take i).map (fun x => opOf ⟨fn, fr, fc⟩ x v))) ∧ B w1 wr) (fun _ iv _ => n + 1 - (intOf iv).toNat)
    case atStart => exact ⟨0, none, 0, Nat.zero_le _, rfl, rfl, World.ownsRow_nil _ _ _ _, B.refl _⟩
    case round =>
      obtain ⟨i, lo, lc, hi, rfl, rfl, hown, q⟩ := hrel
      obtain ⟨wo, rfl⟩ : ∃ wo : World, wo = wr := ⟨_, rfl⟩
      by_cases hl : i < n
      · have hlB : decide ((i : Int) < (n : Int)) = true := decide_eq_true (by omega)
        have hlN : decide (i < n) = true := decide_eq_true hl
        have hlI : (i : Int) < (n : Int) := by omega
        have hi0' : (0 : Int) ≤ (i : Int) := by omega
        have wk1 : IntKind.i64.wrap ((i : Int) + 1) = (i : Int) + 1 := by rw [IntKind.wrap_i64]; omega
        have hl' : i < o.length := by rw [HO.out.2.1]; exact hl
        obtain ⟨ad, cap', e1, _, _, hr⟩ := (HB1.out.2.2.1.keepB q).at_ hl'
        rw [HO.out.2.1] at e1
        obtain ⟨rfl, rfl⟩ : (⟨a.block, a.off + 3, none⟩ : Addr) = ad ∧ cap - 1 = cap' := by simpa using e1
        obtain ⟨x, hx⟩ : ∃ x, o[i] = x := ⟨_, rfl⟩
        rw [hx] at hr
        have hgx : o[i]? = some x := by rw [List.getElem?_eq_getElem hl', hx]
        have htk := take_map_snoc (fun x => opOf ⟨fn, fr, fc⟩ x v) hgx
        obtain ⟨xn, xr, xc⟩ := x
        obtain ⟨y0, y1, y2⟩ := hr
        simp only [addP] at y0 y1 y2
        have qb : B wo (wo.alloc (.cells #[.string xn, .int .i64 xr, .int .i64 xc] 39)) := (B.refl _).alloc _ _
        have oX := obj_new wo (.cells #[.string xn, .int .i64 xr, .int .i64 xc] 39)
        have oS2 := (q.trans qb).obj oS1
        have oF2 := (q.trans qb).obj oF1
        have z0 := obj_cell oX 0
        have z1 := obj_cell oX 1
        have z2 := obj_cell oX 2
        have g0 := obj_cell oF2 0
        have g1 := obj_cell oF2 1
        have g2 := obj_cell oF2 2
        have k3 := obj_cell oS2 3
        have hown2 := row_keep hown qb
        have HX := Lib.hid (And.intro htk (And.intro hl (q.trans qb)))
        have hbb : w1.heap.size ≤ (wo.alloc (.cells #[.string xn, .int .i64 xr, .int .i64 xc] 39)).heap.size := (q.trans qb).below.size
        have hi95 : i ≤ 95 := by omega
        have hB3 : B w1 ((wo.alloc (.cells #[.string xn, .int .i64 xr, .int .i64 xc] 39)).alloc (.cells #[.string fn, .int .i64 fr, .int .i64 fc, .string xn, .int .i64 xr, .int .i64 xc, .int .i64 v, .string ⟨#[]⟩, .bool false] 124)) := (q.trans qb).alloc _ _
        have own3 := row_keep hown2 (((B.refl (wo.alloc (.cells #[.string xn, .int .i64 xr, .int .i64 xc] 39))).alloc #[.string fn, .int .i64 fr, .int .i64 fc, .string xn, .int .i64 xr, .int .i64 xc, .int .i64 v, .string ⟨#[]⟩, .bool false] 124))
        have hb3 := hB3.below.size
        have HB3 := Lib.hid hB3
        clear htk hl q qb hgx hx e1 hl' hi oX oS2 oF2 hown hB3 hown2
        go_wp2_with (at_builtin; refine wpList_append_lies _ rfl _ _ 68 rfl w1.heap.size 124 i0 _ 9 96 Tryz.underlying68 hi0 hz0 hz1 hz2 rfl (by omega) (.slice lo i lc) i _ rfl own3 ⟨_, 0, none⟩ 1 1 [.string fn, .int .i64 fr, .int .i64 fc, .string xn, .int .i64 xr, .int .i64 xc, .int .i64 v, .string ⟨#[]⟩, .bool false] rfl rfl (newest (by simp)) (fun u hu => by simp only [List.mem_cons, List.not_mem_nil, or_false] at hu; rcases hu with rfl | rfl | rfl | rfl | rfl | rfl | rfl | rfl | rfl <;> rfl) (by omega) (by unfold maxLen; omega) (by omega) hb3 _ rfl ?_; intro g1 c1 W4 hown4 hgrow4 hat4 hlt4; have hB4 := HB3.out.grownBy hgrow4 (fun x hx => (own3.lt x hx).1); clear hgrow4 hat4 hlt4 own3 hb3; replace hown4 := Lib.hid (And.intro hown4 hB4); clear hB4; go_wp2_with fail)
        refine ⟨⟨i + 1, some ⟨g1, 0, none⟩, c1, by have := HX.out.2.1; omega, by go_num, rfl, ?_, hown4.out.2⟩, by have := HX.out.2.1; simp [intOf]; omega⟩
        rw [HX.out.1, flatOp_snoc]
        exact hown4.out.1
      · have hlB : decide ((i : Int) < (n : Int)) = false := decide_eq_false (by omega)
        have hlN : decide (i < n) = false := decide_eq_false hl
        obtain rfl : i = n := by omega
        rw [List.take_of_length_le (by rw [HO.out.2.1]; exact Nat.le_refl _)] at hown
        have HZ := Lib.hid (And.intro (own_lowU (base' := w.heap.size) hown (by have := HB1.out.1.below.size; have := HB1.out.2.1; omega)) (HB1.out.1.trans q))
        clear hown q hi
        go_wp2
        go_ret
        exact ⟨lo, lc, rfl, HZ.out.1, HZ.out.2⟩
set_option maxRecDepth 100000 in
set_option maxHeartbeats 2000000 in
theorem moves4_any (f : Wp) (o : List Wp) (v : Int) (nm : ByteArray) (m : Int) (wsv : Value) (w : World) (h : IsWps w wsv (f :: o)) (h2 : 1 ≤ o.length) (h96 : o.length ≤ 95) :
    Calls Tryz.prog 87 #[.agg #[.int .i64 4, .string nm, wsv, .int .i64 v, .int .i64 m]] w fun e w' => ∃ lo lc, e = .returned (.slice lo o.length lc) ∧ w'.ownsRow w.heap.size 124 9 (.slice lo o.length lc) o.length (flatOp (o.map fun x => opOf x f v)) ∧ B w w' := by
  obtain ⟨i0, hi0, hz0, hz1, hz2⟩ := info_of opIC
  obtain ⟨ao, cap, rfl⟩ := h.form
  obtain ⟨n, hn⟩ : ∃ n, o.length = n := ⟨_, rfl⟩
  rw [List.length_cons, hn] at h ⊢
  rw [hn] at h2 h96
  obtain ⟨a, rfl⟩ : ∃ a, ao = some a := by
    rcases h with ⟨h, _⟩ | ⟨a, _, h, _⟩
    · simp at h
    · simp only [Value.slice.injEq] at h; exact ⟨a, h.1⟩
  obtain ⟨hc1, hc2, hF, hO⟩ := h.tail hn
  have q0 : B w (w.alloc (.cells #[.int .i64 4, .string nm, .slice (some a) (n + 1) cap, .int .i64 v, .int .i64 m] 67)) := (B.refl w).alloc _ _
  have oS := obj_new w (.cells #[.int .i64 4, .string nm, .slice (some a) (n + 1) cap, .int .i64 v, .int .i64 m] 67)
  obtain ⟨fn, fr, fc⟩ := f
  obtain ⟨f0, f1, f2⟩ := hF.keepB q0
  simp only at f0 f1 f2
  have h1n : (1 : Int) ≤ (n : Int) + 1 := by omega
  have k2 := obj_cell oS 2
  have HO := Lib.hid (And.intro hO (And.intro hn (And.intro q0 (And.intro oS h))))
  have hbw := Lib.hid (Nat.le_refl w.heap.size)
  clear h hO hn hF q0 oS
  have hcap : ¬ cap = 1 := by omega
  go_enter Tryz.func87, Tryz.ntmps87
  go_wp2_with fail
  generalize w.alloc (.cells #[.int .i64 4, .string nm, .slice (some a) (n + 1) cap, .int .i64 v, .int .i64 m] 67) = w0 at *
  obtain ⟨S, hS⟩ : ∃ S, w.heap.size = S := ⟨_, rfl⟩
  simp only [hS] at k2 HO ⊢
  have qx : ∀ cs, B w0 (w0.alloc (.cells cs 39)) := fun cs => (B.refl _).alloc _ _
  have f0' := fun cs => (qx cs).keep f0
  have f1' := fun cs => (qx cs).keep f1
  have f2' := fun cs => (qx cs).keep f2
  have k2' := fun cs => (qx cs).keep k2
  go_region
  have oF := obj_new w0 (.cells #[.string fn, .int .i64 fr, .int .i64 fc] 39)
  have q1 := (qx #[.string fn, .int .i64 fr, .int .i64 fc]).drew
  have oS1 := q1.obj HO.out.2.2.2.1
  have hO1 := (HO.out.1.keepB HO.out.2.2.1).keepB q1
  have HB1 := Lib.hid (And.intro (HO.out.2.2.1.trans q1) (And.intro hS (And.intro hO1 (And.intro q1 HO.out.2.2.2.2))))
  have oF1 := (B.refl (w0.alloc (.cells #[.string fn, .int .i64 fr, .int .i64 fc] 39))).drew.obj oF
  clear f0 f1 f2 f0' f1' f2' k2 k2' qx q1 hS hO1 oF
  generalize (w0.alloc (.cells #[.string fn, .int .i64 fr, .int .i64 fc] 39)).drew = w1 at *
  generalize w0.heap.size = G at *
  have k01 := obj_cell oS1 0
  go_wp2_with fail
  go_loopw [5, 43] (fun lv iv wr => ∃ (i : Nat) (lo : Option Addr) (lc : Nat), i ≤ n ∧ iv = .int .i64 i ∧ lv = .slice lo i lc ∧ wr.ownsRow w1.heap.size 124 9 (.slice lo i lc) i (flatOp ((o.take i).map (fun x => opOf x ⟨fn, fr, fc⟩ v))) ∧ B w1 wr) (fun _ iv _ => n + 1 - (intOf iv).toNat)
  case atStart => exact ⟨0, none, 0, Nat.zero_le _, rfl, rfl, World.ownsRow_nil _ _ _ _, B.refl _⟩
  case round =>
    obtain ⟨i, lo, lc, hi, rfl, rfl, hown, q⟩ := hrel
    obtain ⟨wo, rfl⟩ : ∃ wo : World, wo = wr := ⟨_, rfl⟩
    by_cases hl : i < n
    · have hlB : decide ((i : Int) < (n : Int)) = true := decide_eq_true (by omega)
      have hlN : decide (i < n) = true := decide_eq_true hl
      have hlI : (i : Int) < (n : Int) := by omega
      have hi0' : (0 : Int) ≤ (i : Int) := by omega
      have wk1 : IntKind.i64.wrap ((i : Int) + 1) = (i : Int) + 1 := by rw [IntKind.wrap_i64]; omega
      have hl' : i < o.length := by rw [HO.out.2.1]; exact hl
      obtain ⟨ad, cap', e1, _, _, hr⟩ := (HB1.out.2.2.1.keepB q).at_ hl'
      rw [HO.out.2.1] at e1
      obtain ⟨rfl, rfl⟩ : (⟨a.block, a.off + 3, none⟩ : Addr) = ad ∧ cap - 1 = cap' := by simpa using e1
      obtain ⟨x, hx⟩ : ∃ x, o[i] = x := ⟨_, rfl⟩
      rw [hx] at hr
      have hgx : o[i]? = some x := by rw [List.getElem?_eq_getElem hl', hx]
      have htk := take_map_snoc (fun x => opOf x ⟨fn, fr, fc⟩ v) hgx
      obtain ⟨xn, xr, xc⟩ := x
      obtain ⟨y0, y1, y2⟩ := hr
      simp only [addP] at y0 y1 y2
      have qb : B wo (wo.alloc (.cells #[.string xn, .int .i64 xr, .int .i64 xc] 39)) := (B.refl _).alloc _ _
      have oX := obj_new wo (.cells #[.string xn, .int .i64 xr, .int .i64 xc] 39)
      have oS2 := (q.trans qb).obj oS1
      have oF2 := (q.trans qb).obj oF1
      have z0 := obj_cell oX 0
      have z1 := obj_cell oX 1
      have z2 := obj_cell oX 2
      have g0 := obj_cell oF2 0
      have g1 := obj_cell oF2 1
      have g2 := obj_cell oF2 2
      have k3 := obj_cell oS2 3
      have hown2 := row_keep hown qb
      have HX := Lib.hid (And.intro htk (And.intro hl (q.trans qb)))
      have hbb : w1.heap.size ≤ (wo.alloc (.cells #[.string xn, .int .i64 xr, .int .i64 xc] 39)).heap.size := (q.trans qb).below.size
      have hi95 : i ≤ 95 := by omega
      have hB3 : B w1 ((wo.alloc (.cells #[.string xn, .int .i64 xr, .int .i64 xc] 39)).alloc (.cells #[.string xn, .int .i64 xr, .int .i64 xc, .string fn, .int .i64 fr, .int .i64 fc, .int .i64 v, .string ⟨#[]⟩, .bool false] 124)) := (q.trans qb).alloc _ _
      have own3 := row_keep hown2 (((B.refl (wo.alloc (.cells #[.string xn, .int .i64 xr, .int .i64 xc] 39))).alloc #[.string xn, .int .i64 xr, .int .i64 xc, .string fn, .int .i64 fr, .int .i64 fc, .int .i64 v, .string ⟨#[]⟩, .bool false] 124))
      have hb3 := hB3.below.size
      have HB3 := Lib.hid hB3
      clear htk hl q qb hgx hx e1 hl' hi oX oS2 oF2 hown hB3 hown2
      go_wp2_with (at_builtin; refine wpList_append_lies _ rfl _ _ 68 rfl w1.heap.size 124 i0 _ 9 96 Tryz.underlying68 hi0 hz0 hz1 hz2 rfl (by omega) (.slice lo i lc) i _ rfl own3 ⟨_, 0, none⟩ 1 1 [.string xn, .int .i64 xr, .int .i64 xc, .string fn, .int .i64 fr, .int .i64 fc, .int .i64 v, .string ⟨#[]⟩, .bool false] rfl rfl (newest (by simp)) (fun u hu => by simp only [List.mem_cons, List.not_mem_nil, or_false] at hu; rcases hu with rfl | rfl | rfl | rfl | rfl | rfl | rfl | rfl | rfl <;> rfl) (by omega) (by unfold maxLen; omega) (by omega) hb3 _ rfl ?_; intro g1 c1 W4 hown4 hgrow4 hat4 hlt4; have hB4 := HB3.out.grownBy hgrow4 (fun x hx => (own3.lt x hx).1); clear hgrow4 hat4 hlt4 own3 hb3; replace hown4 := Lib.hid (And.intro hown4 hB4); clear hB4; go_wp2_with fail)
      refine ⟨⟨i + 1, some ⟨g1, 0, none⟩, c1, by have := HX.out.2.1; omega, by go_num, rfl, ?_, hown4.out.2⟩, by have := HX.out.2.1; simp [intOf]; omega⟩
      rw [HX.out.1, flatOp_snoc]
      exact hown4.out.1
    · have hlB : decide ((i : Int) < (n : Int)) = false := decide_eq_false (by omega)
      have hlN : decide (i < n) = false := decide_eq_false hl
      obtain rfl : i = n := by omega
      rw [List.take_of_length_le (by rw [HO.out.2.1]; exact Nat.le_refl _)] at hown
      have HZ := Lib.hid (And.intro (own_lowU (base' := w.heap.size) hown (by have := HB1.out.1.below.size; have := HB1.out.2.1; omega)) (HB1.out.1.trans q))
      clear hown q hi
      go_wp2
      go_ret
      exact ⟨lo, lc, rfl, HZ.out.1, HZ.out.2⟩
set_option maxRecDepth 100000 in
set_option maxHeartbeats 2000000 in
theorem moves6_any (f : Wp) (o : List Wp) (v : Int) (nm : ByteArray) (m : Int) (wsv : Value) (w : World) (h : IsWps w wsv (f :: o)) (h2 : 1 ≤ o.length) (h96 : o.length ≤ 95) :
    Calls Tryz.prog 87 #[.agg #[.int .i64 6, .string nm, wsv, .int .i64 v, .int .i64 m]] w fun e w' => ∃ lo lc, e = .returned (.slice lo o.length lc) ∧ w'.ownsRow w.heap.size 124 9 (.slice lo o.length lc) o.length (flatOp (List.zipWith (fun a b => opOf a b v) (f :: o) o)) ∧ B w w' := by
  obtain ⟨i0, hi0, hz0, hz1, hz2⟩ := info_of opIC
  obtain ⟨ao, cap, rfl⟩ := h.form
  obtain ⟨n, hn⟩ : ∃ n, o.length = n := ⟨_, rfl⟩
  rw [List.length_cons, hn] at h ⊢
  rw [hn] at h2 h96
  obtain ⟨a, rfl⟩ : ∃ a, ao = some a := by
    rcases h with ⟨h, _⟩ | ⟨a, _, h, _⟩
    · simp at h
    · simp only [Value.slice.injEq] at h; exact ⟨a, h.1⟩
  obtain ⟨hc1, hc2, hF, hO⟩ := h.tail hn
  have q0 : B w (w.alloc (.cells #[.int .i64 6, .string nm, .slice (some a) (n + 1) cap, .int .i64 v, .int .i64 m] 67)) := (B.refl w).alloc _ _
  have oS := obj_new w (.cells #[.int .i64 6, .string nm, .slice (some a) (n + 1) cap, .int .i64 v, .int .i64 m] 67)
  obtain ⟨fn, fr, fc⟩ := f
  obtain ⟨f0, f1, f2⟩ := hF.keepB q0
  simp only at f0 f1 f2
  have h1n : (1 : Int) ≤ (n : Int) + 1 := by omega
  have k2 := obj_cell oS 2
  have HO := Lib.hid (And.intro hO (And.intro hn (And.intro q0 (And.intro oS h))))
  have hbw := Lib.hid (Nat.le_refl w.heap.size)
  clear h hO hn hF q0 oS
  have hcap : ¬ cap = 1 := by omega
  go_enter Tryz.func87, Tryz.ntmps87
  go_wp2_with fail
  generalize w.alloc (.cells #[.int .i64 6, .string nm, .slice (some a) (n + 1) cap, .int .i64 v, .int .i64 m] 67) = w0 at *
  obtain ⟨S, hS⟩ : ∃ S, w.heap.size = S := ⟨_, rfl⟩
  simp only [hS] at k2 HO ⊢
  have qx : ∀ cs, B w0 (w0.alloc (.cells cs 39)) := fun cs => (B.refl _).alloc _ _
  have f0' := fun cs => (qx cs).keep f0
  have f1' := fun cs => (qx cs).keep f1
  have f2' := fun cs => (qx cs).keep f2
  have k2' := fun cs => (qx cs).keep k2
  go_region
  have oF := obj_new w0 (.cells #[.string fn, .int .i64 fr, .int .i64 fc] 39)
  have q1 := (qx #[.string fn, .int .i64 fr, .int .i64 fc]).drew
  have oS1 := q1.obj HO.out.2.2.2.1
  have hO1 := (HO.out.1.keepB HO.out.2.2.1).keepB q1
  have HB1 := Lib.hid (And.intro (HO.out.2.2.1.trans q1) (And.intro hS (And.intro hO1 (And.intro q1 HO.out.2.2.2.2))))
  have oF1 := (B.refl (w0.alloc (.cells #[.string fn, .int .i64 fr, .int .i64 fc] 39))).drew.obj oF
  clear f0 f1 f2 f0' f1' f2' k2 k2' qx q1 hS hO1 oF
  generalize (w0.alloc (.cells #[.string fn, .int .i64 fr, .int .i64 fc] 39)).drew = w1 at *
  generalize w0.heap.size = G at *
  have k01 := obj_cell oS1 0
  go_wp2_with fail
  go_loopw [5, 71] (fun lv iv wr => ∃ (i : Nat) (lo : Option Addr) (lc : Nat), i ≤ n ∧ iv = .int .i64 i ∧ lv = .slice lo i lc ∧ wr.ownsRow w1.heap.size 124 9 (.slice lo i lc) i (flatOp ((List.zipWith (fun a b => opOf a b v) (⟨fn, fr, fc⟩ :: o) o).take i)) ∧ B w1 wr) (fun _ iv _ => n + 1 - (intOf iv).toNat)
  case atStart => exact ⟨0, none, 0, Nat.zero_le _, rfl, rfl, World.ownsRow_nil _ _ _ _, B.refl _⟩
  case round =>
    obtain ⟨i, lo, lc, hi, rfl, rfl, hown, q⟩ := hrel
    obtain ⟨wo, rfl⟩ : ∃ wo : World, wo = wr := ⟨_, rfl⟩
    by_cases hl : i < n
    · have hlB : decide ((i : Int) < (n : Int)) = true := decide_eq_true (by omega)
      have hlN : decide (i < n) = true := decide_eq_true hl
      have hlI : (i : Int) < (n : Int) := by omega
      have hi0' : (0 : Int) ≤ (i : Int) := by omega
      have wk1 : IntKind.i64.wrap ((i : Int) + 1) = (i : Int) + 1 := by rw [IntKind.wrap_i64]; omega
      have hl' : i < o.length := by rw [HO.out.2.1]; exact hl
      obtain ⟨ad, cap', e1, _, _, hr⟩ := (HB1.out.2.2.1.keepB q).at_ hl'
      rw [HO.out.2.1] at e1
      obtain ⟨rfl, rfl⟩ : (⟨a.block, a.off + 3, none⟩ : Addr) = ad ∧ cap - 1 = cap' := by simpa using e1
      obtain ⟨x, hx⟩ : ∃ x, o[i] = x := ⟨_, rfl⟩
      rw [hx] at hr
      have hgx : o[i]? = some x := by rw [List.getElem?_eq_getElem hl', hx]
      obtain ⟨p, hp⟩ : ∃ p, ((⟨fn, fr, fc⟩ : Wp) :: o)[i]? = some p := ⟨_, List.getElem?_eq_getElem (by rw [List.length_cons]; omega)⟩
      have htk := zip_snoc v hp hgx
      have hpa := (((HB1.out.2.2.2.2.keepB HO.out.2.2.1).keepB HB1.out.2.2.2.1).keepB q).at_ (i := i) (by rw [List.length_cons]; omega)
      obtain ⟨xn, xr, xc⟩ := x
      obtain ⟨y0, y1, y2⟩ := hr
      simp only [addP] at y0 y1 y2
      have qb : B wo (wo.alloc (.cells #[.string xn, .int .i64 xr, .int .i64 xc] 39)) := (B.refl _).alloc _ _
      have oX := obj_new wo (.cells #[.string xn, .int .i64 xr, .int .i64 xc] 39)
      have oS2 := (q.trans qb).obj oS1
      have oF2 := (q.trans qb).obj oF1
      obtain ⟨a2, cap2, e2, _, _, hp2⟩ := hpa
      obtain rfl : a = a2 := by simp only [Value.slice.injEq, Option.some.injEq] at e2; exact e2.1
      rw [show ((⟨fn, fr, fc⟩ : Wp) :: o)[i]'(by rw [List.length_cons]; omega) = p by rw [List.getElem?_eq_getElem (by rw [List.length_cons]; omega)] at hp; simpa using hp] at hp2
      obtain ⟨pn, pr, pc⟩ := p
      obtain ⟨p0, p1, p2⟩ := hp2.keepB qb
      simp only at p0 p1 p2
      have z0 := obj_cell oX 0
      have z1 := obj_cell oX 1
      have z2 := obj_cell oX 2
      have k2 := obj_cell oS2 2
      have k3 := obj_cell oS2 3
      have hown2 := row_keep hown qb
      have HX := Lib.hid (And.intro htk (And.intro hl (q.trans qb)))
      have hi95 : i ≤ 95 := by omega
      have hiI : (i : Int) < (n : Int) + 1 := by omega
      clear htk hl q qb hgx hx e1 hl' hi oX oS2 oF2 hown hp hp2 e2
      go_wp2_with fail
      generalize wo.alloc (.cells #[.string xn, .int .i64 xr, .int .i64 xc] 39) = w9 at *
      generalize wo.heap.size = XB at *
      have qd : B w9 w9.drew := (B.refl _).drew
      refine wp_region_noPanic ?_
      refine wp_region_gate (S := fun w' => w'.cell? ⟨S, 2, none⟩ = some (.slice (some a) (n + 1) cap) ∧ w'.cell? ⟨S, 3, none⟩ = some (.int .i64 v) ∧ w'.cell? (a.add (i * 3)) = some (.string pn) ∧ w'.cell? ⟨(a.add (i * 3)).block, (a.add (i * 3)).off + 1, none⟩ = some (.int .i64 pr) ∧ w'.cell? ⟨(a.add (i * 3)).block, (a.add (i * 3)).off + 2, none⟩ = some (.int .i64 pc) ∧ w'.cell? ⟨XB, 0, none⟩ = some (.string xn) ∧ w'.cell? ⟨XB, 1, none⟩ = some (.int .i64 xr) ∧ w'.cell? ⟨XB, 2, none⟩ = some (.int .i64 xc) ∧ B w9 w') 11 [(0, 3), (1, 3), (2, 0), (3, 3), (4, 3), (5, 0), (6, 0), (7, 3), (8, 0), (9, 3), (10, 2), (11, 4), (12, 3)] [0, 0, 2, 0, 12, 16, 0, 0, 128, 352, 512, 1025, 4095] [0, 0, 2, 0, 12, 16, 0, 0, 128, 352, 512, 1025, 2049] [0, 0, 7732, 0, 0, 7712, 7744, 0, 7936, 0, 0, 0, 0] (by kernel_rfl) (by kernel_rfl) (fun _ _ _ _ _ h => h) ?_ (fun hH => ?_)
      · exact ⟨qd.keep k2, qd.keep k3, qd.keep p0, qd.keep p1, qd.keep p2, qd.keep z0, qd.keep z1, qd.keep z2, qd⟩
      refine wpSeqG_free (d := 76) (v := ?_) rfl rfl (by kernel_rfl) (fun w => ?_) ?_
      rotate_left
      · go_simp <;> with_reducible rfl
      dsimp only [List.set_cons_zero, List.set_cons_succ]
      refine wpSeqG_free (d := 77) (v := ?_) rfl rfl (by kernel_rfl) (fun w => ?_) ?_
      rotate_left
      · go_simp <;> with_reducible rfl
      dsimp only [List.set_cons_zero, List.set_cons_succ]
      refine wpSeqG_take (d := 78) (v := ?_) rfl rfl (by kernel_rfl) (fun w hS => ?_) ?_
      rotate_left
      · go_simp <;> with_reducible rfl
      dsimp only [List.set_cons_zero, List.set_cons_succ]
      refine wpSeqG_free (d := 79) (v := ?_) rfl rfl (by kernel_rfl) (fun w => ?_) ?_
      rotate_left
      · go_simp <;> with_reducible rfl
      dsimp only [List.set_cons_zero, List.set_cons_succ]
      refine wpSeqG_free (d := 80) (v := ?_) rfl rfl (by kernel_rfl) (fun w => ?_) ?_
      rotate_left
      · go_simp <;> with_reducible rfl
      dsimp only [List.set_cons_zero, List.set_cons_succ]
      refine wpSeqG_take (d := 81) (v := ?_) rfl rfl (by kernel_rfl) (fun w hS => ?_) ?_
      rotate_left
      · go_simp <;> with_reducible rfl
      dsimp only [List.set_cons_zero, List.set_cons_succ]
      refine wpSeqG_take (d := 82) (v := ?_) rfl rfl (by kernel_rfl) (fun w hS => ?_) ?_
      rotate_left
      · go_simp <;> with_reducible rfl
      dsimp only [List.set_cons_zero, List.set_cons_succ]
      refine wpSeqG_free (d := 83) (v := ?_) rfl rfl (by kernel_rfl) (fun w => ?_) ?_
      rotate_left
      · go_simp <;> with_reducible rfl
      dsimp only [List.set_cons_zero, List.set_cons_succ]
      refine wpSeqG_take (d := 84) (v := ?_) rfl rfl (by kernel_rfl) (fun w hS => ?_) ?_
      rotate_left
      · go_simp <;> with_reducible rfl
      dsimp only [List.set_cons_zero, List.set_cons_succ]
      refine wpSeqG_free (d := 85) (v := ?_) rfl rfl (by kernel_rfl) (fun w => ?_) ?_
      rotate_left
      · go_simp <;> with_reducible rfl
      dsimp only [List.set_cons_zero, List.set_cons_succ]
      refine wpSeqG_call rfl (by kernel_rfl) (fun K hK => ?_)
      go_simp
      refine hK.out _ _ ?_ (fun hH => ?_)
      · exact ⟨((B.refl _).alloc _ _).keep hH.1, ((B.refl _).alloc _ _).keep hH.2.1, ((B.refl _).alloc _ _).keep hH.2.2.1, ((B.refl _).alloc _ _).keep hH.2.2.2.1, ((B.refl _).alloc _ _).keep hH.2.2.2.2.1, ((B.refl _).alloc _ _).keep hH.2.2.2.2.2.1, ((B.refl _).alloc _ _).keep hH.2.2.2.2.2.2.1, ((B.refl _).alloc _ _).keep hH.2.2.2.2.2.2.2.1, hH.2.2.2.2.2.2.2.2.alloc _ _⟩
      clear hK
      refine wpSeqG_gate rfl (by kernel_rfl) (fun K hK => ?_)
      have qa9 : B w9 (w9.alloc (.cells #[.string pn, .int .i64 pr, .int .i64 pc, .string xn, .int .i64 xr, .int .i64 xc, .int .i64 v, .string ⟨#[]⟩, .bool false] 124)).drew := ((B.refl w9).alloc _ _).drew
      refine wp_append_lies _ _ _ 68 rfl w1.heap.size 124 i0 (.agg #[.string ⟨#[]⟩, .int .i64 0, .int .i64 0, .string ⟨#[]⟩, .int .i64 0, .int .i64 0, .int .i64 0, .string ⟨#[]⟩, .bool false]) 9 96 Tryz.underlying68 hi0 hz0 hz1 hz2 rfl (by omega) (.slice lo i lc) i _ rfl (row_keep hown2 qa9) ⟨w9.heap.size, 0, none⟩ 1 1 [.string pn, .int .i64 pr, .int .i64 pc, .string xn, .int .i64 xr, .int .i64 xc, .int .i64 v, .string ⟨#[]⟩, .bool false] rfl rfl (fun j u hj => (B.refl _).drew.keep (newest rfl j u hj)) (fun u hu => by simp only [List.mem_cons, List.not_mem_nil, or_false] at hu; rcases hu with rfl | rfl | rfl | rfl | rfl | rfl | rfl | rfl | rfl <;> rfl) (by omega) (by unfold maxLen; omega) (by omega) (HX.out.2.2.trans qa9).below.size _ rfl ?_
      intro g1 c1 W4 hown4 hgrow4 hat4 hlt4
      have hB4 := (HX.out.2.2.trans qa9).grownBy hgrow4 (fun x hx => ((row_keep hown2 qa9).lt x hx).1)
      clear hgrow4 hat4 hlt4
      replace hown4 := Lib.hid (And.intro hown4 hB4)
      clear hB4 qa9
      try simp only [Act.put, List.setIfInBounds_toArray, List.set_cons_zero, List.set_cons_succ]
      refine hK.out _ _ ?_
      clear hK
      refine wpSeqG_free (d := 5) (v := ?_) rfl rfl (by kernel_rfl) (fun w => ?_) ?_
      rotate_left
      · go_simp <;> with_reducible rfl
      dsimp only [List.set_cons_zero, List.set_cons_succ]
      refine wpSeqG_done ?_
      refine NoPanic.normal ?_
      go_wp2
      go_roundw
      case rel =>
        refine ⟨i + 1, some ⟨g1, 0, none⟩, c1, by have := HX.out.2.1; omega, by go_num, rfl, ?_, hown4.out.2⟩
        rw [HX.out.1, flatOp_snoc]
        exact hown4.out.1
      case measure => have := HX.out.2.1; simp [intOf]; omega
    · have hlB : decide ((i : Int) < (n : Int)) = false := decide_eq_false (by omega)
      have hlN : decide (i < n) = false := decide_eq_false hl
      obtain rfl : i = n := by omega
      rw [List.take_of_length_le (by rw [List.length_zipWith, List.length_cons, HO.out.2.1]; omega)] at hown
      have HZ := Lib.hid (And.intro (own_lowU (base' := w.heap.size) hown (by have := HB1.out.1.below.size; have := HB1.out.2.1; omega)) (HB1.out.1.trans q))
      clear hown q hi
      go_wp2
      go_ret
      exact ⟨lo, lc, rfl, HZ.out.1, HZ.out.2⟩
end Go.Proofs.YtjdkhobkdlldnaaGreatDoor

namespace Go.Proofs.YtjdkhobkdlldnaaGreatDoor
open Go.RowKit
set_option linter.unusedVariables false
theorem step_nat {s : Sp} (h : stepOk s = true) (h0 : s.k ≠ 0) (h1 : s.k ≠ 1) : ((s.k = 2 ∨ s.k = 3) ∧ 2 ≤ s.w.length ∧ s.w.length ≤ 96) ∨ (s.k = 4 ∧ 2 ≤ s.w.length ∧ s.w.length ≤ 96) ∨ (s.k = 5 ∧ s.w.length = 1 ∧ 1 ≤ s.m ∧ s.m ≤ 20) ∨ (s.k = 6 ∧ 2 ≤ s.w.length ∧ s.w.length ≤ 96) := by
  unfold stepOk at h
  have h2 := (Bool.and_eq_true_iff.1 h).2
  unfold stepK at h2
  rw [if_neg h0, if_neg h1] at h2
  by_cases h5 : s.k = 5
  · rw [if_pos h5] at h2
    simp only [Bool.and_eq_true, decide_eq_true_eq, inB] at h2
    obtain ⟨⟨⟨_, hl⟩, _⟩, hm⟩ := h2
    exact .inr (.inr (.inl ⟨h5, hl, hm.1, hm.2⟩))
  · rw [if_neg h5] at h2
    split at h2
    · rename_i hk
      simp only [Bool.and_eq_true, decide_eq_true_eq] at h2
      obtain ⟨⟨_, hl⟩, hl2⟩ := h2.1
      omega
    · cases h2
theorem moves_any (k v m : Int) (nm : ByteArray) (W : List Wp) (wsv : Value) (w : World) (h : IsWps w wsv W) (hok : stepOk ⟨k, nm, W, v, m⟩ = true) (h0 : k ≠ 0) (h1 : k ≠ 1) :
    Calls Tryz.prog 87 #[.agg #[.int .i64 k, .string nm, wsv, .int .i64 v, .int .i64 m]] w fun e w' => ∃ lo n lc, e = .returned (.slice lo n lc) ∧ n = (movesS ⟨k, nm, W, v, m⟩).length ∧ w'.ownsRow w.heap.size 124 9 (.slice lo n lc) n (flatOp (movesS ⟨k, nm, W, v, m⟩)) ∧ B w w' := by
  have hs := step_nat hok h0 h1
  simp only at hs
  match W, h, hs with
  | [], _, hs => simp at hs
  | f :: o, h, hs =>
    simp only [List.length_cons] at hs
    rcases hs with ⟨hk, a1, a2⟩ | ⟨rfl, a1, a2⟩ | ⟨rfl, a1, a2, a3⟩ | ⟨rfl, a1, a2⟩
    · refine (moves23_any k hk f o v nm m wsv w h (by omega) (by omega)).mono ?_
      rintro e w' ⟨lo, lc, rfl, h1, h2⟩
      have e1 : movesS ⟨k, nm, f :: o, v, m⟩ = o.map fun x => opOf f x v := by unfold movesS; simp only; rw [if_pos hk]
      rw [e1]
      exact ⟨lo, o.length, lc, rfl, by rw [List.length_map], h1, h2⟩
    · refine (moves4_any f o v nm m wsv w h (by omega) (by omega)).mono ?_
      rintro e w' ⟨lo, lc, rfl, h1, h2⟩
      exact ⟨lo, o.length, lc, rfl, by show _ = (o.map fun x => opOf x f v).length; rw [List.length_map], h1, h2⟩
    · obtain rfl : o = [] := List.length_eq_zero_iff.1 (by omega)
      obtain ⟨N, rfl⟩ : ∃ N : Nat, m = (N : Int) := ⟨m.toNat, by omega⟩
      refine (moves5_any f v nm N (by omega) (by omega) wsv w h).mono ?_
      rintro e w' ⟨lo, lc, rfl, h1, h2⟩
      have e1 : movesS ⟨5, nm, [f], v, (N : Int)⟩ = List.replicate N (opOf f f v) := by
        show List.replicate (N : Int).toNat _ = _
        rw [Int.toNat_natCast]
      rw [e1]
      exact ⟨lo, N, lc, rfl, by rw [List.length_replicate], h1, h2⟩
    · refine (moves6_any f o v nm m wsv w h (by omega) (by omega)).mono ?_
      rintro e w' ⟨lo, lc, rfl, h1, h2⟩
      refine ⟨lo, o.length, lc, rfl, ?_, h1, h2⟩
      show _ = (List.zipWith (fun a b => opOf a b v) (f :: o) o).length
      rw [List.length_zipWith, List.length_cons]
      omega
theorem own_other {w : World} {base : Nat} {e : TypeId} {size n : Nat} {v : Value} {xs : List Value} (h : w.ownsRow base e size v n xs) {g : Nat} (hne : v.ownBlock ≠ some g) (k : Nat) (x : Value) : (w.setCell ⟨g, k, none⟩ x).ownsRow base e size v n xs := by
  refine ⟨h.1, ?_⟩
  rcases h.2 with hn | ⟨g', cap, cur, rfl, hb, ho, rest⟩
  · exact .inl hn
  · exact .inr ⟨g', cap, cur, rfl, hb, obj_other ho (by simpa [Value.ownBlock] using hne) _, rest⟩
theorem WorkM.other {w : World} {base W : Nat} {wv tv fv ov sv : Value} {st : XSt} (h : WorkM w base W wv tv fv st ov sv) {g : Nat} {cs : Array Value} (ho : w.heap[g]? = some (.cells cs 124 (0, 0))) (hne : ov.ownBlock ≠ some g) (k : Nat) (x : Value) : WorkM (w.setCell ⟨g, k, none⟩ x) base W wv tv fv st ov sv :=
  ⟨obj_other h.obj (fun e => by subst e; rw [h.obj] at ho; cases ho) _, own_other h.ro hne _ _, ownsRow_set h.rs ho (by decide) _ _, h.hb⟩
theorem tag_snoc {t : ByteArray} {fr : Bool} {M : List Opx} {i : Nat} {x : Opx} (hx : M[i]? = some x) (hl : ((M.take i).map (tag1 t fr)).length = i) : ((M.take i).map (tag1 t fr) ++ M.drop i).set i (tag1 t fr x) = (M.take (i + 1)).map (tag1 t fr) ++ M.drop (i + 1) := by
  have h1 := (List.getElem?_eq_some_iff.1 hx).1
  rw [List.drop_eq_getElem_cons h1, (List.getElem?_eq_some_iff.1 hx).2, List.set_append_right _ _ (by omega), hl, Nat.sub_self, List.set_cons_zero, List.take_add_one, hx]
  simp
theorem tagX_eq {t : ByteArray} {fr ch : Bool} {M : List Opx} {x : Opx} (hx : M[0]? = some x) : (M.map (tag1 t fr)).set 0 (tag1 t (fr || ch) x) = tagX t fr ch M := by
  match M, hx with
  | y :: M, hx =>
    obtain rfl : y = x := by simpa using hx
    rfl
end Go.Proofs.YtjdkhobkdlldnaaGreatDoor
