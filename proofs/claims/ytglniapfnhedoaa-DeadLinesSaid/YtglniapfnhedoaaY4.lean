/-
  Contracts of layer 3: the height of a shape; The statements' shapes of a number; Sections in memory that a call owns: facts for walks; The document's own tables: made of a shape; The document's own tables: of any shape; The code's tables lie in blocks that are known. No program is named here; Layer 4: the code's tables: made of a shape; The code's own tables: how many slices, how high; Layer 4: the code's tables: how many slices, how high, upper sums; The code's own tables: lower sums.
-/
import Derived.Test.YtglniapfnhedoaaChecked
import Derived.OwnWalk
import Derived.Laws.OwnMore
import Derived.Deep.AppendLies
import Derived.KernelRfl
import Derived.Deep.CutRange
import Derived.Lib.MinMax
import Derived.Test.YtglniapfnhedoaaY1
import Derived.Test.YtglniapfnhedoaaY2
import Derived.Test.YtglniapfnhedoaaY3
namespace Go.Proofs.Ytglniapfnhedoaa
open Go.RowKit
def HeightC : Prop := ∀ (v : Value) (l : List Sec) (w : World), IsSecs w v l → rightS l = true → Calls Try.prog 22 #[v] w fun e w' => e = .returned (.int .i64 (hsumI l l.length)) ∧ B w w'
set_option maxHeartbeats 1000000 in
theorem height_code : HeightC := by
  intro v l w hv hr
  obtain ⟨hl1, hl4, hok⟩ := right_all hr
  have hsm : ∀ k, k ≤ l.length → 0 ≤ hsumI l k ∧ hsumI l k ≤ 240000 := fun k hk => by
    have h := hsum_small l k (by unfold okTo; rw [List.all_eq_true]; exact fun s hs => hok s (List.mem_of_mem_take hs))
    omega
  rcases hv with ⟨rfl, rfl⟩ | ⟨a, cap, rfl, h2, h3, h4⟩
  · simp at hl1
  clear hr hok hl1 h2 h3
  go_enter Try.func22, Try.ntmps22
  go_wp2
  go_loopw [3, 8] (fun hh i wr => ∃ (k : Nat), k ≤ l.length ∧ i = .int .i64 k ∧ hh = .int .i64 (hsumI l k) ∧ Q w wr) (fun _ i _ => l.length - (intOf i).toNat)
  case atStart => exact ⟨0, Nat.zero_le _, rfl, rfl, Q.refl w⟩
  case round =>
    obtain ⟨k, hk, rfl, rfl, hq⟩ := hrel
    by_cases hl : k < l.length
    · have hlB : decide (k < l.length) = true := decide_eq_true hl
      have hg := List.getElem?_eq_getElem hl
      have hs := (h4 k _ hg).2.keep hq
      have hsu := hsumI_succ l k _ hg
      obtain ⟨m1, m2⟩ := hsm (k + 1) (by omega)
      rw [hsu] at m1 m2
      clear h4 hsm
      generalize l[k] = s at *
      generalize hsumI l k = t at *
      obtain ⟨f0, f1, f2, f3, f4, f5⟩ := hs
      have HS := Lib.hid hsu
      have HM := Lib.hid hg
      clear hsu hg
      have e1 : IntKind.i64.wrap (t + s.h) = t + s.h := wrapI (by omega) (by omega)
      go_wp2
      go_roundw
      case rel => exact ⟨k + 1, by omega, by go_num, by rw [HS.out], hq.alloc _ _⟩
      case measure => simp [intOf]; omega
    · have hlB : decide (k < l.length) = false := decide_eq_false hl
      obtain rfl : k = l.length := by omega
      clear h4 hsm
      go_wp2
      go_ret
      exact ⟨rfl, hq.b⟩
end Go.Proofs.Ytglniapfnhedoaa

namespace Go.Proofs.Ytglniapfnhedoaa
open Go.RowKit
/-- The shape of a number. -/
def shapeOf : Nat → List Sec
  | 0 => [⟨true, 10000, 7000, 0, 7000, 0⟩]
  | 1 => [⟨true, 3000, 0, 0, 6000, 0⟩, ⟨true, 9000, 6000, 0, 6500, 0⟩]
  | 2 => [⟨false, 20000, 8000, 8000, 8400, 8400⟩]
  | 3 => [⟨false, 4000, 7000, 0, 7000, 7000⟩, ⟨false, 8000, 7000, 7000, 7000, 7000⟩]
  | 4 => [⟨true, 1800, 5000, 0, 5000, 0⟩]
  | _ => [⟨true, 2000, 1000, 0, 5200, 0⟩, ⟨true, 500, 5200, 0, 4800, 0⟩, ⟨true, 11500, 4800, 0, 7000, 0⟩]
/-- A shape is answered, in new memory. -/
def Shaped (l : List Sec) (w : World) (e : Ending) (w' : World) : Prop := ∃ v, e = .returned v ∧ IsSecs w' v l ∧ Q w w'
/-- Its numbers fit. -/
def fitsB (l : List Sec) : Bool := l.all fun s => decide (I64 s.h) && decide (I64 s.a0) && decide (I64 s.b0) && decide (I64 s.a1) && decide (I64 s.b1)
theorem fitsB_I {l : List Sec} (h : fitsB l = true) : ∀ s ∈ l, s.I := by
  intro s hs
  have := List.all_eq_true.1 h s hs
  simp only [Bool.and_eq_true, decide_eq_true_eq] at this
  exact ⟨this.1.1.1.1, this.1.1.1.2, this.1.1.2, this.1.2, this.2⟩
theorem shape_pick (w : World) (m : Nat) (h : m < 6) : ∃ V, [Value.slice (some ⟨w.heap.size, 0, none⟩) 1 1, Value.slice (some ⟨w.heap.size + 1, 0, none⟩) 2 2, Value.slice (some ⟨w.heap.size + 1 + 1, 0, none⟩) 1 1, Value.slice (some ⟨w.heap.size + 1 + 1 + 1, 0, none⟩) 2 2, Value.slice (some ⟨w.heap.size + 1 + 1 + 1 + 1, 0, none⟩) 1 1, Value.slice (some ⟨w.heap.size + 1 + 1 + 1 + 1 + 1, 0, none⟩) 3 3][m]? = some V := by
  match m, h with
  | 0, _ => exact ⟨_, rfl⟩
  | 1, _ => exact ⟨_, rfl⟩
  | 2, _ => exact ⟨_, rfl⟩
  | 3, _ => exact ⟨_, rfl⟩
  | 4, _ => exact ⟨_, rfl⟩
  | 5, _ => exact ⟨_, rfl⟩
set_option maxHeartbeats 4000000 in
theorem shape_any (k : Int) (h1 : 0 ≤ k) (h2 : k ≤ 255) (w : World) :
    Calls Try.prog 7 #[.int .u8 k] w (Shaped (shapeOf (k % 6).toNat) w) := by
  obtain ⟨V, hp⟩ := shape_pick w (k % 6).toNat (by omega)
  have HP := Lib.hid hp
  have hm : (k % 6).toNat < 6 := by omega
  have HM := Lib.hid hm
  clear hm
  go_enter Try.func7, Try.ntmps7
  go_wp2
  go_ret
  refine ⟨V, rfl, ?_, ?_⟩
  · clear hp h1 h2
    have hp := HP.out
    have hm := HM.out
    clear HP HM
    generalize (k % 6).toNat = m at *
    match m, hm with
    | 0, _ =>
      obtain rfl : Value.slice (some ⟨w.heap.size, 0, none⟩) 1 1 = V := Option.some.inj hp
      exact (isSecs_new (l := shapeOf 0) rfl (by simp) (fitsB_I (by decide)) (by decide) (by decide)).keep (((((((Q.refl _).alloc _ _).alloc _ _).alloc _ _).alloc _ _).alloc _ _).alloc _ _)
    | 1, _ =>
      obtain rfl : Value.slice (some ⟨w.heap.size + 1, 0, none⟩) 2 2 = V := Option.some.inj hp
      exact (isSecs_new (l := shapeOf 1) rfl (by simp) (fitsB_I (by decide)) (by decide) (by decide)).keep ((((((Q.refl _).alloc _ _).alloc _ _).alloc _ _).alloc _ _).alloc _ _)
    | 2, _ =>
      obtain rfl : Value.slice (some ⟨w.heap.size + 1 + 1, 0, none⟩) 1 1 = V := Option.some.inj hp
      exact (isSecs_new (l := shapeOf 2) rfl (by simp) (fitsB_I (by decide)) (by decide) (by decide)).keep (((((Q.refl _).alloc _ _).alloc _ _).alloc _ _).alloc _ _)
    | 3, _ =>
      obtain rfl : Value.slice (some ⟨w.heap.size + 1 + 1 + 1, 0, none⟩) 2 2 = V := Option.some.inj hp
      exact (isSecs_new (l := shapeOf 3) rfl (by simp) (fitsB_I (by decide)) (by decide) (by decide)).keep ((((Q.refl _).alloc _ _).alloc _ _).alloc _ _)
    | 4, _ =>
      obtain rfl : Value.slice (some ⟨w.heap.size + 1 + 1 + 1 + 1, 0, none⟩) 1 1 = V := Option.some.inj hp
      exact (isSecs_new (l := shapeOf 4) rfl (by simp) (fitsB_I (by decide)) (by decide) (by decide)).keep (((Q.refl _).alloc _ _).alloc _ _)
    | 5, _ =>
      obtain rfl : Value.slice (some ⟨w.heap.size + 1 + 1 + 1 + 1 + 1, 0, none⟩) 3 3 = V := Option.some.inj hp
      exact (isSecs_new (l := shapeOf 5) rfl (by simp) (fitsB_I (by decide)) (by decide) (by decide)).keep ((Q.refl _).alloc _ _)
  · exact ((((((((Q.refl _).alloc _ _).alloc _ _).alloc _ _).alloc _ _).alloc _ _).alloc _ _).alloc _ _)
end Go.Proofs.Ytglniapfnhedoaa

namespace Go.Proofs.Ytglniapfnhedoaa
open Go.RowKit
theorem secs_own {w : World} {base : Nat} {e : TypeId} {ao : Option Addr} {k c : Nat} {l : List Sec} (h : w.ownsRow base e 6 (.slice ao k c) k (flat l)) (hl : l.length = k) (hk : 0 < k) (hI : ∀ s ∈ l, s.I) : IsSecs w (.slice ao k c) l := by
  have hh := h
  rcases hh.2 with ⟨_, h0⟩ | ⟨g, cap, cur, hv, _, _, h1, h2, _⟩
  · omega
  · simp only [Value.slice.injEq] at hv
    obtain ⟨rfl, _, rfl⟩ := hv
    subst hl
    exact isSecs_cells hI h1 h2 (fun j u hj => by have := h.cells (g := g) rfl j u hj; rwa [add0] at this)
theorem secInfo : (Try.prog.info? 49).map (fun i => (i.zero, i.size, i.bytes)) = some (some (.agg #[.bool false, .int .i64 0, .int .i64 0, .int .i64 0, .int .i64 0, .int .i64 0]), 6, 48) := by kernel_rfl
theorem u8_wf {k : Int} (w : (Lit.int .u8 k).wf = true) : 0 ≤ k ∧ k ≤ 255 := by
  simp [Lit.wf, IntKind.min, IntKind.max, IntKind.signed, IntKind.bits] at w
  omega
theorem shape_right : ∀ m : Nat, rightS (shapeOf m) = true
  | 0 => by decide
  | 1 => by decide
  | 2 => by decide
  | 3 => by decide
  | 4 => by decide
  | n + 5 => by rw [show shapeOf (n + 5) = shapeOf 5 from rfl]; decide
theorem IsSecs.form {w : World} {v : Value} {l : List Sec} (h : IsSecs w v l) : ∃ ao n cap, v = .slice ao n cap := by
  rcases h with ⟨rfl, rfl⟩ | ⟨a, cap, rfl, _⟩
  · exact ⟨_, _, _, rfl⟩
  · exact ⟨_, _, _, rfl⟩
theorem news_plain {w : World} {cs : Array Value} {t : TypeId} {H : Nat} (hH : w.heap.size = H) : ∀ j u, cs.toList[j]? = some u → (w.alloc (.cells cs t)).cell? ((⟨H, 0, none⟩ : Addr).add j) = some u := by
  intro j u h
  rw [add0]
  subst hH
  rw [World.cell?_alloc_new]
  simpa using h
theorem flat_snoc (l : List Sec) (s : Sec) : flat (l ++ [s]) = flat l ++ s.cells := by simp [flat]
/-- Two right shapes stand in a block. -/
def TwoS (w : World) (b : Nat) : Prop := ∀ m : Nat, m < 2 → ∃ v l, w.cell? ⟨b, m, none⟩ = some v ∧ IsSecs w v l ∧ rightS l = true
theorem twoS_new (w : World) (t : TypeId) (x y : Value) (lx ly : List Sec) (hx : IsSecs w x lx) (hy : IsSecs w y ly) (rx : rightS lx = true) (ry : rightS ly = true) :
    TwoS (w.alloc (.cells #[x, y] t)) w.heap.size := by
  intro m hm
  rw [World.cell?_alloc_new]
  match m, hm with
  | 0, _ => exact ⟨_, lx, rfl, hx.keepB ((B.refl w).alloc _ _), rx⟩
  | 1, _ => exact ⟨_, ly, rfl, hy.keepB ((B.refl w).alloc _ _), ry⟩
theorem TwoS.keep {w w' : World} {b : Nat} (h : TwoS w b) (q : B w w') : TwoS w' b := fun m hm => by
  obtain ⟨v, l, h1, h2, h3⟩ := h m hm
  exact ⟨v, l, q.keep h1, h2.keepB q, h3⟩
theorem u16_wf {k : Int} (w : (Lit.int .u16 k).wf = true) : 0 ≤ k ∧ k ≤ 65535 := by
  simp [Lit.wf, IntKind.min, IntKind.max, IntKind.signed, IntKind.bits] at w
  omega
end Go.Proofs.Ytglniapfnhedoaa

namespace Go.Proofs.Ytglniapfnhedoaa
open Go.RowKit
theorem i64_info : ∃ i, Try.prog.info? 2 = some i ∧ i.zero = some (.int .i64 0) ∧ i.size = 1 ∧ i.bytes = 8 :=
  Go.info_parts (by kernel_rfl)
set_option maxRecDepth 100000 in
set_option maxHeartbeats 16000000 in
theorem r3of_row (a : Addr) (cap : Nat) (l : List Sec) (w : World) (h4 : ∀ i s, l[i]? = some s → s.I ∧ SecAt w (a.add (i * 6)) s) (hr : rightS l = true) (cR : ∀ w', B w w' → Calls Try.prog 19 #[.slice (some a) l.length cap] w' fun e w'' => e = .returned (.bool true) ∧ Q w' w'') :
    Calls Try.prog 10 #[.slice (some a) l.length cap] w fun e w' => ∃ p, e = .returned (.tuple #[p, .bool true]) ∧ Held (fun w => RTab w p (slAll l)) w.heap.size w'.heap.size w' ∧ B w w' := by
  obtain ⟨hl1, hl4, hok⟩ := right_all hr
  obtain ⟨i0, hi0, hz0, hz1, hz2⟩ := i64_info
  have hbnd := slAll_bnd hok
  have hnum := slAll_len l hok
  have hsum : hsumI l l.length ≤ 60000 := by
    unfold rightS at hr
    simp only [Bool.and_eq_true, decide_eq_true_eq] at hr
    exact hr.2
  have hlen : (slAll l).length ≤ 600 := by omega
  clear hr hnum hsum
  go_enter Try.func10, Try.ntmps10
  go_wp2_with fail
  refine (cR _ (B.refl w)).mono ?_
  rintro e W1 ⟨rfl, g1⟩
  replace g1 := g1.b
  clear cR
  go_wp2
  obtain ⟨tL, tH⟩ := table_start W1 w.heap.size 2 56 g1.below.size
  have gF := ((g1.alloc #[.int .i64 0] 2).alloc #[.int .i64 0] 2).alloc #[.slice (some ⟨W1.heap.size, 0, none⟩) 1 1, .slice (some ⟨W1.heap.size + 1, 0, none⟩) 1 1] 56
  generalize ((W1.alloc (.cells #[.int .i64 0] 2)).alloc (.cells #[.int .i64 0] 2)).alloc (.cells #[.slice (some ⟨W1.heap.size, 0, none⟩) 1 1, .slice (some ⟨W1.heap.size + 1, 0, none⟩) 1 1] 56) = WF at *
  obtain ⟨bt, hbt⟩ : ∃ bt, W1.heap.size + 1 + 1 = bt := ⟨_, rfl⟩
  rw [hbt] at tL tH
  try rw [hbt]
  have hLH : W1.heap.size ≠ W1.heap.size + 1 := by omega
  generalize W1.heap.size + 1 = gH0 at *
  generalize W1.heap.size = gL0 at *
  obtain ⟨BB, hBB⟩ : ∃ BB, w.heap.size = BB := ⟨_, rfl⟩
  rw [hBB] at tL tH
  clear g1 hbt
  have H4 := Lib.hid h4
  have HTL := Lib.hid tL
  have HTH := Lib.hid tH
  clear h4 tL tH
  go_loopw [5] (fun i wr => ∃ (k gL cL gH cH : Nat), k ≤ l.length ∧ i = .int .i64 k ∧ Half wr BB bt 0 2 gL cL (lowCells (slAll (l.take k))) ∧ Half wr BB bt 1 2 gH cH (highCells (slAll (l.take k))) ∧ gL ≠ gH ∧ B w wr) (fun i _ => l.length - (intOf i).toNat)
  case atStart => exact ⟨0, gL0, 1, gH0, 1, Nat.zero_le _, rfl, HTL.out, HTH.out, hLH, gF⟩
  case round =>
    clear HTL HTH
    obtain ⟨k, gL, cL, gH, cH, hk, rfl, tL, tH, hLH', gq⟩ := hrel
    by_cases hl : k < l.length
    · have hlB : decide (k < l.length) = true := decide_eq_true hl
      have hlI : (k : Int) < (l.length : Int) := by omega
      have hg := List.getElem?_eq_getElem hl
      obtain ⟨hI, hs⟩ := H4.out k _ hg
      have hsk := hok _ (List.getElem_mem hl)
      have hsplit : slAll (l.take (k + 1)) = slAll (l.take k) ++ slOf l[k] := by
        rw [List.take_add_one, hg, slAll_append]; simp [slAll]
      have hpre : (slAll (l.take (k + 1))).length ≤ 600 := by
        have e : slAll l = slAll (l.take (k + 1)) ++ slAll (l.drop (k + 1)) := by rw [← slAll_append, List.take_append_drop]
        rw [e, List.length_append] at hlen
        omega
      have hbk : ∀ x ∈ slAll (l.take (k + 1)), Bnd x := slAll_bnd (fun s hs => hok s (List.mem_of_mem_take hs))
      rw [hsplit] at hpre hbk
      generalize slAll (l.take k) = MK at *
      generalize l[k] = s at *
      obtain ⟨r, h, a0, b0, a1, b1⟩ := s
      obtain ⟨hh1, hh2⟩ := secOk_h _ hsk
      have hmod := secOk_mod hsk
      have hsl : (slOf ⟨r, h, a0, b0, a1, b1⟩).length = (h / 100).toNat := slOf_len _
      have hget : ∀ j : Nat, j < (h / 100).toNat → (slOf ⟨r, h, a0, b0, a1, b1⟩)[j]? = some (100 * lowA ⟨r, h, a0, b0, a1, b1⟩ (100 * (j : Int)), 100 * highA ⟨r, h, a0, b0, a1, b1⟩ (100 * (j : Int))) := fun j hj => by
        unfold slOf
        rw [List.getElem?_map, List.getElem?_range hj]
        rfl
      have hbnds := fun (t : Int) ht => slice_bounds hsk t ht
      have hsin := fun (t : Int) up => sideOf_in hsk t up
      have hlow : ∀ t : Int, lowA ⟨r, h, a0, b0, a1, b1⟩ t = areaM r (min (sideOf ⟨r, h, a0, b0, a1, b1⟩ t false).1 (sideOf ⟨r, h, a0, b0, a1, b1⟩ (t + 100) false).1) (min (sideOf ⟨r, h, a0, b0, a1, b1⟩ t false).2 (sideOf ⟨r, h, a0, b0, a1, b1⟩ (t + 100) false).2) false := fun _ => rfl
      have hhigh : ∀ t : Int, highA ⟨r, h, a0, b0, a1, b1⟩ t = areaM r (max (sideOf ⟨r, h, a0, b0, a1, b1⟩ t true).1 (sideOf ⟨r, h, a0, b0, a1, b1⟩ (t + 100) true).1) (max (sideOf ⟨r, h, a0, b0, a1, b1⟩ t true).2 (sideOf ⟨r, h, a0, b0, a1, b1⟩ (t + 100) true).2) true := fun _ => rfl
      generalize slOf ⟨r, h, a0, b0, a1, b1⟩ = SL at *
      simp only at hh1 hh2 hmod
      have HK1 := Lib.hid hsplit
      clear hsplit
      go_wp2
      have HL := Lib.hid tL
      have HH := Lib.hid tH
      have HOK := Lib.hid (And.intro hok hbnd)
      have HG := Lib.hid hg
      clear tL tH hok hbnd hg
      obtain ⟨wo, rfl⟩ : ∃ wo : World, wo = wr := ⟨_, rfl⟩
      go_loopw [6] (fun i wr => ∃ (j gL cL gH cH : Nat), j ≤ (h / 100).toNat ∧ i = .int .i64 (100 * (j : Int)) ∧ Half wr BB bt 0 2 gL cL (lowCells (MK ++ SL.take j)) ∧ Half wr BB bt 1 2 gH cH (highCells (MK ++ SL.take j)) ∧ gL ≠ gH ∧ B w wr) (fun i _ => (h / 100).toNat - ((intOf i) / 100).toNat)
      case atStart => exact ⟨0, gL, cL, gH, cH, Nat.zero_le _, rfl, by simpa using HL.out, by simpa using HH.out, hLH', gq⟩
      case round =>
        clear HL HH
        obtain ⟨j, gL, cL, gH, cH, hj, rfl, tL, tH, hLH', gq⟩ := hrel
        obtain ⟨f0, f1, f2, f3, f4, f5⟩ := hs.keepB gq
        simp only at f0 f1 f2 f3 f4 f5
        by_cases hjl : j < (h / 100).toNat
        · have hjB : decide (100 * (j : Int) < h) = true := decide_eq_true (by omega)
          have hgj := hget j hjl
          have hMM : MK ++ SL.take (j + 1) = (MK ++ SL.take j) ++ [(100 * lowA ⟨r, h, a0, b0, a1, b1⟩ (100 * (j : Int)), 100 * highA ⟨r, h, a0, b0, a1, b1⟩ (100 * (j : Int)))] := by
            rw [List.take_add_one, hgj]; simp
          have hMl : (MK ++ SL.take j).length ≤ 599 := by
            rw [List.length_append, List.length_take]
            rw [List.length_append] at hpre
            omega
          have hbM : ∀ x ∈ MK ++ SL.take j, Bnd x := fun x hx => hbk x (by
            rcases List.mem_append.1 hx with h | h
            · exact List.mem_append.2 (.inl h)
            · exact List.mem_append.2 (.inr (List.mem_of_mem_take h)))
          obtain ⟨hb1, hb2, hb3⟩ := table_bnd hbM (MK ++ SL.take j).length
          have HRel := Lib.hid hMM
          clear hMM hgj hbM
          obtain ⟨T, hT⟩ : ∃ T : Int, 100 * (j : Int) = T := ⟨_, rfl⟩
          obtain ⟨n, hn⟩ : ∃ n, (MK ++ SL.take j).length = n := ⟨_, rfl⟩
          have tLl := lowCells_len (MK ++ SL.take j)
          have tHl := highCells_len (MK ++ SL.take j)
          have gLn := lowCells_get (MK ++ SL.take j) n (by omega)
          have gHn := highCells_get (MK ++ SL.take j) n (by omega)
          have snL := lowCells_snoc (MK ++ SL.take j) (100 * lowA ⟨r, h, a0, b0, a1, b1⟩ T, 100 * highA ⟨r, h, a0, b0, a1, b1⟩ T)
          have snH := highCells_snoc (MK ++ SL.take j) (100 * lowA ⟨r, h, a0, b0, a1, b1⟩ T, 100 * highA ⟨r, h, a0, b0, a1, b1⟩ T)
          have snn : ∀ x, ((MK ++ SL.take j) ++ [x]).length = n + 1 := fun x => by rw [List.length_append, List.length_singleton, hn]
          rw [hn] at tLl tHl snL snH hMl hb1 hb2 hb3
          rw [hT]
          rw [hT] at hjB HRel
          generalize MK ++ SL.take j = M at *
          obtain ⟨LO, hLO⟩ : ∃ LO, lowT M n = LO := ⟨_, rfl⟩
          obtain ⟨HI, hHI⟩ : ∃ HI, highT M n = HI := ⟨_, rfl⟩
          rw [hLO] at gLn snL hb1 hb2
          rw [hHI] at gHn snH hb2 hb3
          have hT0 : 0 ≤ T := by omega
          have hT1 : T + 100 ≤ 60000 := by omega
          have iT : I64 T := by unfold I64; omega
          have iT' : I64 (T + 100) := by unfold I64; omega
          have eT : IntKind.i64.wrap (T + 100) = T + 100 := wrapI (by omega) (by omega)
          obtain ⟨hx1, hx2, hx3, hx4⟩ := hbnds T hT0
          obtain ⟨q1, q2, q3, q4⟩ := hsin T false
          obtain ⟨q5, q6, q7, q8⟩ := hsin (T + 100) false
          obtain ⟨v1, v2, v3, v4⟩ := hsin T true
          obtain ⟨v5, v6, v7, v8⟩ := hsin (T + 100) true
          have hlowT := hlow T
          have hhighT := hhigh T
          have s1 := fun w => r3side_any r h a0 b0 a1 b1 T false w hI iT
          have s2 := fun w => r3side_any r h a0 b0 a1 b1 (T + 100) false w hI iT'
          have s3 := fun w => r3side_any r h a0 b0 a1 b1 T true w hI iT
          have s4 := fun w => r3side_any r h a0 b0 a1 b1 (T + 100) true w hI iT'
          generalize lowA ⟨r, h, a0, b0, a1, b1⟩ T = XL at *
          generalize highA ⟨r, h, a0, b0, a1, b1⟩ T = XH at *
          generalize (sideOf ⟨r, h, a0, b0, a1, b1⟩ T false).1 = p1 at *
          generalize (sideOf ⟨r, h, a0, b0, a1, b1⟩ T false).2 = p2 at *
          generalize (sideOf ⟨r, h, a0, b0, a1, b1⟩ (T + 100) false).1 = p3 at *
          generalize (sideOf ⟨r, h, a0, b0, a1, b1⟩ (T + 100) false).2 = p4 at *
          generalize (sideOf ⟨r, h, a0, b0, a1, b1⟩ T true).1 = p5 at *
          generalize (sideOf ⟨r, h, a0, b0, a1, b1⟩ T true).2 = p6 at *
          generalize (sideOf ⟨r, h, a0, b0, a1, b1⟩ (T + 100) true).1 = p7 at *
          generalize (sideOf ⟨r, h, a0, b0, a1, b1⟩ (T + 100) true).2 = p8 at *
          obtain ⟨m1, e1⟩ : ∃ m, min p1 p3 = m := ⟨_, rfl⟩
          obtain ⟨m2, e2⟩ : ∃ m, min p2 p4 = m := ⟨_, rfl⟩
          obtain ⟨m3, e3⟩ : ∃ m, max p5 p7 = m := ⟨_, rfl⟩
          obtain ⟨m4, e4⟩ : ∃ m, max p6 p8 = m := ⟨_, rfl⟩
          rw [e1, e2] at hlowT
          rw [e3, e4] at hhighT
          have cA1 := fun w => r3area_any r m1 m2 false (by omega) (by omega) (by omega) (by omega) w
          have cA2 := fun w => r3area_any r m3 m4 true (by omega) (by omega) (by omega) (by omega) w
          rw [← hlowT] at cA1
          rw [← hhighT] at cA2
          obtain ⟨YL, eYL⟩ : ∃ Y, 100 * XL = Y := ⟨_, rfl⟩
          obtain ⟨YH, eYH⟩ : ∃ Y, 100 * XH = Y := ⟨_, rfl⟩
          obtain ⟨ZL, eZL⟩ : ∃ Z, LO + YL = Z := ⟨_, rfl⟩
          obtain ⟨ZH, eZH⟩ : ∃ Z, HI + YH = Z := ⟨_, rfl⟩
          have wYL : IntKind.i64.wrap YL = YL := wrapI (by omega) (by omega)
          have wYH : IntKind.i64.wrap YH = YH := wrapI (by omega) (by omega)
          have wZL : IntKind.i64.wrap ZL = ZL := wrapI (by omega) (by omega)
          have wZH : IntKind.i64.wrap ZH = ZH := wrapI (by omega) (by omega)
          simp only [eYL, eYH, eZL, eZH] at snL snH HRel
          have hcL := tL.cell
          rw [tLl] at hcL
          have hn600 : n ≤ 600 := by omega
          clear hbnds hsin hlow hhigh hget hsk hlowT hhighT hx1 hx2 hx3 hx4 hb1 hb2 hb3 q1 q2 q3 q4 q5 q6 q7 q8 v1 v2 v3 v4 v5 v6 v7 v8 hpre hbk hlen hMl
          go_wp2_with fail
          refine (s1 _).mono ?_
          rintro e wS ⟨rfl, qS⟩
          replace tL := tL.keepB qS.b
          replace tH := tH.keepB qS.b
          replace gq := gq.trans qS.b
          replace f0 := qS.keep f0
          replace f1 := qS.keep f1
          replace f2 := qS.keep f2
          replace f3 := qS.keep f3
          replace f4 := qS.keep f4
          replace f5 := qS.keep f5
          clear qS
          go_wp2_with fail
          refine (s2 _).mono ?_
          rintro e wS ⟨rfl, qS⟩
          replace tL := tL.keepB qS.b
          replace tH := tH.keepB qS.b
          replace gq := gq.trans qS.b
          replace f0 := qS.keep f0
          replace f1 := qS.keep f1
          replace f2 := qS.keep f2
          replace f3 := qS.keep f3
          replace f4 := qS.keep f4
          replace f5 := qS.keep f5
          clear qS
          have hcc := tL.cell
          rw [tLl] at hcc
          have hff := tL.fz
          have hlo : wS.cell? ⟨gL, n, none⟩ = some (.int .i64 LO) := by have := tL.own.cells rfl n _ gLn; rwa [add0] at this
          have hoA : (wS.drew.alloc (.cells #[.int .i64 ZL] 2)).ownsRow BB 2 1 (.slice (some ⟨gL, 0, none⟩) (n + 1) cL) (n + 1) (lowCells M) := by have := (tL.keepB ((B.refl wS).drew.alloc #[.int .i64 ZL] 2)).own; rwa [tLl] at this
          have hwB : BB ≤ wS.heap.size := by rw [← hBB]; exact gq.below.size
          have hbase : BB ≤ (wS.drew.alloc (.cells #[.int .i64 ZL] 2)).heap.size := by rw [alloc_size]; exact Nat.le_succ_of_le hwB
          have hblt : bt < (wS.drew.alloc (.cells #[.int .i64 ZL] 2)).heap.size := by rw [alloc_size]; exact Nat.lt_succ_of_lt tL.blt
          have hbne : some bt ≠ some gL := fun e => tL.ne (Option.some.inj e).symm
          have hrr := f0
          have hnn : (n : Int) < (n : Int) + 1 := by omega
          go_wp2_with fail
          refine wp_region_noPanic ?_
          refine wp_region_gate (S := fun w' => w'.cell? ⟨bt, 0, none⟩ = some (.slice (some ⟨gL, 0, none⟩) (n + 1) cL) ∧ w'.cell? ⟨gL, n, none⟩ = some (.int .i64 LO) ∧ w'.cell? (a.add (k * 6)) = some (.bool r) ∧ Q wS w') 27 [(0, 3), (1, 3), (2, 3), (3, 3), (4, 0), (5, 3), (6, 3), (7, 3), (8, 0), (9, 3), (10, 3), (11, 0), (12, 3), (13, 3), (14, 3), (15, 3), (16, 0), (17, 3), (18, 3), (19, 3), (20, 3), (21, 3), (22, 3), (23, 2), (24, 3), (25, 3), (26, 2), (27, 4), (28, 3), (29, 3), (30, 4)] [0, 0, 2, 4, 8, 0, 32, 64, 128, 0, 768, 1024, 0, 0, 12288, 16384, 32768, 0, 0, 393216, 0, 0, 3145728, 4784128, 8388608, 16779264, 33554432, 75497488, 268435455, 536870911, 805306367] [0, 0, 2, 4, 8, 0, 32, 64, 128, 0, 768, 1024, 0, 0, 12288, 16384, 32768, 0, 0, 393216, 0, 0, 3145728, 4784128, 8388608, 16779264, 33554432, 67108880, 1, 268435456, 671088640] [0, 0, 0, 0, 2013265936, 0, 0, 0, 2113932544, 0, 0, 2113931264, 0, 0, 0, 0, 2139160576, 0, 0, 0, 0, 0, 0, 0, 0, 0, 0, 0, 0, 0, 0] (by kernel_rfl) (by kernel_rfl) (fun _ _ _ _ _ h => h) ?_ (fun hH => ?_)
          · exact ⟨(Q.refl wS).drew.keep hcc, (Q.refl wS).drew.keep hlo, (Q.refl wS).drew.keep hrr, (Q.refl wS).drew⟩
          refine wpSeqG_free (d := 59) (v := ?_) rfl rfl (by kernel_rfl) (fun w => ?_) ?_
          rotate_left
          · go_simp <;> with_reducible rfl
          dsimp only [List.set_cons_zero, List.set_cons_succ]
          refine wpSeqG_free (d := 60) (v := ?_) rfl rfl (by kernel_rfl) (fun w => ?_) ?_
          rotate_left
          · go_simp <;> with_reducible rfl
          dsimp only [List.set_cons_zero, List.set_cons_succ]
          refine wpSeqG_free (d := 61) (v := ?_) rfl rfl (by kernel_rfl) (fun w => ?_) ?_
          rotate_left
          · go_simp <;> with_reducible rfl
          dsimp only [List.set_cons_zero, List.set_cons_succ]
          refine wpSeqG_free (d := 62) (v := ?_) rfl rfl (by kernel_rfl) (fun w => ?_) ?_
          rotate_left
          · go_simp <;> with_reducible rfl
          dsimp only [List.set_cons_zero, List.set_cons_succ]
          refine wpSeqG_take (d := 63) (v := ?_) rfl rfl (by kernel_rfl) (fun w hS => ?_) ?_
          rotate_left
          · go_simp <;> with_reducible rfl
          dsimp only [List.set_cons_zero, List.set_cons_succ]
          refine wpSeqG_free (d := 64) (v := ?_) rfl rfl (by kernel_rfl) (fun w => ?_) ?_
          rotate_left
          · go_simp <;> with_reducible rfl
          dsimp only [List.set_cons_zero, List.set_cons_succ]
          refine wpSeqG_free (d := 65) (v := ?_) rfl rfl (by kernel_rfl) (fun w => ?_) ?_
          rotate_left
          · go_simp <;> with_reducible rfl
          dsimp only [List.set_cons_zero, List.set_cons_succ]
          refine wpSeqG_free (d := 66) (v := ?_) rfl rfl (by kernel_rfl) (fun w => ?_) ?_
          rotate_left
          · go_simp <;> with_reducible rfl
          dsimp only [List.set_cons_zero, List.set_cons_succ]
          refine wpSeqG_take (d := 67) (v := ?_) rfl rfl (by kernel_rfl) (fun w hS => ?_) ?_
          rotate_left
          · go_simp <;> with_reducible rfl
          dsimp only [List.set_cons_zero, List.set_cons_succ]
          refine wpSeqG_free (d := 68) (v := ?_) rfl rfl (by kernel_rfl) (fun w => ?_) ?_
          rotate_left
          · go_simp <;> with_reducible rfl
          dsimp only [List.set_cons_zero, List.set_cons_succ]
          refine wpSeqG_free (d := 69) (v := ?_) rfl rfl (by kernel_rfl) (fun w => ?_) ?_
          rotate_left
          · go_simp <;> with_reducible rfl
          dsimp only [List.set_cons_zero, List.set_cons_succ]
          refine wpSeqG_take (d := 70) (v := ?_) rfl rfl (by kernel_rfl) (fun w hS => ?_) ?_
          rotate_left
          · go_simp <;> with_reducible rfl
          dsimp only [List.set_cons_zero, List.set_cons_succ]
          refine wpSeqG_free (d := 71) (v := ?_) rfl rfl (by kernel_rfl) (fun w => ?_) ?_
          rotate_left
          · go_simp <;> with_reducible rfl
          dsimp only [List.set_cons_zero, List.set_cons_succ]
          refine wpSeqG_free (d := 72) (v := ?_) rfl rfl (by kernel_rfl) (fun w => ?_) ?_
          rotate_left
          · go_simp <;> with_reducible rfl
          dsimp only [List.set_cons_zero, List.set_cons_succ]
          refine wpSeqG_free (d := 73) (v := ?_) rfl rfl (by kernel_rfl) (fun w => ?_) ?_
          rotate_left
          · go_simp <;> with_reducible rfl
          dsimp only [List.set_cons_zero, List.set_cons_succ]
          refine wpSeqG_free (d := 74) (v := ?_) rfl rfl (by kernel_rfl) (fun w => ?_) ?_
          rotate_left
          · go_simp <;> with_reducible rfl
          dsimp only [List.set_cons_zero, List.set_cons_succ]
          refine wpSeqG_take (d := 75) (v := ?_) rfl rfl (by kernel_rfl) (fun w hS => ?_) ?_
          rotate_left
          · go_simp <;> with_reducible rfl
          dsimp only [List.set_cons_zero, List.set_cons_succ]
          refine wpSeqG_free (d := 76) (v := ?_) rfl rfl (by kernel_rfl) (fun w => ?_) ?_
          rotate_left
          · go_simp <;> with_reducible rfl
          dsimp only [List.set_cons_zero, List.set_cons_succ]
          refine wpSeqG_free (d := 77) (v := ?_) rfl rfl (by kernel_rfl) (fun w => ?_) ?_
          rotate_left
          · go_simp <;> with_reducible rfl
          dsimp only [List.set_cons_zero, List.set_cons_succ]
          refine wpSeqG_free (d := 78) (v := ?_) rfl rfl (by kernel_rfl) (fun w => ?_) ?_
          rotate_left
          · go_simp <;> with_reducible rfl
          dsimp only [List.set_cons_zero, List.set_cons_succ]
          refine wpSeqG_free (d := 79) (v := ?_) rfl rfl (by kernel_rfl) (fun w => ?_) ?_
          rotate_left
          · go_simp <;> with_reducible rfl
          dsimp only [List.set_cons_zero, List.set_cons_succ]
          refine wpSeqG_free (d := 80) (v := ?_) rfl rfl (by kernel_rfl) (fun w => ?_) ?_
          rotate_left
          · go_simp <;> with_reducible rfl
          dsimp only [List.set_cons_zero, List.set_cons_succ]
          refine wpSeqG_free (d := 81) (v := ?_) rfl rfl (by kernel_rfl) (fun w => ?_) ?_
          rotate_left
          · go_simp <;> with_reducible rfl
          dsimp only [List.set_cons_zero, List.set_cons_succ]
          refine wpSeqG_call rfl (by kernel_rfl) (fun K hK => ?_)
          go_simp
          (with_reducible refine (cA1 _).mono ?_)
          rintro e w' ⟨rfl, rfl⟩
          refine hK.out _ _ hH (fun hH => ?_)
          clear hK
          refine wpSeqG_free (d := 83) (v := ?_) rfl rfl (by kernel_rfl) (fun w => ?_) ?_
          rotate_left
          · go_simp <;> with_reducible rfl
          dsimp only [List.set_cons_zero, List.set_cons_succ]
          refine wpSeqG_free (d := 84) (v := ?_) rfl rfl (by kernel_rfl) (fun w => ?_) ?_
          rotate_left
          · go_simp <;> with_reducible rfl
          dsimp only [List.set_cons_zero, List.set_cons_succ]
          refine wpSeqG_call rfl (by kernel_rfl) (fun K hK => ?_)
          go_simp
          refine hK.out _ _ ?_ (fun hH => ?_)
          · exact ⟨((Q.refl wS).drew.alloc _ _).keep hcc, ((Q.refl wS).drew.alloc _ _).keep hlo, ((Q.refl wS).drew.alloc _ _).keep hrr, (Q.refl wS).drew.alloc _ _⟩
          clear hK
          refine wpSeqG_gate rfl (by kernel_rfl) (fun K hK => ?_)
          refine wp_append_lies _ _ _ 39 rfl BB 2 i0 (.int .i64 0) 1 8 (by kernel_rfl) hi0 hz0 hz1 hz2 rfl (by omega) _ _ _ rfl hoA ⟨wS.heap.size, 0, none⟩ 1 1 [.int .i64 ZL] rfl rfl (news_plain rfl) (by intro u hu; rw [List.mem_singleton.1 hu]; rfl) (by omega) (by unfold maxLen; omega) (by omega) hbase _ rfl ?_
          intro gN cN wN hownN hgrowN hatN hltN
          have y0 : wN.cell? ⟨bt, 0, none⟩ = some (.slice (some ⟨gL, 0, none⟩) (n + 1) cL) := (World.cell?_of_block (a := ⟨bt, 0, none⟩) (hgrowN.block bt hblt hbne)).trans (((Q.refl wS).drew.alloc _ _).keep hcc)
          have y1 : wN.frozen? ⟨bt, 0, none⟩ = false := (World.frozen?_of_block (a := ⟨bt, 0, none⟩) (hgrowN.block bt hblt hbne)).trans ((((Q.refl wS).drew.alloc _ _).marks _).trans hff)
          try simp only [Act.put, List.setIfInBounds_toArray, List.set_cons_zero, List.set_cons_succ]
          refine hK.out _ _ ?_
          clear hK
          refine wpSeqG_free (d := 87) (v := ?_) rfl rfl (by kernel_rfl) (fun w => ?_) ?_
          rotate_left
          · go_simp <;> with_reducible rfl
          dsimp only [List.set_cons_zero, List.set_cons_succ]
          refine wpSeqG_free (d := 88) (v := ?_) rfl rfl (by kernel_rfl) (fun w => ?_) ?_
          rotate_left
          · go_simp <;> with_reducible rfl
          dsimp only [List.set_cons_zero, List.set_cons_succ]
          refine wpSeqG_gate rfl (by kernel_rfl) (fun K hK => ?_)
          go_simp
          refine hK.out _ _ ?_
          clear hK
          refine wpSeqG_done ?_
          refine NoPanic.normal ?_
          have hel : (lowCells (M ++ [(YL, YH)])).length = n + 1 + 1 := by rw [lowCells_len, snn]
          have hoB : wN.ownsRow BB 2 1 (.slice (some ⟨gN, 0, none⟩) (lowCells (M ++ [(YL, YH)])).length cN) (lowCells (M ++ [(YL, YH)])).length (lowCells (M ++ [(YL, YH)])) := by rw [hel, snL]; exact hownN
          have hgb : gN ≠ bt := by
            rcases hatN with e | e
            · have e' : gL = gN := Option.some.inj e
              rw [← e']; exact tL.ne
            · rw [e]; exact Nat.ne_of_gt hblt
          have hg2 : gN ≠ gH := by
            rcases hatN with e | e
            · have e' : gL = gN := Option.some.inj e
              rw [← e']; exact hLH'
            · have hz := alloc_size wS (.cells #[.int .i64 ZL] 2)
              have hy := tH.glt.2
              rw [e]
              intro hq
              have hq' : (wS.alloc (.cells #[.int .i64 ZL] 2)).heap.size = gH := hq
              omega
          have tX := Half.put (off := 0) hoB y0 y1 hgb tL.lo
          rw [hel] at tX
          have tY := ((tH.keepB ((B.refl wS).drew.alloc #[.int .i64 ZL] 2)).grown hgrowN (Ne.symm hLH') (Ne.symm tL.ne)).other 0 (by omega) (.slice (some ⟨gN, 0, none⟩) (n + 1 + 1) cN)
          have gN1 := ((gq.drew.alloc #[.int .i64 ZL] 2).grownBy hgrowN (fun b hb => by rw [hBB, ← Option.some.inj hb]; exact tL.glt.1)).setCell (p := ⟨bt, 0, none⟩) (by rw [hBB]; exact tL.lo) (.slice (some ⟨gN, 0, none⟩) (n + 1 + 1) cN)
          clear f0 f1 f2 f3 f4 f5
          obtain ⟨f0, f1, f2, f3, f4, f5⟩ := hs.keepB gN1
          simp only at f0 f1 f2 f3 f4 f5
          generalize wN.setCell ⟨bt, 0, none⟩ (.slice (some ⟨gN, 0, none⟩) (n + 1 + 1) cN) = wX at *
          clear hnn hownN hgrowN hatN hltN y0 y1 hoA hbase hblt hbne hcc hff hlo hrr hwB hoB hel hgb
          have tL := tX
          have tH := tY
          have gq := gN1
          have hLH' := hg2
          clear tX tY gN1 hg2
          obtain ⟨gN0, eg⟩ : ∃ g, g = gN := ⟨_, rfl⟩
          obtain ⟨cN0, ec⟩ : ∃ g, g = cN := ⟨_, rfl⟩
          subst eg ec
          go_wp2_with fail
          refine (s3 _).mono ?_
          rintro e wS ⟨rfl, qS⟩
          replace tL := tL.keepB qS.b
          replace tH := tH.keepB qS.b
          replace gq := gq.trans qS.b
          replace f0 := qS.keep f0
          replace f1 := qS.keep f1
          replace f2 := qS.keep f2
          replace f3 := qS.keep f3
          replace f4 := qS.keep f4
          replace f5 := qS.keep f5
          clear qS
          go_wp2_with fail
          refine (s4 _).mono ?_
          rintro e wS ⟨rfl, qS⟩
          replace tL := tL.keepB qS.b
          replace tH := tH.keepB qS.b
          replace gq := gq.trans qS.b
          replace f0 := qS.keep f0
          replace f1 := qS.keep f1
          replace f2 := qS.keep f2
          replace f3 := qS.keep f3
          replace f4 := qS.keep f4
          replace f5 := qS.keep f5
          clear qS
          have hcc := tH.cell
          rw [tHl] at hcc
          have hff := tH.fz
          have hlo : wS.cell? ⟨gH, n, none⟩ = some (.int .i64 HI) := by have := tH.own.cells rfl n _ gHn; rwa [add0] at this
          have hoA : (wS.drew.alloc (.cells #[.int .i64 ZH] 2)).ownsRow BB 2 1 (.slice (some ⟨gH, 0, none⟩) (n + 1) cH) (n + 1) (highCells M) := by have := (tH.keepB ((B.refl wS).drew.alloc #[.int .i64 ZH] 2)).own; rwa [tHl] at this
          have hwB : BB ≤ wS.heap.size := by rw [← hBB]; exact gq.below.size
          have hbase : BB ≤ (wS.drew.alloc (.cells #[.int .i64 ZH] 2)).heap.size := by rw [alloc_size]; exact Nat.le_succ_of_le hwB
          have hblt : bt < (wS.drew.alloc (.cells #[.int .i64 ZH] 2)).heap.size := by rw [alloc_size]; exact Nat.lt_succ_of_lt tH.blt
          have hbne : some bt ≠ some gH := fun e => tH.ne (Option.some.inj e).symm
          have hrr := f0
          have hnn : (n : Int) < (n : Int) + 1 := by omega
          go_wp2_with fail
          refine wp_region_noPanic ?_
          refine wp_region_gate (S := fun w' => w'.cell? ⟨bt, 1, none⟩ = some (.slice (some ⟨gH, 0, none⟩) (n + 1) cH) ∧ w'.cell? ⟨gH, n, none⟩ = some (.int .i64 HI) ∧ w'.cell? (a.add (k * 6)) = some (.bool r) ∧ Q wS w') 27 [(0, 3), (1, 3), (2, 3), (3, 3), (4, 0), (5, 3), (6, 3), (7, 3), (8, 0), (9, 3), (10, 3), (11, 0), (12, 3), (13, 3), (14, 3), (15, 3), (16, 0), (17, 3), (18, 3), (19, 3), (20, 3), (21, 3), (22, 3), (23, 2), (24, 3), (25, 3), (26, 2), (27, 4), (28, 3), (29, 3), (30, 4)] [0, 0, 2, 4, 8, 0, 32, 64, 128, 0, 768, 1024, 0, 0, 12288, 16384, 32768, 0, 0, 393216, 0, 0, 3145728, 4784128, 8388608, 16779264, 33554432, 75497488, 268435455, 536870911, 805306367] [0, 0, 2, 4, 8, 0, 32, 64, 128, 0, 768, 1024, 0, 0, 12288, 16384, 32768, 0, 0, 393216, 0, 0, 3145728, 4784128, 8388608, 16779264, 33554432, 67108880, 1, 268435456, 671088640] [0, 0, 0, 0, 2013265936, 0, 0, 0, 2113932544, 0, 0, 2113931264, 0, 0, 0, 0, 2139160576, 0, 0, 0, 0, 0, 0, 0, 0, 0, 0, 0, 0, 0, 0] (by kernel_rfl) (by kernel_rfl) (fun _ _ _ _ _ h => h) ?_ (fun hH => ?_)
          · exact ⟨(Q.refl wS).drew.keep hcc, (Q.refl wS).drew.keep hlo, (Q.refl wS).drew.keep hrr, (Q.refl wS).drew⟩
          refine wpSeqG_free (d := 108) (v := ?_) rfl rfl (by kernel_rfl) (fun w => ?_) ?_
          rotate_left
          · go_simp <;> with_reducible rfl
          dsimp only [List.set_cons_zero, List.set_cons_succ]
          refine wpSeqG_free (d := 109) (v := ?_) rfl rfl (by kernel_rfl) (fun w => ?_) ?_
          rotate_left
          · go_simp <;> with_reducible rfl
          dsimp only [List.set_cons_zero, List.set_cons_succ]
          refine wpSeqG_free (d := 110) (v := ?_) rfl rfl (by kernel_rfl) (fun w => ?_) ?_
          rotate_left
          · go_simp <;> with_reducible rfl
          dsimp only [List.set_cons_zero, List.set_cons_succ]
          refine wpSeqG_free (d := 111) (v := ?_) rfl rfl (by kernel_rfl) (fun w => ?_) ?_
          rotate_left
          · go_simp <;> with_reducible rfl
          dsimp only [List.set_cons_zero, List.set_cons_succ]
          refine wpSeqG_take (d := 112) (v := ?_) rfl rfl (by kernel_rfl) (fun w hS => ?_) ?_
          rotate_left
          · go_simp <;> with_reducible rfl
          dsimp only [List.set_cons_zero, List.set_cons_succ]
          refine wpSeqG_free (d := 113) (v := ?_) rfl rfl (by kernel_rfl) (fun w => ?_) ?_
          rotate_left
          · go_simp <;> with_reducible rfl
          dsimp only [List.set_cons_zero, List.set_cons_succ]
          refine wpSeqG_free (d := 114) (v := ?_) rfl rfl (by kernel_rfl) (fun w => ?_) ?_
          rotate_left
          · go_simp <;> with_reducible rfl
          dsimp only [List.set_cons_zero, List.set_cons_succ]
          refine wpSeqG_free (d := 115) (v := ?_) rfl rfl (by kernel_rfl) (fun w => ?_) ?_
          rotate_left
          · go_simp <;> with_reducible rfl
          dsimp only [List.set_cons_zero, List.set_cons_succ]
          refine wpSeqG_take (d := 116) (v := ?_) rfl rfl (by kernel_rfl) (fun w hS => ?_) ?_
          rotate_left
          · go_simp <;> with_reducible rfl
          dsimp only [List.set_cons_zero, List.set_cons_succ]
          refine wpSeqG_free (d := 117) (v := ?_) rfl rfl (by kernel_rfl) (fun w => ?_) ?_
          rotate_left
          · go_simp <;> with_reducible rfl
          dsimp only [List.set_cons_zero, List.set_cons_succ]
          refine wpSeqG_free (d := 118) (v := ?_) rfl rfl (by kernel_rfl) (fun w => ?_) ?_
          rotate_left
          · go_simp <;> with_reducible rfl
          dsimp only [List.set_cons_zero, List.set_cons_succ]
          refine wpSeqG_take (d := 119) (v := ?_) rfl rfl (by kernel_rfl) (fun w hS => ?_) ?_
          rotate_left
          · go_simp <;> with_reducible rfl
          dsimp only [List.set_cons_zero, List.set_cons_succ]
          refine wpSeqG_free (d := 120) (v := ?_) rfl rfl (by kernel_rfl) (fun w => ?_) ?_
          rotate_left
          · go_simp <;> with_reducible rfl
          dsimp only [List.set_cons_zero, List.set_cons_succ]
          refine wpSeqG_free (d := 121) (v := ?_) rfl rfl (by kernel_rfl) (fun w => ?_) ?_
          rotate_left
          · go_simp <;> with_reducible rfl
          dsimp only [List.set_cons_zero, List.set_cons_succ]
          refine wpSeqG_free (d := 122) (v := ?_) rfl rfl (by kernel_rfl) (fun w => ?_) ?_
          rotate_left
          · go_simp <;> with_reducible rfl
          dsimp only [List.set_cons_zero, List.set_cons_succ]
          refine wpSeqG_free (d := 123) (v := ?_) rfl rfl (by kernel_rfl) (fun w => ?_) ?_
          rotate_left
          · go_simp <;> with_reducible rfl
          dsimp only [List.set_cons_zero, List.set_cons_succ]
          refine wpSeqG_take (d := 124) (v := ?_) rfl rfl (by kernel_rfl) (fun w hS => ?_) ?_
          rotate_left
          · go_simp <;> with_reducible rfl
          dsimp only [List.set_cons_zero, List.set_cons_succ]
          refine wpSeqG_free (d := 125) (v := ?_) rfl rfl (by kernel_rfl) (fun w => ?_) ?_
          rotate_left
          · go_simp <;> with_reducible rfl
          dsimp only [List.set_cons_zero, List.set_cons_succ]
          refine wpSeqG_free (d := 126) (v := ?_) rfl rfl (by kernel_rfl) (fun w => ?_) ?_
          rotate_left
          · go_simp <;> with_reducible rfl
          dsimp only [List.set_cons_zero, List.set_cons_succ]
          refine wpSeqG_free (d := 127) (v := ?_) rfl rfl (by kernel_rfl) (fun w => ?_) ?_
          rotate_left
          · go_simp <;> with_reducible rfl
          dsimp only [List.set_cons_zero, List.set_cons_succ]
          refine wpSeqG_free (d := 128) (v := ?_) rfl rfl (by kernel_rfl) (fun w => ?_) ?_
          rotate_left
          · go_simp <;> with_reducible rfl
          dsimp only [List.set_cons_zero, List.set_cons_succ]
          refine wpSeqG_free (d := 129) (v := ?_) rfl rfl (by kernel_rfl) (fun w => ?_) ?_
          rotate_left
          · go_simp <;> with_reducible rfl
          dsimp only [List.set_cons_zero, List.set_cons_succ]
          refine wpSeqG_free (d := 130) (v := ?_) rfl rfl (by kernel_rfl) (fun w => ?_) ?_
          rotate_left
          · go_simp <;> with_reducible rfl
          dsimp only [List.set_cons_zero, List.set_cons_succ]
          refine wpSeqG_call rfl (by kernel_rfl) (fun K hK => ?_)
          go_simp
          (with_reducible refine (cA2 _).mono ?_)
          rintro e w' ⟨rfl, rfl⟩
          refine hK.out _ _ hH (fun hH => ?_)
          clear hK
          refine wpSeqG_free (d := 132) (v := ?_) rfl rfl (by kernel_rfl) (fun w => ?_) ?_
          rotate_left
          · go_simp <;> with_reducible rfl
          dsimp only [List.set_cons_zero, List.set_cons_succ]
          refine wpSeqG_free (d := 133) (v := ?_) rfl rfl (by kernel_rfl) (fun w => ?_) ?_
          rotate_left
          · go_simp <;> with_reducible rfl
          dsimp only [List.set_cons_zero, List.set_cons_succ]
          refine wpSeqG_call rfl (by kernel_rfl) (fun K hK => ?_)
          go_simp
          refine hK.out _ _ ?_ (fun hH => ?_)
          · exact ⟨((Q.refl wS).drew.alloc _ _).keep hcc, ((Q.refl wS).drew.alloc _ _).keep hlo, ((Q.refl wS).drew.alloc _ _).keep hrr, (Q.refl wS).drew.alloc _ _⟩
          clear hK
          refine wpSeqG_gate rfl (by kernel_rfl) (fun K hK => ?_)
          refine wp_append_lies _ _ _ 39 rfl BB 2 i0 (.int .i64 0) 1 8 (by kernel_rfl) hi0 hz0 hz1 hz2 rfl (by omega) _ _ _ rfl hoA ⟨wS.heap.size, 0, none⟩ 1 1 [.int .i64 ZH] rfl rfl (news_plain rfl) (by intro u hu; rw [List.mem_singleton.1 hu]; rfl) (by omega) (by unfold maxLen; omega) (by omega) hbase _ rfl ?_
          intro gN cN wN hownN hgrowN hatN hltN
          have y0 : wN.cell? ⟨bt, 1, none⟩ = some (.slice (some ⟨gH, 0, none⟩) (n + 1) cH) := (World.cell?_of_block (a := ⟨bt, 1, none⟩) (hgrowN.block bt hblt hbne)).trans (((Q.refl wS).drew.alloc _ _).keep hcc)
          have y1 : wN.frozen? ⟨bt, 1, none⟩ = false := (World.frozen?_of_block (a := ⟨bt, 1, none⟩) (hgrowN.block bt hblt hbne)).trans ((((Q.refl wS).drew.alloc _ _).marks _).trans hff)
          try simp only [Act.put, List.setIfInBounds_toArray, List.set_cons_zero, List.set_cons_succ]
          refine hK.out _ _ ?_
          clear hK
          refine wpSeqG_free (d := 136) (v := ?_) rfl rfl (by kernel_rfl) (fun w => ?_) ?_
          rotate_left
          · go_simp <;> with_reducible rfl
          dsimp only [List.set_cons_zero, List.set_cons_succ]
          refine wpSeqG_free (d := 137) (v := ?_) rfl rfl (by kernel_rfl) (fun w => ?_) ?_
          rotate_left
          · go_simp <;> with_reducible rfl
          dsimp only [List.set_cons_zero, List.set_cons_succ]
          refine wpSeqG_gate rfl (by kernel_rfl) (fun K hK => ?_)
          go_simp
          refine hK.out _ _ ?_
          clear hK
          refine wpSeqG_done ?_
          refine NoPanic.normal ?_
          have hel : (highCells (M ++ [(YL, YH)])).length = n + 1 + 1 := by rw [highCells_len, snn]
          have hoB : wN.ownsRow BB 2 1 (.slice (some ⟨gN, 0, none⟩) (highCells (M ++ [(YL, YH)])).length cN) (highCells (M ++ [(YL, YH)])).length (highCells (M ++ [(YL, YH)])) := by rw [hel, snH]; exact hownN
          have hgb : gN ≠ bt := by
            rcases hatN with e | e
            · have e' : gH = gN := Option.some.inj e
              rw [← e']; exact tH.ne
            · rw [e]; exact Nat.ne_of_gt hblt
          have hg2 : gN ≠ gN0 := by
            rcases hatN with e | e
            · have e' : gH = gN := Option.some.inj e
              rw [← e']; exact Ne.symm hLH'
            · have hz := alloc_size wS (.cells #[.int .i64 ZH] 2)
              have hy := tL.glt.2
              rw [e]
              intro hq
              have hq' : (wS.alloc (.cells #[.int .i64 ZH] 2)).heap.size = gN0 := hq
              omega
          have tX := Half.put (off := 1) hoB y0 y1 hgb tH.lo
          rw [hel] at tX
          have tY := ((tL.keepB ((B.refl wS).drew.alloc #[.int .i64 ZH] 2)).grown hgrowN (hLH') (Ne.symm tH.ne)).other 1 (by omega) (.slice (some ⟨gN, 0, none⟩) (n + 1 + 1) cN)
          have gN1 := ((gq.drew.alloc #[.int .i64 ZH] 2).grownBy hgrowN (fun b hb => by rw [hBB, ← Option.some.inj hb]; exact tH.glt.1)).setCell (p := ⟨bt, 1, none⟩) (by rw [hBB]; exact tH.lo) (.slice (some ⟨gN, 0, none⟩) (n + 1 + 1) cN)
          clear f0 f1 f2 f3 f4 f5
          obtain ⟨f0, f1, f2, f3, f4, f5⟩ := hs.keepB gN1
          simp only at f0 f1 f2 f3 f4 f5
          generalize wN.setCell ⟨bt, 1, none⟩ (.slice (some ⟨gN, 0, none⟩) (n + 1 + 1) cN) = wX at *
          clear hnn hownN hgrowN hatN hltN y0 y1 hoA hbase hblt hbne hcc hff hlo hrr hwB hoB hel hgb
          have HTL := Lib.hid tY
          have HTH := Lib.hid tX
          clear tX tY tL tH f0 f1 f2 f3 f4 f5 snL snH gLn gHn tLl tHl hcL cA1 cA2 s1 s2 s3 s4
          go_wp2
          go_roundw
          case rel => exact ⟨j + 1, gN0, cN0, gN, cN, by omega, by go_num, by rw [HRel.out]; exact HTL.out, by rw [HRel.out]; exact HTH.out, Ne.symm hg2, gN1⟩
          case measure => simp [intOf]; omega
        · have hjB : decide (100 * (j : Int) < h) = false := decide_eq_false (by omega)
          obtain rfl : j = (h / 100).toNat := by omega
          rw [← hsl, List.take_length] at tL tH
          have HL := Lib.hid tL
          have HH := Lib.hid tH
          clear tL tH
          go_wp2
          go_roundw
          case rel => exact ⟨k + 1, gL, cL, gH, cH, by omega, by go_num, by rw [HK1.out]; exact HL.out, by rw [HK1.out]; exact HH.out, hLH', gq⟩
          case measure => simp [intOf]; omega
    · have hlB : decide (k < l.length) = false := decide_eq_false hl
      obtain rfl : k = l.length := by omega
      rw [List.take_length] at tL tH
      have R := rtab_held tL tH
      rw [← hBB] at R
      have HR := Lib.hid R
      clear R tL tH hok hbnd H4
      go_wp2
      go_ret2
      exact ⟨_, rfl, HR.out, gq⟩
end Go.Proofs.Ytglniapfnhedoaa

namespace Go.Proofs.Ytglniapfnhedoaa
open Go.RowKit
/-- A table is answered of a shape that may be, none of another one. -/
def OfRes (T : World → Value → List (Int × Int) → Prop) (l : List Sec) (yes no : Value → Value) (w : World) (e : Ending) (w' : World) : Prop :=
  (rightS l = true ∧ ∃ p, e = .returned (yes p) ∧ T w' p (slAll l) ∧ B w w') ∨ (rightS l = false ∧ e = .returned (no (.pointer none)) ∧ B w w')
theorem r3of_held (v : Value) (l : List Sec) (w : World) (hv : IsSecs w v l) :
    Calls Try.prog 10 #[v] w (OfRes (fun w' p L => Held (fun w => RTab w p L) w.heap.size w'.heap.size w') l (fun p => .tuple #[p, .bool true]) (fun p => .tuple #[p, .bool false]) w) := by
  by_cases hr : rightS l = true
  · rcases hv with ⟨rfl, rfl⟩ | ⟨a, cap, rfl, h2, h3, h4⟩
    · exact absurd hr (by decide)
    · have cR : ∀ w', B w w' → Calls Try.prog 19 #[.slice (some a) l.length cap] w' fun e w'' => e = .returned (.bool true) ∧ Q w' w'' := fun w' q => by
        have := r3right_any (.slice (some a) l.length cap) l w' (.inr ⟨a, cap, rfl, h2, h3, fun i s hs => ⟨(h4 i s hs).1, (h4 i s hs).2.keepB q⟩⟩)
        rwa [hr] at this
      exact (r3of_row a cap l w h4 hr cR).mono fun e w' ⟨p, h1, h2, h3⟩ => .inl ⟨hr, p, h1, h2, h3⟩
  · have hr' : rightS l = false := by simpa using hr
    have c := fun w hv => r3right_any v l w hv
    rw [hr'] at c
    have HV := Lib.hid hv
    have HR := Lib.hid hr'
    clear hv hr hr'
    go_enter Try.func10, Try.ntmps10
    go_wp2_with fail
    refine (c _ HV.out).mono ?_
    rintro e W1 ⟨rfl, g1⟩
    go_wp2
    go_ret2
    exact .inr ⟨HR.out, rfl, g1.b⟩
theorem r3of_any (v : Value) (l : List Sec) (w : World) (hv : IsSecs w v l) :
    Calls Try.prog 10 #[v] w (OfRes RTab l (fun p => .tuple #[p, .bool true]) (fun p => .tuple #[p, .bool false]) w) :=
  (r3of_held v l w hv).mono fun e w' h => by
    rcases h with ⟨h1, p, h2, h3, h4⟩ | h
    · exact .inl ⟨h1, p, h2, h3.now, h4⟩
    · exact .inr h
/-- What the laws ask of a table's bounds. -/
structure TBnd (L : List (Int × Int)) : Prop where
  b : ∀ x ∈ L, Bnd x
  n : L.length ≤ 600
theorem tbnd_of {l : List Sec} (hr : rightS l = true) : TBnd (slAll l) := by
  obtain ⟨hl1, hl4, hok⟩ := right_all hr
  have hnum := slAll_len l hok
  have hsum : hsumI l l.length ≤ 60000 := by
    unfold rightS at hr
    simp only [Bool.and_eq_true, decide_eq_true_eq] at hr
    exact hr.2
  exact ⟨slAll_bnd hok, by omega⟩
theorem TBnd.at {L : List (Int × Int)} (h : TBnd L) (k : Nat) (hk : k ≤ L.length) : 0 ≤ lowT L k ∧ lowT L k ≤ highT L k ∧ highT L k ≤ 24000000000000 := by
  obtain ⟨h1, h2, h3⟩ := table_bnd h.b k
  have := h.n
  refine ⟨h1, h2, ?_⟩
  have : (k : Int) ≤ 600 := by omega
  omega
end Go.Proofs.Ytglniapfnhedoaa

namespace Go.Proofs.Ytglniapfnhedoaa
open Go.RowKit
/-- A table that lies in blocks from lo up to hi alone. -/
structure TabN (T : World → Value → List (Int × Int) → Prop) (lo hi : Nat) (w : World) (p : Value) (L : List (Int × Int)) : Prop where
  held : Held (fun w => T w p L) lo hi w
  at_ : ∃ b, p = .pointer (some ⟨b, 0, none⟩) ∧ lo ≤ b ∧ b < hi
  ob : ∀ b, p = .pointer (some ⟨b, 0, none⟩) → ∃ cs t, w.heap[b]? = some (.cells cs t (0, 0))
theorem TabN.on {T : World → Value → List (Int × Int) → Prop} {lo hi : Nat} {w w' : World} {p : Value} {L : List (Int × Int)} (h : TabN T lo hi w p L) (hs : w.heap.size ≤ w'.heap.size) (hb : ∀ i, lo ≤ i → i < hi → w'.heap[i]? = w.heap[i]?) : TabN T lo hi w' p L :=
  ⟨h.held.on hs hb, h.at_, fun b e => by
    obtain ⟨cs, t, ho⟩ := h.ob b e
    obtain ⟨b', e', h1, h2⟩ := h.at_
    have : b = b' := by rw [e] at e'; simpa using e'
    exact ⟨cs, t, (hb b (by omega) (by omega)).trans ho⟩⟩
theorem TabN.keepB {T : World → Value → List (Int × Int) → Prop} {lo hi : Nat} {w w' : World} {p : Value} {L : List (Int × Int)} (h : TabN T lo hi w p L) (q : B w w') : TabN T lo hi w' p L :=
  h.on q.below.size fun i _ h2 => q.below.block i (Nat.lt_of_lt_of_le h2 h.held.le)
theorem ctab_held {w : World} {BB bt e xb : Nat} {v u : Value} {L : List (Int × Int)} (hL : 1 ≤ L.length) (t : Two w BB bt e v u (lowL L) (highL L) xb) (hh : w.cell? ⟨bt, 0, none⟩ = some (.int .i64 (L.length * 100))) :
    TabN CTab BB w.heap.size w (.pointer (some ⟨bt, 0, none⟩)) L := by
  have o1 := t.l.own
  have o2 := t.h.own
  rw [lowL_len] at o1
  rw [highL_len] at o2
  obtain ⟨g1, c1, rfl⟩ := own_some o1 hL
  obtain ⟨g2, c2, rfl⟩ := own_some o2 hL
  have b1 := o1.lt g1 rfl
  have b2 := o2.lt g2 rfl
  have b3 := t.l.blt
  have b4 := t.l.lo
  have main : ∀ w' : World, (∀ i, BB ≤ i → i < w.heap.size → w'.heap[i]? = w.heap[i]?) → CTab w' (.pointer (some ⟨bt, 0, none⟩)) L := fun w' hb => by
    have k := fun (off : Nat) => World.cell?_of_block (a := ⟨bt, off, none⟩) (hb bt b4 b3)
    refine ⟨bt, ⟨g1, 0, none⟩, c1, ⟨g2, 0, none⟩, c2, hL, rfl, (k 0).trans hh, (k 1).trans t.l.cell, (k 2).trans t.h.cell, fun i hi => ?_, fun i hi => ?_⟩
    · have e := o1.cells rfl i _ (lowL_get L i hi)
      rw [add0] at e ⊢
      exact (World.cell?_of_block (a := ⟨g1, i, none⟩) (hb g1 b1.1 b1.2)).trans e
    · have e := o2.cells rfl i _ (highL_get L i hi)
      rw [add0] at e ⊢
      exact (World.cell?_of_block (a := ⟨g2, i, none⟩) (hb g2 b2.1 b2.2)).trans e
  exact ⟨⟨main w fun _ _ _ => rfl, Nat.le_refl _, main⟩, ⟨bt, rfl, b4, b3⟩, fun b e => by
    have : bt = b := by simpa using e
    subst this
    exact t.l.ob⟩
end Go.Proofs.Ytglniapfnhedoaa

namespace Go.Proofs.Ytglniapfnhedoaa
open Go.RowKit
theorem sec_block {w w' : World} {b : Nat} {s : Sec} (h : SecAt w ⟨b, 0, none⟩ s) (hb : w'.heap[b]? = w.heap[b]?) : SecAt w' ⟨b, 0, none⟩ s :=
  ⟨(World.cell?_of_block (a := ⟨b, 0, none⟩) hb).trans h.r, (World.cell?_of_block (a := ⟨b, 0 + 1, none⟩) hb).trans h.h, (World.cell?_of_block (a := ⟨b, 0 + 2, none⟩) hb).trans h.a0, (World.cell?_of_block (a := ⟨b, 0 + 3, none⟩) hb).trans h.b0,
    (World.cell?_of_block (a := ⟨b, 0 + 4, none⟩) hb).trans h.a1, (World.cell?_of_block (a := ⟨b, 0 + 5, none⟩) hb).trans h.b1⟩
set_option maxRecDepth 100000 in
set_option maxHeartbeats 16000000 in
theorem cof_row (a : Addr) (cap : Nat) (l : List Sec) (w : World) (h4 : ∀ i s, l[i]? = some s → s.I ∧ SecAt w (a.add (i * 6)) s) (hr : rightS l = true)
    (cR : ∀ w', B w w' → Calls Try.prog 21 #[.slice (some a) l.length cap] w' fun e w'' => e = .returned (.bool true) ∧ B w' w'')
    (cH : ∀ w', B w w' → Calls Try.prog 22 #[.slice (some a) l.length cap] w' fun e w'' => e = .returned (.int .i64 ((slAll l).length * 100)) ∧ B w' w'') :
    Calls Try.prog 9 #[.slice (some a) l.length cap] w fun e w' => ∃ p, e = .returned (.tuple #[p, .int .i64 0]) ∧ TabN CTab w.heap.size w'.heap.size w' p (slAll l) ∧ B w w' := by
  obtain ⟨hl1, hl4, hok⟩ := right_all hr
  obtain ⟨i0, hi0, hz0, hz1, hz2⟩ := i64_info
  have hbnd := slAll_bnd hok
  have hnum := slAll_len l hok
  have hsum : hsumI l l.length ≤ 60000 := by
    unfold rightS at hr
    simp only [Bool.and_eq_true, decide_eq_true_eq] at hr
    exact hr.2
  have hlen : (slAll l).length ≤ 600 := by omega
  have hone : 1 ≤ (slAll l).length := by
    obtain ⟨s, l', rfl⟩ : ∃ s l', l = s :: l' := by
      cases l with
      | nil => simp at hl1
      | cons s l' => exact ⟨s, l', rfl⟩
    have h0 := hok s List.mem_cons_self
    have h1 := secOk_h s h0
    have h2 := secOk_mod h0
    show 1 ≤ (slOf s ++ slAll l').length
    rw [List.length_append, slOf_len]
    omega
  obtain ⟨hh, ehh⟩ : ∃ hh : Int, ((slAll l).length : Int) * 100 = hh := ⟨_, rfl⟩
  rw [ehh] at cH
  have HH := Lib.hid ehh
  have HONE := Lib.hid hone
  clear hr hnum hsum ehh hone
  go_enter Try.func9, Try.ntmps9
  go_wp2_with fail
  refine (cR _ (B.refl w)).mono ?_
  rintro e W1 ⟨rfl, g1⟩
  go_wp2_with fail
  refine (cH _ g1).mono ?_
  rintro e W2 ⟨rfl, g2⟩
  replace g1 := g1.trans g2
  clear cR cH g2
  go_wp2
  have tw0 := two_start W2 w.heap.size 2 52 (.int .i64 hh) g1.below.size (W2.heap.size + 1) (by omega)
  have z0 : (W2.alloc (.cells #[.int .i64 hh, .slice none 0 0, .slice none 0 0] 52)).cell? ⟨W2.heap.size, 0, none⟩ = some (.int .i64 hh) := by simp [go_sem]
  have gF := g1.alloc #[.int .i64 hh, .slice none 0 0, .slice none 0 0] 52
  generalize W2.alloc (.cells #[.int .i64 hh, .slice none 0 0, .slice none 0 0] 52) = WF at *
  obtain ⟨xb0, hx0⟩ : ∃ x, W2.heap.size + 1 = x := ⟨_, rfl⟩
  rw [hx0] at tw0
  generalize W2.heap.size = bt at *
  obtain ⟨BB, hBB⟩ : ∃ BB, w.heap.size = BB := ⟨_, rfl⟩
  rw [hBB] at tw0
  clear g1 hx0
  have H4 := Lib.hid h4
  have HT := Lib.hid tw0
  have HZ := Lib.hid z0
  clear h4 tw0 z0
  go_loopw [5, 6, 21] (fun lo hi i wr => ∃ (k xb : Nat) (v u : Value), k ≤ l.length ∧ lo = .int .i64 (lowT (slAll (l.take k)) (slAll (l.take k)).length) ∧ hi = .int .i64 (highT (slAll (l.take k)) (slAll (l.take k)).length) ∧ i = .int .i64 k ∧
    Two wr BB bt 2 v u (lowL (slAll (l.take k))) (highL (slAll (l.take k))) xb ∧ wr.cell? ⟨bt, 0, none⟩ = some (.int .i64 hh) ∧ B w wr) (fun _ _ i _ => l.length - (intOf i).toNat)
  case atStart => exact ⟨0, xb0, _, _, Nat.zero_le _, by simp [slAll, lowT], by simp [slAll, highT], rfl, HT.out, HZ.out, gF⟩
  case round =>
    clear HT HZ
    obtain ⟨k, xb', v, u, hk, rfl, rfl, rfl, tw, hz, gq⟩ := hrel
    by_cases hl : k < l.length
    · have hlB : decide (k < l.length) = true := decide_eq_true hl
      have hlI : (k : Int) < (l.length : Int) := by omega
      have hg := List.getElem?_eq_getElem hl
      obtain ⟨hI, hs⟩ := H4.out k _ hg
      have hsk := hok _ (List.getElem_mem hl)
      have hsplit : slAll (l.take (k + 1)) = slAll (l.take k) ++ slOf l[k] := by
        rw [List.take_add_one, hg, slAll_append]; simp [slAll]
      have hpre : (slAll (l.take (k + 1))).length ≤ 600 := by
        have e : slAll l = slAll (l.take (k + 1)) ++ slAll (l.drop (k + 1)) := by rw [← slAll_append, List.take_append_drop]
        rw [e, List.length_append] at hlen
        omega
      have hbk : ∀ x ∈ slAll (l.take (k + 1)), Bnd x := slAll_bnd (fun s hs => hok s (List.mem_of_mem_take hs))
      rw [hsplit] at hpre hbk
      generalize slAll (l.take k) = MK at *
      generalize l[k] = s at *
      obtain ⟨r, h, a0, b0, a1, b1⟩ := s
      obtain ⟨hh1, hh2⟩ := secOk_h _ hsk
      have hmod := secOk_mod hsk
      have hsl : (slOf ⟨r, h, a0, b0, a1, b1⟩).length = (h / 100).toNat := slOf_len _
      have hget : ∀ j : Nat, j < (h / 100).toNat → (slOf ⟨r, h, a0, b0, a1, b1⟩)[j]? = some (100 * lowA ⟨r, h, a0, b0, a1, b1⟩ (100 * (j : Int)), 100 * highA ⟨r, h, a0, b0, a1, b1⟩ (100 * (j : Int))) := fun j hj => by
        unfold slOf
        rw [List.getElem?_map, List.getElem?_range hj]
        rfl
      have hbnds := fun (t : Int) ht => slice_bounds hsk t ht
      generalize slOf ⟨r, h, a0, b0, a1, b1⟩ = SL at *
      simp only at hh1 hh2 hmod
      obtain ⟨f0, f1, f2, f3, f4, f5⟩ := hs.keepB gq
      simp only at f0 f1 f2 f3 f4 f5
      have HK1 := Lib.hid hsplit
      obtain ⟨LO0, hLO0⟩ : ∃ x, lowT MK MK.length = x := ⟨_, rfl⟩
      obtain ⟨HI0, hHI0⟩ : ∃ x, highT MK MK.length = x := ⟨_, rfl⟩
      rw [hLO0, hHI0]
      clear hsplit hs
      go_wp2
      have twx := (tw.stay wr.heap.size (Nat.le_refl _)).keepB ((B.refl wr).alloc #[.bool r, .int .i64 h, .int .i64 a0, .int .i64 b0, .int .i64 a1, .int .i64 b1] 49)
      have hzx := ((B.refl wr).alloc #[.bool r, .int .i64 h, .int .i64 a0, .int .i64 b0, .int .i64 a1, .int .i64 b1] 49).keep hz
      have gqx := gq.alloc #[.bool r, .int .i64 h, .int .i64 a0, .int .i64 b0, .int .i64 a1, .int .i64 b1] 49
      have hsx : SecAt (wr.alloc (.cells #[.bool r, .int .i64 h, .int .i64 a0, .int .i64 b0, .int .i64 a1, .int .i64 b1] 49)) ⟨wr.heap.size, 0, none⟩ ⟨r, h, a0, b0, a1, b1⟩ := by constructor <;> simp [go_sem]
      clear tw hz gq f0 f1 f2 f3 f4 f5
      generalize wr.alloc (.cells #[.bool r, .int .i64 h, .int .i64 a0, .int .i64 b0, .int .i64 a1, .int .i64 b1] 49) = wo at *
      generalize wr.heap.size = xb at *
      have HL := Lib.hid twx
      have HSX := Lib.hid hsx
      have HZX := Lib.hid hzx
      have HOK := Lib.hid (And.intro hok hbnd)
      have HG := Lib.hid hg
      clear twx hsx hzx hok hbnd hg
      go_loopw [5, 6, 9] (fun lo hi i wr => ∃ (j : Nat) (v u : Value), j ≤ (h / 100).toNat ∧ lo = .int .i64 (lowT (MK ++ SL.take j) (MK ++ SL.take j).length) ∧ hi = .int .i64 (highT (MK ++ SL.take j) (MK ++ SL.take j).length) ∧ i = .int .i64 (100 * (j : Int)) ∧
        Two wr BB bt 2 v u (lowL (MK ++ SL.take j)) (highL (MK ++ SL.take j)) xb ∧ wr.cell? ⟨bt, 0, none⟩ = some (.int .i64 hh) ∧ SecAt wr ⟨xb, 0, none⟩ ⟨r, h, a0, b0, a1, b1⟩ ∧ B w wr) (fun _ _ i _ => (h / 100).toNat - ((intOf i) / 100).toNat)
      case atStart => exact ⟨0, v, u, Nat.zero_le _, by simp [hLO0], by simp [hHI0], rfl, by simpa using HL.out, HZX.out, HSX.out, gqx⟩
      case round =>
        clear HL HSX HZX hLO0 hHI0
        obtain ⟨j, v, u, hj, rfl, rfl, rfl, tw, hz, hs, gq⟩ := hrel
        obtain ⟨f0, f1, f2, f3, f4, f5⟩ := hs
        have hs : SecAt wr ⟨xb, 0, none⟩ ⟨r, h, a0, b0, a1, b1⟩ := ⟨f0, f1, f2, f3, f4, f5⟩
        simp only [Nat.zero_add] at f0 f1 f2 f3 f4 f5
        by_cases hjl : j < (h / 100).toNat
        · have hjB : decide (100 * (j : Int) < h) = true := decide_eq_true (by omega)
          have hgj := hget j hjl
          have hMM : MK ++ SL.take (j + 1) = (MK ++ SL.take j) ++ [(100 * lowA ⟨r, h, a0, b0, a1, b1⟩ (100 * (j : Int)), 100 * highA ⟨r, h, a0, b0, a1, b1⟩ (100 * (j : Int)))] := by
            rw [List.take_add_one, hgj]; simp
          have hMl : (MK ++ SL.take j).length ≤ 599 := by
            rw [List.length_append, List.length_take]
            rw [List.length_append] at hpre
            omega
          have hbM : ∀ x ∈ MK ++ SL.take j, Bnd x := fun x hx => hbk x (by
            rcases List.mem_append.1 hx with h | h
            · exact List.mem_append.2 (.inl h)
            · exact List.mem_append.2 (.inr (List.mem_of_mem_take h)))
          obtain ⟨hb1, hb2, hb3⟩ := table_bnd hbM (MK ++ SL.take j).length
          have HRel := Lib.hid hMM
          clear hMM hgj hbM
          obtain ⟨T, hT⟩ : ∃ T : Int, 100 * (j : Int) = T := ⟨_, rfl⟩
          obtain ⟨n, hn⟩ : ∃ n, (MK ++ SL.take j).length = n := ⟨_, rfl⟩
          have lLn := lowL_len (MK ++ SL.take j)
          have lHn := highL_len (MK ++ SL.take j)
          have snL := lowL_snoc (MK ++ SL.take j) (100 * lowA ⟨r, h, a0, b0, a1, b1⟩ T, 100 * highA ⟨r, h, a0, b0, a1, b1⟩ T)
          have snH := highL_snoc (MK ++ SL.take j) (100 * lowA ⟨r, h, a0, b0, a1, b1⟩ T, 100 * highA ⟨r, h, a0, b0, a1, b1⟩ T)
          have sLO := lowT_snoc (MK ++ SL.take j) (100 * lowA ⟨r, h, a0, b0, a1, b1⟩ T, 100 * highA ⟨r, h, a0, b0, a1, b1⟩ T)
          have sHI := highT_snoc (MK ++ SL.take j) (100 * lowA ⟨r, h, a0, b0, a1, b1⟩ T, 100 * highA ⟨r, h, a0, b0, a1, b1⟩ T)
          have snn : ∀ x, ((MK ++ SL.take j) ++ [x]).length = (MK ++ SL.take j).length + 1 := fun x => by rw [List.length_append, List.length_singleton]
          rw [← snn (100 * lowA ⟨r, h, a0, b0, a1, b1⟩ T, 100 * highA ⟨r, h, a0, b0, a1, b1⟩ T)] at sLO sHI
          rw [hT]
          rw [hT] at hjB HRel
          generalize MK ++ SL.take j = M at *
          obtain ⟨LO, hLO⟩ : ∃ LO, lowT M M.length = LO := ⟨_, rfl⟩
          obtain ⟨HI, hHI⟩ : ∃ HI, highT M M.length = HI := ⟨_, rfl⟩
          rw [hLO] at snL sLO hb1 hb2 ⊢
          rw [hHI] at snH sHI hb2 hb3 ⊢
          rw [hn] at lLn lHn hMl hb3
          have hT0 : 0 ≤ T := by omega
          have hT1 : T + 100 ≤ 60000 := by omega
          have eT : IntKind.i64.wrap (T + 100) = T + 100 := wrapI (by omega) (by omega)
          obtain ⟨hx1, hx2, hx3, hx4⟩ := hbnds T hT0
          have cB := fun w => cbounds_any r h a0 b0 a1 b1 T w hI hT0 (by omega) hsk
          generalize lowA ⟨r, h, a0, b0, a1, b1⟩ T = XL at *
          generalize highA ⟨r, h, a0, b0, a1, b1⟩ T = XH at *
          obtain ⟨YL, eYL⟩ : ∃ Y, 100 * XL = Y := ⟨_, rfl⟩
          obtain ⟨YH, eYH⟩ : ∃ Y, 100 * XH = Y := ⟨_, rfl⟩
          obtain ⟨ZL, eZL⟩ : ∃ Z, LO + YL = Z := ⟨_, rfl⟩
          obtain ⟨ZH, eZH⟩ : ∃ Z, HI + YH = Z := ⟨_, rfl⟩
          have wZL : IntKind.i64.wrap ZL = ZL := wrapI (by omega) (by omega)
          have wZH : IntKind.i64.wrap ZH = ZH := wrapI (by omega) (by omega)
          simp only [eYL, eYH, eZL, eZH] at snL snH sLO sHI HRel cB
          have hn600 : n ≤ 599 := hMl
          clear hbnds hget hsk hx1 hx2 hx3 hx4 hb1 hb2 hb3 hpre hbk hlen hMl snn
          go_wp2_with fail
          refine (cB _).mono ?_
          rintro e wS ⟨rfl, qS⟩
          replace tw := tw.keepB qS
          replace hz := qS.keep hz
          replace hs := hs.keepB qS
          replace gq := gq.trans qS
          replace f0 := qS.keep f0
          replace f1 := qS.keep f1
          replace f2 := qS.keep f2
          replace f3 := qS.keep f3
          replace f4 := qS.keep f4
          replace f5 := qS.keep f5
          clear qS cB
          have own1 : ∀ W1, B wS W1 → W1.ownsRow BB 2 1 v n (lowL M) := fun W1 q => by have := (tw.keepB q).l.own; rwa [lLn] at this
          have base0 : BB ≤ wS.heap.size := by rw [← hBB]; exact gq.below.size
          have base1 : ∀ W1, B wS W1 → BB ≤ W1.heap.size := fun W1 q => Nat.le_trans base0 q.below.size
          have xbl : xb < wS.heap.size := World.block_lt_of_cell? wS _ f0
          have hvc := tw.l.cell
          have huc := tw.h.cell
          go_wp2_with fail
          refine wp_region_noPanic ?_
          refine wp_region_fork (S := fun w' => w'.cell? ⟨bt, 1, none⟩ = some v ∧ w'.cell? ⟨bt, 2, none⟩ = some u) 18 (.step 0 3 (.step 1 3 (.step 2 3 (.step 3 3 (.step 4 3 (.step 5 0 (.step 6 3 (.step 9 3 (.step 10 3 (.step 11 3 (.step 12 0 (.step 13 3 (.fork 7 (.fork 8 (.step 14 2 (.step 15 2 (.step 16 3 (.step 17 3 (.step 18 4 (.step 19 3 (.step 20 3 (.step 21 4 (.done))))))))) 14 (.step 8 2 (.step 15 2 (.step 16 3 (.step 17 3 (.step 18 4 (.step 19 3 (.step 20 3 (.step 21 4 (.done)))))))))) 14 (.step 7 2 (.step 8 2 (.step 15 2 (.step 16 3 (.step 17 3 (.step 18 4 (.step 19 3 (.step 20 3 (.step 21 4 (.done))))))))))))))))))))))) [0, 0, 0, 4, 8, 16, 0, 64, 160, 0, 512, 1024, 2048, 0, 8192, 20736, 37373, 102909, 168445, 524287, 1048575, 1572863] [0, 0, 0, 4, 8, 16, 0, 64, 160, 0, 512, 1024, 2048, 0, 8192, 20480, 1, 65536, 131328, 2, 524288, 1081344] [0, 0, 0, 0, 0, 4161824, 0, 0, 0, 0, 0, 0, 4165632, 0, 0, 0, 0, 0, 0, 0, 0, 0] (by kernel_rfl) (by kernel_rfl) (fun _ _ _ _ _ h => h) ?_ (fun hH => ?_)
          · exact ⟨(Q.refl wS).drew.keep tw.l.cell, (Q.refl wS).drew.keep tw.h.cell⟩
          refine wpSeqF_free (d := 43) (v := ?_) rfl rfl (by kernel_rfl) (fun w => ?_) ?_
          rotate_left
          · go_simp <;> with_reducible rfl
          try dsimp only [List.set_cons_zero, List.set_cons_succ]
          refine wpSeqF_free (d := 44) (v := ?_) rfl rfl (by kernel_rfl) (fun w => ?_) ?_
          rotate_left
          · go_simp <;> with_reducible rfl
          try dsimp only [List.set_cons_zero, List.set_cons_succ]
          refine wpSeqF_free (d := 45) (v := ?_) rfl rfl (by kernel_rfl) (fun w => ?_) ?_
          rotate_left
          · go_simp <;> with_reducible rfl
          try dsimp only [List.set_cons_zero, List.set_cons_succ]
          refine wpSeqF_free (d := 46) (v := ?_) rfl rfl (by kernel_rfl) (fun w => ?_) ?_
          rotate_left
          · go_simp <;> with_reducible rfl
          try dsimp only [List.set_cons_zero, List.set_cons_succ]
          refine wpSeqF_free (d := 47) (v := ?_) rfl rfl (by kernel_rfl) (fun w => ?_) ?_
          rotate_left
          · go_simp <;> with_reducible rfl
          try dsimp only [List.set_cons_zero, List.set_cons_succ]
          refine wpSeqF_take (d := 48) (v := ?_) rfl rfl (by kernel_rfl) (fun w hS => ?_) ?_
          rotate_left
          · go_simp <;> with_reducible rfl
          try dsimp only [List.set_cons_zero, List.set_cons_succ]
          refine wpSeqF_free (d := 49) (v := ?_) rfl rfl (by kernel_rfl) (fun w => ?_) ?_
          rotate_left
          · go_simp <;> with_reducible rfl
          try dsimp only [List.set_cons_zero, List.set_cons_succ]
          refine wpSeqF_free (d := 52) (v := ?_) rfl rfl (by kernel_rfl) (fun w => ?_) ?_
          rotate_left
          · go_simp <;> with_reducible rfl
          try dsimp only [List.set_cons_zero, List.set_cons_succ]
          refine wpSeqF_free (d := 53) (v := ?_) rfl rfl (by kernel_rfl) (fun w => ?_) ?_
          rotate_left
          · go_simp <;> with_reducible rfl
          try dsimp only [List.set_cons_zero, List.set_cons_succ]
          refine wpSeqF_free (d := 54) (v := ?_) rfl rfl (by kernel_rfl) (fun w => ?_) ?_
          rotate_left
          · go_simp <;> with_reducible rfl
          try dsimp only [List.set_cons_zero, List.set_cons_succ]
          refine wpSeqF_take (d := 55) (v := ?_) rfl rfl (by kernel_rfl) (fun w hS => ?_) ?_
          rotate_left
          · go_simp <;> with_reducible rfl
          try dsimp only [List.set_cons_zero, List.set_cons_succ]
          refine wpSeqF_free (d := 56) (v := ?_) rfl rfl (by kernel_rfl) (fun w => ?_) ?_
          rotate_left
          · go_simp <;> with_reducible rfl
          try dsimp only [List.set_cons_zero, List.set_cons_succ]
          refine wpSeqF_fork rfl rfl (by kernel_rfl) (by kernel_rfl) (fun K hK => ?_) (fun K hK => ?_)
          · go_simp
            refine hK.out _ _ ?_ (fun hH => ?_)
            · exact ⟨((B.refl _).alloc _ _).keep hH.1, ((B.refl _).alloc _ _).keep hH.2⟩
            clear hK
            refine wpSeqF_fork rfl rfl (by kernel_rfl) (by kernel_rfl) (fun K hK => ?_) (fun K hK => ?_)
            · refine wp_append_lies _ _ _ 39 rfl BB 2 i0 (.int .i64 0) 1 8 (by kernel_rfl) hi0 hz0 hz1 hz2 rfl (by omega) _ n _ rfl (own1 _ ((B.refl wS).drew.alloc _ _)) ⟨wS.heap.size, 0, none⟩ 1 1 [.int .i64 ZL] rfl rfl (news_plain rfl) (by intro u hu; rw [List.mem_singleton.1 hu]; rfl) (by omega) (by unfold maxLen; omega) (by omega) (base1 _ ((B.refl wS).drew.alloc _ _)) _ rfl ?_
              intro gN cN wN hownN hgrowN hatN hltN
              replace hgrowN : (wS.drew.alloc (.cells #[.int .i64 ZL] 2)).grownBy wN v.ownBlock := hgrowN
              obtain ⟨y1, y2, y3, y4, y5, y6, y7⟩ := two_first tw ((B.refl wS).drew.alloc _ _) hgrowN hatN
              have own2 : ∀ W2, B wN W2 → W2.ownsRow BB 2 1 u n (highL M) := fun W2 q => by have := (y5.keepB q).own; rwa [highL_len, hn] at this
              have base2 : ∀ W2, B wN W2 → BB ≤ W2.heap.size := fun W2 q => Nat.le_trans y6 q.below.size
              refine hK.out _ _ ?_ (fun hH => ?_)
              · exact ⟨y1, y5.cell⟩
              clear hK
              refine wpSeqF_call rfl (by kernel_rfl) (fun K hK => ?_)
              go_simp
              refine hK.out _ _ ?_ (fun hH => ?_)
              · exact ⟨((B.refl _).alloc _ _).keep hH.1, ((B.refl _).alloc _ _).keep hH.2⟩
              clear hK
              refine wpSeqF_call rfl (by kernel_rfl) (fun K hK => ?_)
              refine wp_append_lies _ _ _ 39 rfl BB 2 i0 (.int .i64 0) 1 8 (by kernel_rfl) hi0 hz0 hz1 hz2 rfl (by omega) _ n _ rfl (own2 _ ((B.refl wN).alloc _ _)) ⟨wN.heap.size, 0, none⟩ 1 1 [.int .i64 ZH] rfl rfl (news_plain rfl) (by intro u hu; rw [List.mem_singleton.1 hu]; rfl) (by omega) (by unfold maxLen; omega) (by omega) (base2 _ ((B.refl wN).alloc _ _)) _ rfl ?_
              intro gM cM wM hownM hgrowM hatM hltM
              obtain ⟨_, u1, u2, u3, u4, _⟩ := two_mid y1 y2 y5 ((B.refl wN).alloc _ _) hgrowM hatM
              obtain ⟨u5, u6⟩ := two_store u3 u4 (.slice (some ⟨gN, 0, none⟩) (n + 1) cN)
              refine hK.out _ _ ?_ (fun hH => ?_)
              · exact ⟨u1, u3⟩
              clear hK
              refine wpSeqF_free (d := 59) (v := ?_) rfl rfl (by kernel_rfl) (fun w => ?_) ?_
              rotate_left
              · go_simp <;> with_reducible rfl
              try dsimp only [List.set_cons_zero, List.set_cons_succ]
              refine wpSeqF_free (d := 60) (v := ?_) rfl rfl (by kernel_rfl) (fun w => ?_) ?_
              rotate_left
              · go_simp <;> with_reducible rfl
              try dsimp only [List.set_cons_zero, List.set_cons_succ]
              refine wpSeqF_gate rfl (by kernel_rfl) (fun K hK => ?_)
              go_simp
              refine hK.out _ _ ?_
              clear hK
              refine wpSeqF_free (d := 61) (v := ?_) rfl rfl (by kernel_rfl) (fun w => ?_) ?_
              rotate_left
              · go_simp <;> with_reducible rfl
              try dsimp only [List.set_cons_zero, List.set_cons_succ]
              refine wpSeqF_free (d := 62) (v := ?_) rfl rfl (by kernel_rfl) (fun w => ?_) ?_
              rotate_left
              · go_simp <;> with_reducible rfl
              try dsimp only [List.set_cons_zero, List.set_cons_succ]
              refine wpSeqF_gate rfl (by kernel_rfl) (fun K hK => ?_)
              go_simp
              refine hK.out _ _ ?_
              clear hK
              refine wpSeqF_done ?_
              refine NoPanic.normal ?_
              obtain ⟨tx, hxb, hzc, hgB⟩ := two_grow tw lLn lHn ((B.refl wS).drew.alloc _ _) hownN hgrowN hatN hltN ((B.refl wN).alloc _ _) hownM hgrowM hatM xbl hz
              have gX := hgB w hBB gq
              have sX := sec_block hs hxb
              clear hownN hgrowN hatN hltN hownM hgrowM hatM y1 y2 y3 y4 y5 y6 y7 own2 base2 u1 u2 u3 u4 u5 u6 hH hgB hxb own1 base1 tw
              have TX := Lib.hid tx
              have SX := Lib.hid sX
              have ZX := Lib.hid hzc
              have GX := Lib.hid gX
              clear tx sX hzc gX f0 f1 f2 f3 f4 f5 hs hz gq
              generalize (wM.setCell ⟨bt, 1, none⟩ (.slice (some ⟨gN, 0, none⟩) (n + 1) cN)).setCell ⟨bt, 2, none⟩ (.slice (some ⟨gM, 0, none⟩) (n + 1) cM) = wX at *
              go_wp2
              go_roundw
              case rel => exact ⟨j + 1, _, _, by omega, by rw [HRel.out, sLO], by rw [HRel.out, sHI], by go_num, by rw [HRel.out, snL, snH]; exact TX.out, ZX.out, SX.out, GX.out⟩
              case measure => simp [intOf]; omega
            · go_simp
              refine hK.out _ _ ?_ (fun hH => ?_)
              · exact ⟨((B.refl _).alloc _ _).keep hH.1, ((B.refl _).alloc _ _).keep hH.2⟩
              clear hK
              refine wpSeqF_call rfl (by kernel_rfl) (fun K hK => ?_)
              refine wp_append_lies _ _ _ 39 rfl BB 2 i0 (.int .i64 0) 1 8 (by kernel_rfl) hi0 hz0 hz1 hz2 rfl (by omega) _ n _ rfl (own1 _ (((B.refl wS).drew.alloc _ _).alloc _ _)) ⟨wS.heap.size, 0, none⟩ 1 1 [.int .i64 ZL] rfl rfl (fun j u h => ((B.refl _).alloc _ _).keep (news_plain rfl j u h)) (by intro u hu; rw [List.mem_singleton.1 hu]; rfl) (by omega) (by unfold maxLen; omega) (by omega) (base1 _ (((B.refl wS).drew.alloc _ _).alloc _ _)) _ rfl ?_
              intro gN cN wN hownN hgrowN hatN hltN
              replace hgrowN : ((wS.drew.alloc (.cells #[.int .i64 ZL] 2)).alloc (.cells #[.int .i64 ZH] 2)).grownBy wN v.ownBlock := hgrowN
              obtain ⟨y1, y2, y3, y4, y5, y6, y7⟩ := two_first tw (((B.refl wS).drew.alloc _ _).alloc _ _) hgrowN hatN
              have own2 : ∀ W2, B wN W2 → W2.ownsRow BB 2 1 u n (highL M) := fun W2 q => by have := (y5.keepB q).own; rwa [highL_len, hn] at this
              have base2 : ∀ W2, B wN W2 → BB ≤ W2.heap.size := fun W2 q => Nat.le_trans y6 q.below.size
              refine hK.out _ _ ?_ (fun hH => ?_)
              · exact ⟨y1, y5.cell⟩
              clear hK
              refine wpSeqF_call rfl (by kernel_rfl) (fun K hK => ?_)
              refine wp_append_lies _ _ _ 39 rfl BB 2 i0 (.int .i64 0) 1 8 (by kernel_rfl) hi0 hz0 hz1 hz2 rfl (by omega) _ n _ rfl (own2 _ (B.refl wN)) ⟨wS.heap.size + 1, 0, none⟩ 1 1 [.int .i64 ZH] rfl rfl (news_grown (w := (wS.drew.alloc (.cells #[.int .i64 ZL] 2)).alloc (.cells #[.int .i64 ZH] 2)) (news_plain (w := wS.drew.alloc (.cells #[.int .i64 ZL] 2)) (alloc_size wS.drew _)) hgrowN (by rw [alloc_size, alloc_size]; show _ < wS.heap.size + 1 + 1; omega) (fun e => by have := (tw.l.own.lt _ e.symm).2; omega)) (by intro u hu; rw [List.mem_singleton.1 hu]; rfl) (by omega) (by unfold maxLen; omega) (by omega) (base2 _ (B.refl wN)) _ rfl ?_
              intro gM cM wM hownM hgrowM hatM hltM
              obtain ⟨_, u1, u2, u3, u4, _⟩ := two_mid y1 y2 y5 (B.refl wN) hgrowM hatM
              obtain ⟨u5, u6⟩ := two_store u3 u4 (.slice (some ⟨gN, 0, none⟩) (n + 1) cN)
              refine hK.out _ _ ?_ (fun hH => ?_)
              · exact ⟨u1, u3⟩
              clear hK
              refine wpSeqF_free (d := 59) (v := ?_) rfl rfl (by kernel_rfl) (fun w => ?_) ?_
              rotate_left
              · go_simp <;> with_reducible rfl
              try dsimp only [List.set_cons_zero, List.set_cons_succ]
              refine wpSeqF_free (d := 60) (v := ?_) rfl rfl (by kernel_rfl) (fun w => ?_) ?_
              rotate_left
              · go_simp <;> with_reducible rfl
              try dsimp only [List.set_cons_zero, List.set_cons_succ]
              refine wpSeqF_gate rfl (by kernel_rfl) (fun K hK => ?_)
              go_simp
              refine hK.out _ _ ?_
              clear hK
              refine wpSeqF_free (d := 61) (v := ?_) rfl rfl (by kernel_rfl) (fun w => ?_) ?_
              rotate_left
              · go_simp <;> with_reducible rfl
              try dsimp only [List.set_cons_zero, List.set_cons_succ]
              refine wpSeqF_free (d := 62) (v := ?_) rfl rfl (by kernel_rfl) (fun w => ?_) ?_
              rotate_left
              · go_simp <;> with_reducible rfl
              try dsimp only [List.set_cons_zero, List.set_cons_succ]
              refine wpSeqF_gate rfl (by kernel_rfl) (fun K hK => ?_)
              go_simp
              refine hK.out _ _ ?_
              clear hK
              refine wpSeqF_done ?_
              refine NoPanic.normal ?_
              obtain ⟨tx, hxb, hzc, hgB⟩ := two_grow tw lLn lHn (((B.refl wS).drew.alloc _ _).alloc _ _) hownN hgrowN hatN hltN (B.refl wN) hownM hgrowM hatM xbl hz
              have gX := hgB w hBB gq
              have sX := sec_block hs hxb
              clear hownN hgrowN hatN hltN hownM hgrowM hatM y1 y2 y3 y4 y5 y6 y7 own2 base2 u1 u2 u3 u4 u5 u6 hH hgB hxb own1 base1 tw
              have TX := Lib.hid tx
              have SX := Lib.hid sX
              have ZX := Lib.hid hzc
              have GX := Lib.hid gX
              clear tx sX hzc gX f0 f1 f2 f3 f4 f5 hs hz gq
              generalize (wM.setCell ⟨bt, 1, none⟩ (.slice (some ⟨gN, 0, none⟩) (n + 1) cN)).setCell ⟨bt, 2, none⟩ (.slice (some ⟨gM, 0, none⟩) (n + 1) cM) = wX at *
              go_wp2
              go_roundw
              case rel => exact ⟨j + 1, _, _, by omega, by rw [HRel.out, sLO], by rw [HRel.out, sHI], by go_num, by rw [HRel.out, snL, snH]; exact TX.out, ZX.out, SX.out, GX.out⟩
              case measure => simp [intOf]; omega
          · go_simp
            refine hK.out _ _ ?_ (fun hH => ?_)
            · exact ⟨((B.refl _).alloc _ _).keep hH.1, ((B.refl _).alloc _ _).keep hH.2⟩
            clear hK
            refine wpSeqF_call rfl (by kernel_rfl) (fun K hK => ?_)
            go_simp
            refine hK.out _ _ ?_ (fun hH => ?_)
            · exact ⟨((B.refl _).alloc _ _).keep hH.1, ((B.refl _).alloc _ _).keep hH.2⟩
            clear hK
            refine wpSeqF_call rfl (by kernel_rfl) (fun K hK => ?_)
            refine wp_append_lies _ _ _ 39 rfl BB 2 i0 (.int .i64 0) 1 8 (by kernel_rfl) hi0 hz0 hz1 hz2 rfl (by omega) _ n _ rfl (own1 _ (((B.refl wS).drew.alloc _ _).alloc _ _)) ⟨wS.heap.size + 1, 0, none⟩ 1 1 [.int .i64 ZL] rfl rfl (news_plain (alloc_size _ _)) (by intro u hu; rw [List.mem_singleton.1 hu]; rfl) (by omega) (by unfold maxLen; omega) (by omega) (base1 _ (((B.refl wS).drew.alloc _ _).alloc _ _)) _ rfl ?_
            intro gN cN wN hownN hgrowN hatN hltN
            replace hgrowN : ((wS.drew.alloc (.cells #[.int .i64 ZH] 2)).alloc (.cells #[.int .i64 ZL] 2)).grownBy wN v.ownBlock := hgrowN
            obtain ⟨y1, y2, y3, y4, y5, y6, y7⟩ := two_first tw (((B.refl wS).drew.alloc _ _).alloc _ _) hgrowN hatN
            have own2 : ∀ W2, B wN W2 → W2.ownsRow BB 2 1 u n (highL M) := fun W2 q => by have := (y5.keepB q).own; rwa [highL_len, hn] at this
            have base2 : ∀ W2, B wN W2 → BB ≤ W2.heap.size := fun W2 q => Nat.le_trans y6 q.below.size
            refine hK.out _ _ ?_ (fun hH => ?_)
            · exact ⟨y1, y5.cell⟩
            clear hK
            refine wpSeqF_call rfl (by kernel_rfl) (fun K hK => ?_)
            refine wp_append_lies _ _ _ 39 rfl BB 2 i0 (.int .i64 0) 1 8 (by kernel_rfl) hi0 hz0 hz1 hz2 rfl (by omega) _ n _ rfl (own2 _ (B.refl wN)) ⟨wS.heap.size, 0, none⟩ 1 1 [.int .i64 ZH] rfl rfl (news_grown (w := (wS.drew.alloc (.cells #[.int .i64 ZH] 2)).alloc (.cells #[.int .i64 ZL] 2)) (fun j u h => ((B.refl _).alloc _ _).keep (news_plain (w := wS.drew) rfl j u h)) hgrowN (by rw [alloc_size, alloc_size]; show _ < wS.heap.size + 1 + 1; omega) (fun e => by have := (tw.l.own.lt _ e.symm).2; omega)) (by intro u hu; rw [List.mem_singleton.1 hu]; rfl) (by omega) (by unfold maxLen; omega) (by omega) (base2 _ (B.refl wN)) _ rfl ?_
            intro gM cM wM hownM hgrowM hatM hltM
            obtain ⟨_, u1, u2, u3, u4, _⟩ := two_mid y1 y2 y5 (B.refl wN) hgrowM hatM
            obtain ⟨u5, u6⟩ := two_store u3 u4 (.slice (some ⟨gN, 0, none⟩) (n + 1) cN)
            refine hK.out _ _ ?_ (fun hH => ?_)
            · exact ⟨u1, u3⟩
            clear hK
            refine wpSeqF_free (d := 59) (v := ?_) rfl rfl (by kernel_rfl) (fun w => ?_) ?_
            rotate_left
            · go_simp <;> with_reducible rfl
            try dsimp only [List.set_cons_zero, List.set_cons_succ]
            refine wpSeqF_free (d := 60) (v := ?_) rfl rfl (by kernel_rfl) (fun w => ?_) ?_
            rotate_left
            · go_simp <;> with_reducible rfl
            try dsimp only [List.set_cons_zero, List.set_cons_succ]
            refine wpSeqF_gate rfl (by kernel_rfl) (fun K hK => ?_)
            go_simp
            refine hK.out _ _ ?_
            clear hK
            refine wpSeqF_free (d := 61) (v := ?_) rfl rfl (by kernel_rfl) (fun w => ?_) ?_
            rotate_left
            · go_simp <;> with_reducible rfl
            try dsimp only [List.set_cons_zero, List.set_cons_succ]
            refine wpSeqF_free (d := 62) (v := ?_) rfl rfl (by kernel_rfl) (fun w => ?_) ?_
            rotate_left
            · go_simp <;> with_reducible rfl
            try dsimp only [List.set_cons_zero, List.set_cons_succ]
            refine wpSeqF_gate rfl (by kernel_rfl) (fun K hK => ?_)
            go_simp
            refine hK.out _ _ ?_
            clear hK
            refine wpSeqF_done ?_
            refine NoPanic.normal ?_
            obtain ⟨tx, hxb, hzc, hgB⟩ := two_grow tw lLn lHn (((B.refl wS).drew.alloc _ _).alloc _ _) hownN hgrowN hatN hltN (B.refl wN) hownM hgrowM hatM xbl hz
            have gX := hgB w hBB gq
            have sX := sec_block hs hxb
            clear hownN hgrowN hatN hltN hownM hgrowM hatM y1 y2 y3 y4 y5 y6 y7 own2 base2 u1 u2 u3 u4 u5 u6 hH hgB hxb own1 base1 tw
            have TX := Lib.hid tx
            have SX := Lib.hid sX
            have ZX := Lib.hid hzc
            have GX := Lib.hid gX
            clear tx sX hzc gX f0 f1 f2 f3 f4 f5 hs hz gq
            generalize (wM.setCell ⟨bt, 1, none⟩ (.slice (some ⟨gN, 0, none⟩) (n + 1) cN)).setCell ⟨bt, 2, none⟩ (.slice (some ⟨gM, 0, none⟩) (n + 1) cM) = wX at *
            go_wp2
            go_roundw
            case rel => exact ⟨j + 1, _, _, by omega, by rw [HRel.out, sLO], by rw [HRel.out, sHI], by go_num, by rw [HRel.out, snL, snH]; exact TX.out, ZX.out, SX.out, GX.out⟩
            case measure => simp [intOf]; omega
        · have hjB : decide (100 * (j : Int) < h) = false := decide_eq_false (by omega)
          obtain rfl : j = (h / 100).toNat := by omega
          rw [← hsl, List.take_length] at tw ⊢
          have HL := Lib.hid tw
          have HZ := Lib.hid hz
          clear tw hz
          go_wp2
          go_roundw
          case rel => exact ⟨k + 1, xb, v, u, by omega, by rw [HK1.out], by rw [HK1.out], by go_num, by rw [HK1.out]; exact HL.out, HZ.out, gq⟩
          case measure => simp [intOf]; omega
    · have hlB : decide (k < l.length) = false := decide_eq_false hl
      obtain rfl : k = l.length := by omega
      rw [List.take_length] at tw ⊢
      have R := ctab_held HONE.out tw (by rw [hz, HH.out])
      rw [← hBB] at R
      have HR := Lib.hid R
      clear R tw hok hbnd H4 hz
      go_wp2
      go_ret2
      exact ⟨_, rfl, HR.out, gq⟩
/-- A table that is made lies in new blocks alone. -/
theorem cof_held (v : Value) (l : List Sec) (w : World) (hv : IsSecs w v l) :
    Calls Try.prog 9 #[v] w (OfRes (fun w' p L => TabN CTab w.heap.size w'.heap.size w' p L) l (fun p => .tuple #[p, .int .i64 0]) (fun p => .tuple #[p, .int .i64 23]) w) := by
  by_cases hr : rightS l = true
  · have hvv := hv
    rcases hv with ⟨rfl, rfl⟩ | ⟨a, cap, rfl, h2, h3, h4⟩
    · exact absurd hr (by decide)
    · have cR : ∀ w', B w w' → Calls Try.prog 21 #[.slice (some a) l.length cap] w' fun e w'' => e = .returned (.bool true) ∧ B w' w'' := fun w' q => by
        have := right_code (.slice (some a) l.length cap) l w' (hvv.keepB q)
        rwa [hr] at this
      have cH : ∀ w', B w w' → Calls Try.prog 22 #[.slice (some a) l.length cap] w' fun e w'' => e = .returned (.int .i64 ((slAll l).length * 100)) ∧ B w' w'' := fun w' q => by
        have := height_code (.slice (some a) l.length cap) l w' (hvv.keepB q) hr
        rwa [← slAll_len l (right_all hr).2.2, Int.mul_comm] at this
      exact (cof_row a cap l w h4 hr cR cH).mono fun e w' ⟨p, h1, h2, h3⟩ => .inl ⟨hr, p, h1, h2, h3⟩
  · have hr' : rightS l = false := by simpa using hr
    have c := fun w hv => right_code v l w hv
    rw [hr'] at c
    have HV := Lib.hid hv
    have HR := Lib.hid hr'
    clear hv hr hr'
    go_enter Try.func9, Try.ntmps9
    go_wp2_with fail
    refine (c _ HV.out).mono ?_
    rintro e W1 ⟨rfl, g1⟩
    go_wp2
    go_ret2
    exact .inr ⟨HR.out, rfl, g1⟩
theorem cof_any (v : Value) (l : List Sec) (w : World) (hv : IsSecs w v l) :
    Calls Try.prog 9 #[v] w (OfRes CTab l (fun p => .tuple #[p, .int .i64 0]) (fun p => .tuple #[p, .int .i64 23]) w) :=
  (cof_held v l w hv).mono fun e w' h => by
    rcases h with ⟨h1, p, h2, h3, h4⟩ | h
    · exact .inl ⟨h1, p, h2, h3.held.now, h4⟩
    · exact .inr h
end Go.Proofs.Ytglniapfnhedoaa

namespace Go.Proofs.Ytglniapfnhedoaa
open Go.RowKit
theorem cslices_any (p : Value) (L : List (Int × Int)) (w : World) (hb : TBnd L) (ht : CTab w p L) :
    Calls Try.prog 45 #[p] w fun e w' => e = .returned (.int .i64 L.length) ∧ B w w' := by
  obtain ⟨b, aL, cL, aH, cH, hn, rfl, h0, h1, h2, h3, h4⟩ := ht
  have hn6 := hb.n
  clear h0 h2 h3 h4 hb
  obtain ⟨N, hN⟩ : ∃ N, L.length = N := ⟨_, rfl⟩
  rw [hN] at h1 hn6 ⊢
  have w2 : IntKind.i64.wrap (N : Int) = (N : Int) := wrapI (by omega) (by omega)
  go_enter Try.func45, Try.ntmps45
  go_wp2
  go_ret
  exact ⟨rfl, B.refl _⟩
theorem ctall_any (p : Value) (L : List (Int × Int)) (w : World) (ht : CTab w p L) :
    Calls Try.prog 20 #[p] w fun e w' => e = .returned (.int .i64 (L.length * 100)) ∧ B w w' := by
  obtain ⟨b, aL, cL, aH, cH, hn, rfl, h0, h1, h2, h3, h4⟩ := ht
  clear h1 h2 h3 h4
  generalize (L.length : Int) * 100 = X at *
  go_enter Try.func20, Try.ntmps20
  go_wp2
  go_ret
  exact ⟨rfl, B.refl _⟩
end Go.Proofs.Ytglniapfnhedoaa

namespace Go.Proofs.Ytglniapfnhedoaa
open Go.RowKit
theorem chigh_any (p : Value) (L : List (Int × Int)) (i : Int) (w : World) (hb : TBnd L) (ht : CTab w p L) :
    Calls Try.prog 46 #[p, .int .i64 i] w fun e w' => e = .returned (.int .i64 (highT L (nearI L.length i))) ∧ B w w' := by
  obtain ⟨b, aL, cL, aH, cH, hn, rfl, h0, h1, h2, h3, h4⟩ := ht
  have c := below_any (highT L) (highT_zero L) aH L.length cH hn hb.n i w h4
  generalize highT L (nearI L.length i) = X at *
  clear h0 h1 h3 h4 hb hn
  go_enter Try.func46, Try.ntmps46
  go_wp2_with fail
  refine c.mono ?_
  rintro e w1 ⟨rfl, g⟩
  go_wp2
  go_ret
  exact ⟨rfl, g⟩
end Go.Proofs.Ytglniapfnhedoaa

namespace Go.Proofs.Ytglniapfnhedoaa
open Go.RowKit
theorem clow_any (p : Value) (L : List (Int × Int)) (i : Int) (w : World) (hb : TBnd L) (ht : CTab w p L) :
    Calls Try.prog 49 #[p, .int .i64 i] w fun e w' => e = .returned (.int .i64 (lowT L (nearI L.length i))) ∧ B w w' := by
  obtain ⟨b, aL, cL, aH, cH, hn, rfl, h0, h1, h2, h3, h4⟩ := ht
  have c := below_any (lowT L) (lowT_zero L) aL L.length cL hn hb.n i w h3
  generalize lowT L (nearI L.length i) = X at *
  clear h0 h2 h3 h4 hb hn
  go_enter Try.func49, Try.ntmps49
  go_wp2_with fail
  refine c.mono ?_
  rintro e w1 ⟨rfl, g⟩
  go_wp2
  go_ret
  exact ⟨rfl, g⟩
end Go.Proofs.Ytglniapfnhedoaa
