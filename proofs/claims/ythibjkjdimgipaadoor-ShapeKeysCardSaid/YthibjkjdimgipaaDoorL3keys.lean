/-
  Layer 3: the walk of ShapeKeys.
-/
import Derived.Test.YthibjkjdimgipaaDoorKey
import Derived.Test.YthibjkjdimgipaaDoorSame
import Derived.Test.YthibjkjdimgipaaDoorSecq
import Derived.Test.YthibjkjdimgipaaDoorOpen
import Derived.Deep.CutBlock
import Derived.BigRegion
import Derived.RegionTactic
namespace Go.Proofs.YthibjkjdimgipaaDoor
open Go.RowKit

/-- Five shapes of few pieces stand in a block. -/
def Five (w : World) (b : Nat) : Prop := ∀ m : Nat, m < 5 → ∃ v l, w.cell? ⟨b, m, none⟩ = some v ∧ IsSecs w v l ∧ l.length ≤ 10
theorem five_new (w : World) (t : TypeId) (v0 v1 v2 v3 v4 : Value) (l0 l1 l2 l3 l4 : List Sec) (h0 : IsSecs w v0 l0) (h1 : IsSecs w v1 l1) (h2 : IsSecs w v2 l2) (h3 : IsSecs w v3 l3) (h4 : IsSecs w v4 l4)
    (k0 : l0.length ≤ 10) (k1 : l1.length ≤ 10) (k2 : l2.length ≤ 10) (k3 : l3.length ≤ 10) (k4 : l4.length ≤ 10) : Five (w.alloc (.cells #[v0, v1, v2, v3, v4] t)) w.heap.size := by
  have q := (B.refl w).alloc #[v0, v1, v2, v3, v4] t
  intro m hm
  match m, hm with
  | 0, _ => exact ⟨_, _, by rw [World.cell?_alloc_new]; rfl, h0.keepB q, k0⟩
  | 1, _ => exact ⟨_, _, by rw [World.cell?_alloc_new]; rfl, h1.keepB q, k1⟩
  | 2, _ => exact ⟨_, _, by rw [World.cell?_alloc_new]; rfl, h2.keepB q, k2⟩
  | 3, _ => exact ⟨_, _, by rw [World.cell?_alloc_new]; rfl, h3.keepB q, k3⟩
  | 4, _ => exact ⟨_, _, by rw [World.cell?_alloc_new]; rfl, h4.keepB q, k4⟩
theorem Five.keep {w w' : World} {b : Nat} (h : Five w b) (q : B w w') : Five w' b := fun m hm => by
  obtain ⟨v, l, h1, h2, h3⟩ := h m hm
  exact ⟨v, l, q.keep h1, h2.keepB q, h3⟩
theorem r3same_b (v u : Value) (l m : List Sec) (w : World) (hv : IsSecs w v l) (hu : IsSecs w u m) :
    Calls Tryd.prog 7 #[v, u] w fun e w' => e = .returned (.bool (decide (l = m))) ∧ B w w' :=
  (r3same_any v u l m w hv hu).mono fun _ _ h => ⟨h.1, h.2.b⟩
theorem same_b (v u : Value) (l m : List Sec) (w : World) (hv : IsSecs w v l) (hu : IsSecs w u m) :
    Calls Tryd.prog 8 #[v, u] w fun e w' => e = .returned (.bool (decide (l = m))) ∧ B w w' :=
  (same_any v u l m w hv hu).mono fun _ _ h => ⟨h.1, h.2.b⟩
theorem light_any (v : Value) (l : List Sec) (w : World) (hv : IsSecs w v l) (b : Bool) (hb : decide ((l.length : Int) ≤ 6) = b) :
    Calls Tryd.prog 5 #[v] w fun e w' => e = .returned (.bool b) ∧ w = w' := by
  obtain ⟨va, vc, rfl⟩ : ∃ va vc, v = .slice va l.length vc := by
    rcases hv with ⟨rfl, rfl⟩ | ⟨b, cb, rfl, _⟩
    · exact ⟨_, _, rfl⟩
    · exact ⟨_, _, rfl⟩
  clear hv
  go_enter Tryd.func5, Tryd.ntmps5
  go_wp2
  go_ret
  exact ⟨rfl, rfl⟩

set_option maxRecDepth 100000 in
set_option maxHeartbeats 16000000 in
theorem keys_law (va vb : Value) (la lb : List Sec) (k j x : Int) (hk : (Lit.int .u8 k).wf = true) (hj : (Lit.int .u8 j).wf = true) (hx : (Lit.int .i64 x).wf = true) (w : World) (ha : IsSecs w va la) (hb : IsSecs w vb lb)
    (htab : Lib.TabIs Tryd.prog w "internal/strconv.uint64pow10" .u64 Lib.pow10Tab) :
    Calls Tryd.prog 3 #[va, vb, .int .u8 k, .int .u8 j, .int .i64 x] w fun e w' => e = .returned (.bool true) ∧ B w w' := by
  obtain ⟨k1, k2⟩ := u8_wf hk
  obtain ⟨j1, j2⟩ := u8_wf hj
  have ix := i64_wf hx
  clear hk hj hx
  have htb := Lib.tabBelow_of_tabIs htab
  clear htab
  have c0 := known3_any side_code right_code height_code
  have cA := fun w hv => light_any va la w hv
  have cB := fun w hv => light_any vb lb w hv
  have cK := fun w => shape_any k k1 k2 w
  have cJ := fun w => shape_any j j1 j2 w
  have rK := shape_right (k % 6).toNat
  have rJ := shape_right (j % 6).toNat
  generalize shapeOf (k % 6).toNat = lk at *
  generalize shapeOf (j % 6).toNat = lj at *
  obtain ⟨lk1, lk4, _⟩ := right_all rK
  obtain ⟨lj1, lj4, _⟩ := right_all rJ
  clear rK rJ
  obtain ⟨i0, hi0, hz0, hz1, hz2⟩ := info_parts secInfo
  obtain ⟨aa, na, ca, rfl⟩ := ha.form
  obtain ⟨ab, nb, cb, rfl⟩ := hb.form
  have HA := Lib.hid ha
  have HB := Lib.hid hb
  clear ha hb
  by_cases ga : ((la.length : Int) ≤ 6)
  · by_cases gb : ((lb.length : Int) ≤ 6)
    · replace cA := fun w hv => cA w hv true (decide_eq_true ga)
      replace cB := fun w hv => cB w hv true (decide_eq_true gb)
      go_enter Tryd.func3, Tryd.ntmps3
      go_wp2_with fail
      refine (c0 _).mono ?_
      rintro e W1 ⟨rfl, g⟩
      go_wp2_with fail
      refine (cA _ (HA.out.keepB g)).mono ?_
      rintro e W2 ⟨rfl, rfl⟩
      go_wp2_with fail
      refine (cB _ (HB.out.keepB g)).mono ?_
      rintro e W2 ⟨rfl, rfl⟩
      go_wp2_with fail
      refine (cK _).mono ?_
      rintro e W2 ⟨v1, rfl, hv1, q2⟩
      replace g := g.trans q2.b
      clear q2
      rcases hv1 with ⟨rfl, rfl⟩ | ⟨a, cap, rfl, h2, h3, h4⟩
      · simp at lk1
      have fl1 := flat_len lk
      have m1 : 0 + lk.length ≤ maxLen := by unfold maxLen; omega
      have m2 : (0 + lk.length) * 48 ≤ 140737488355328 := by omega
      have m3 : w.heap.size ≤ W2.heap.size := g.below.size
      have fl2 := secs_news h4
      have hIall : ∀ s ∈ lk, s.I := fun s hs => by obtain ⟨q, hq⟩ := List.getElem?_of_mem hs; exact (h4 q s hq).1
      go_upto_block 0 with (at_builtin; refine wpList_append_lies _ rfl _ _ 22 rfl w.heap.size 27 i0 _ 6 48 Tryd.underlying22 hi0 hz0 hz1 hz2 rfl (by omega) (.slice none 0 0) 0 [] rfl (World.ownsRow_nil _ _ _ _) a lk.length cap (flat lk) rfl fl1 fl2 (flat_one lk) (by omega) m1 m2 m3 W2.heap.size rfl ?_; intro gb cp W3 hown hgrow hat hlt; simp only [Nat.zero_add, List.nil_append] at hown; have g3 := g.grownBy hgrow (fun _ h => by cases h))
      go_cut [11] from 16 (fun c wx => ∃ lc, IsSecs wx c lc ∧ lc.length ≤ 5 ∧ B w wx)
      case first =>
        have hg := List.getElem?_eq_getElem (show 0 < lk.length by omega)
        have hI := hIall _ (List.getElem_mem (show 0 < lk.length by omega))
        have fg := fun j hj => (hown.cellAt j (by omega)).trans ((congrArg (fun k => (flat lk)[k]?) (show j = 0 * 6 + j by omega)).trans (flat_get lk 0 j _ hg hj))
        have fz := fun j => hown.frozenAt j
        clear h4 fl2 fl1 m1 m2 cA cB cJ c0 cK HA HB htb
        generalize lk[0] = s at *
        obtain ⟨r, h, a0, b0, a1, b1⟩ := s
        have y0 := fg 0 (by omega)
        have y1 := fg 1 (by omega)
        have y2 := fg 2 (by omega)
        have y3 := fg 3 (by omega)
        have y4 := fg 4 (by omega)
        have y5 := fg 5 (by omega)
        simp only [Sec.cells, List.getElem?_cons_zero, List.getElem?_cons_succ] at y0 y1 y2 y3 y4 y5
        have q0 := fz 0
        have q1 := fz 1
        have q2 := fz 2
        have q3 := fz 3
        have q4 := fz 4
        have q5 := fz 5
        have lkI : (0 : Int) < (lk.length : Int) := by omega
        clear fg fz
        have ways : j % 7 = 0 ∨ j % 7 = 1 ∨ j % 7 = 2 ∨ j % 7 = 3 ∨ j % 7 = 4 ∨ j % 7 = 5 ∨ j % 7 = 6 := by omega
        rcases ways with hc | hc | hc | hc | hc | hc | hc
        · obtain ⟨z, hz⟩ : ∃ z, IntKind.i64.wrap (h + x) = z := ⟨_, rfl⟩
          have iz : I64 z := by rw [← hz, IntKind.wrap_i64]; unfold I64; omega
          have hset := flat_set lk 0 1 ⟨r, h, a0, b0, a1, b1⟩ ⟨r, z, a0, b0, a1, b1⟩ (.int .i64 z) hg (by omega) rfl
          have hI' : ∀ s ∈ lk.set 0 ⟨r, z, a0, b0, a1, b1⟩, s.I := fun s hs => by
            rcases List.mem_or_eq_of_mem_set hs with h | rfl
            · exact hIall s h
            · exact ⟨iz, hI.2.1, hI.2.2.1, hI.2.2.2.1, hI.2.2.2.2⟩
          have hst := (hown.stored (0 * 6 + 1) (.int .i64 z)).1
          rw [← hset] at hst
          have HS := secs_own hst (by simp) (by omega) hI'
          have g4 := g3.setCell (p := ⟨gb, 1, none⟩) (hown.lt gb rfl).1 (.int .i64 z)
          have HS' := Lib.hid HS
          have hl' : (lk.set 0 ⟨r, z, a0, b0, a1, b1⟩).length ≤ 5 := by simp; omega
          have HL := Lib.hid hl'
          clear hset hI' hst HS hl' hIall hI hown hgrow hat hlt hg
          go_wp2_with fail
          go_meet
          case rel => exact ⟨_, HS'.out, HL.out, g4⟩
        · obtain ⟨z, hz⟩ : ∃ z, IntKind.i64.wrap (a0 + x) = z := ⟨_, rfl⟩
          have iz : I64 z := by rw [← hz, IntKind.wrap_i64]; unfold I64; omega
          have hset := flat_set lk 0 2 ⟨r, h, a0, b0, a1, b1⟩ ⟨r, h, z, b0, a1, b1⟩ (.int .i64 z) hg (by omega) rfl
          have hI' : ∀ s ∈ lk.set 0 ⟨r, h, z, b0, a1, b1⟩, s.I := fun s hs => by
            rcases List.mem_or_eq_of_mem_set hs with h | rfl
            · exact hIall s h
            · exact ⟨hI.1, iz, hI.2.2.1, hI.2.2.2.1, hI.2.2.2.2⟩
          have hst := (hown.stored (0 * 6 + 2) (.int .i64 z)).1
          rw [← hset] at hst
          have HS := secs_own hst (by simp) (by omega) hI'
          have g4 := g3.setCell (p := ⟨gb, 2, none⟩) (hown.lt gb rfl).1 (.int .i64 z)
          have HS' := Lib.hid HS
          have hl' : (lk.set 0 ⟨r, h, z, b0, a1, b1⟩).length ≤ 5 := by simp; omega
          have HL := Lib.hid hl'
          clear hset hI' hst HS hl' hIall hI hown hgrow hat hlt hg
          go_wp2_with fail
          go_meet
          case rel => exact ⟨_, HS'.out, HL.out, g4⟩
        · obtain ⟨z, hz⟩ : ∃ z, IntKind.i64.wrap (b1 + x) = z := ⟨_, rfl⟩
          have iz : I64 z := by rw [← hz, IntKind.wrap_i64]; unfold I64; omega
          have hset := flat_set lk 0 5 ⟨r, h, a0, b0, a1, b1⟩ ⟨r, h, a0, b0, a1, z⟩ (.int .i64 z) hg (by omega) rfl
          have hI' : ∀ s ∈ lk.set 0 ⟨r, h, a0, b0, a1, z⟩, s.I := fun s hs => by
            rcases List.mem_or_eq_of_mem_set hs with h | rfl
            · exact hIall s h
            · exact ⟨hI.1, hI.2.1, hI.2.2.1, hI.2.2.2.1, iz⟩
          have hst := (hown.stored (0 * 6 + 5) (.int .i64 z)).1
          rw [← hset] at hst
          have HS := secs_own hst (by simp) (by omega) hI'
          have g4 := g3.setCell (p := ⟨gb, 5, none⟩) (hown.lt gb rfl).1 (.int .i64 z)
          have HS' := Lib.hid HS
          have hl' : (lk.set 0 ⟨r, h, a0, b0, a1, z⟩).length ≤ 5 := by simp; omega
          have HL := Lib.hid hl'
          clear hset hI' hst HS hl' hIall hI hown hgrow hat hlt hg
          go_wp2_with fail
          go_meet
          case rel => exact ⟨_, HS'.out, HL.out, g4⟩
        · have hset := flat_set lk 0 0 ⟨r, h, a0, b0, a1, b1⟩ ⟨!r, h, a0, b0, a1, b1⟩ (.bool (!r)) hg (by omega) rfl
          have hI' : ∀ s ∈ lk.set 0 ⟨!r, h, a0, b0, a1, b1⟩, s.I := fun s hs => by
            rcases List.mem_or_eq_of_mem_set hs with h | rfl
            · exact hIall s h
            · exact hI
          have hst := (hown.stored (0 * 6 + 0) (.bool (!r))).1
          rw [← hset] at hst
          have HS := secs_own hst (by simp) (by omega) hI'
          have g4 := g3.setCell (p := ⟨gb, 0, none⟩) (hown.lt gb rfl).1 (.bool (!r))
          have HS' := Lib.hid HS
          have hl' : (lk.set 0 ⟨!r, h, a0, b0, a1, b1⟩).length ≤ 5 := by simp; omega
          have HL := Lib.hid hl'
          clear hset hI' hst HS hl' hIall hI hown hgrow hat hlt hg
          go_wp2_with fail
          go_meet
          case rel => exact ⟨_, HS'.out, HL.out, g4⟩
        · go_wp2_with (at_builtin; refine wpList_append_lies _ rfl _ _ 22 rfl w.heap.size 27 i0 _ 6 48 Tryd.underlying22 hi0 hz0 hz1 hz2 rfl (by omega) (.slice (some ⟨gb, 0, none⟩) lk.length cp) lk.length (flat lk) rfl (hown.alloc _) ⟨W3.heap.size, 0, none⟩ 1 1 (Sec.cells ⟨r, h, a0, b0, a1, b1⟩) rfl rfl (news_plain rfl) (by simp [Sec.cells, Value.oneCell']) (by omega) (by unfold maxLen; omega) (by omega) (by have := g3.below.size; simp; omega) (W3.heap.size + 1) (by simp) ?_; intro ge ce W4 hown2 hgrow2 hat2 hlt4)
          go_meet
          case rel =>
            refine ⟨lk ++ [⟨r, h, a0, b0, a1, b1⟩], ?_, by simp; omega, (g3.alloc _ _).grownBy hgrow2 (fun b hb' => (hown.lt b hb').1)⟩
            rw [← flat_snoc] at hown2
            exact secs_own hown2 (by simp) (by omega) (fun s hs => by
              rcases List.mem_append.1 hs with h | h
              · exact hIall s h
              · rw [List.mem_singleton.1 h]; exact hI)
        · have hs1 := flat_set lk 0 4 ⟨r, h, a0, b0, a1, b1⟩ ⟨r, h, a0, b0, b0, b1⟩ (.int .i64 b0) hg (by omega) rfl
          have hs2 := flat_set (lk.set 0 ⟨r, h, a0, b0, b0, b1⟩) 0 3 ⟨r, h, a0, b0, b0, b1⟩ ⟨r, h, a0, a1, b0, b1⟩ (.int .i64 a1) (by rw [List.getElem?_set_self (by omega)]) (by omega) rfl
          have hI' : ∀ s ∈ (lk.set 0 ⟨r, h, a0, b0, b0, b1⟩).set 0 ⟨r, h, a0, a1, b0, b1⟩, s.I := fun s hs => by
            rw [List.set_set] at hs
            rcases List.mem_or_eq_of_mem_set hs with h | rfl
            · exact hIall s h
            · exact ⟨hI.1, hI.2.1, hI.2.2.2.1, hI.2.2.1, hI.2.2.2.2⟩
          have hst := ((hown.stored (0 * 6 + 4) (.int .i64 b0)).1.stored (0 * 6 + 3) (.int .i64 a1)).1
          rw [← hs1, ← hs2] at hst
          have HS := secs_own hst (by simp) (by omega) hI'
          have g4 := ((g3.setCell (p := ⟨gb, 4, none⟩) (hown.lt gb rfl).1 (.int .i64 b0)).setCell (p := ⟨gb, 3, none⟩) (hown.lt gb rfl).1 (.int .i64 a1)).drew
          have HS' := Lib.hid (HS.keepB (B.refl _).drew)
          have hl' : ((lk.set 0 ⟨r, h, a0, b0, b0, b1⟩).set 0 ⟨r, h, a0, a1, b0, b1⟩).length ≤ 5 := by simp; omega
          have HL := Lib.hid hl'
          clear hs1 hs2 hI' hst HS hl' hIall hI hown hgrow hat hlt hg
          go_wp2_with fail
          go_region
          go_wp2_with fail
          go_meet
          case rel => exact ⟨_, HS'.out, HL.out, g4⟩
        · have HS := secs_own hown rfl (by omega) hIall
          have HS' := Lib.hid HS
          clear HS hIall hI hown hgrow hat hlt hg
          go_wp2_with fail
          go_meet
          case rel => exact ⟨_, HS'.out, by omega, g3⟩
      case rest =>
        obtain ⟨lc, hlc, hl5, gc⟩ := hcut
        obtain ⟨oc, nc, pc, rfl⟩ := hlc.form
        go_wp2_with fail
        refine (cK _).mono ?_
        rintro e W5 ⟨v5, rfl, hv5, g5⟩
        replace g5 := g5.b
        go_wp2_with fail
        refine (cJ _).mono ?_
        rintro e W6 ⟨v6, rfl, hv6, g6⟩
        replace g6 := g6.b
        obtain ⟨o5, n5, p5, rfl⟩ := hv5.form
        obtain ⟨o6, n6, p6, rfl⟩ := hv6.form
        have g7 := (gc.trans g5).trans g6
        have F0 := fun t => five_new W6 t _ _ _ _ _ la lb lc lk lj (HA.out.keepB g7) (HB.out.keepB g7) ((hlc.keepB g5).keepB g6) (hv5.keepB g6) hv6 (by omega) (by omega) (by omega) (by omega) (by omega)
        clear g5 g6 hv5 hv6 hlc HA HB cA cB cK cJ c0 gc fl1 fl2 h4 hIall hown hgrow hat hlt g3 g m1 m2 m3 h2 h3
        go_wp2
        have T5 := F0 22
        clear F0
        have gF := (g7.alloc #[.slice aa na ca, .slice ab nb cb, .slice oc nc pc, .slice o5 n5 p5, .slice o6 n6 p6] 22)
        generalize W6.alloc (.cells #[.slice aa na ca, .slice ab nb cb, .slice oc nc pc, .slice o5 n5 p5, .slice o6 n6 p6] 22) = WF at *
        generalize W6.heap.size = fb at *
        replace htb := htb.on gF.below
        clear g7
        go_loopw [13] (fun i wr => ∃ m : Nat, m ≤ 5 ∧ i = .int .i64 m ∧ B WF wr) (fun i _ => 5 - (intOf i).toNat)
        case atStart => exact ⟨0, Nat.zero_le _, rfl, B.refl _⟩
        case round =>
          obtain ⟨i, hi, rfl, g0⟩ := hrel
          by_cases hi5 : i < 5
          · have hiB : decide ((i : Int) < 5) = true := decide_eq_true (by omega)
            have hiI : (i : Int) < 5 := by omega
            go_wp2
            obtain ⟨wo, rfl⟩ : ∃ wo : World, wo = wr := ⟨_, rfl⟩
            go_loopw [14] (fun i wr => ∃ m : Nat, m ≤ 5 ∧ i = .int .i64 m ∧ B WF wr) (fun i _ => 5 - (intOf i).toNat)
            case atStart => exact ⟨0, Nat.zero_le _, rfl, g0⟩
            case round =>
              obtain ⟨n, hn, rfl, gi⟩ := hrel
              by_cases hn5 : n < 5
              · have hnB : decide ((n : Int) < 5) = true := decide_eq_true (by omega)
                have hnI : (n : Int) < 5 := by omega
                obtain ⟨vi, li, ci, si, bi⟩ := T5 i hi5
                obtain ⟨vn, ln, cn, sn, bn⟩ := T5 n hn5
                replace ci := gi.keep ci
                replace cn := gi.keep cn
                obtain ⟨oi, ni, pi, rfl⟩ := si.form
                obtain ⟨on, nn, pn, rfl⟩ := sn.form
                have cR := fun w q => r3same_b _ _ li ln w (si.keepB q) (sn.keepB q)
                have cS := fun w q => same_b _ _ li ln w (si.keepB q) (sn.keepB q)
                have cY1 := fun w (q : B WF w) => key_any _ li bi w (si.keepB q) (htb w (q.below.mono gF.below.size))
                have cY2 := fun w (q : B WF w) => key_any _ ln bn w (sn.keepB q) (htb w (q.below.mono gF.below.size))
                have hks := keyS_same li ln
                generalize decide (li = ln) = d at *
                clear si sn bi bn
                cases d
                · go_wp2_with fail
                  refine wp_region_noPanic ?_
                  refine wp_region_seq (S := fun w' => w'.cell? ⟨fb, i, none⟩ = some (.slice oi ni pi) ∧ w'.cell? ⟨fb, n, none⟩ = some (.slice on nn pn) ∧ B WF w') [(0, 0), (1, 0), (2, 0), (3, 0), (4, 0), (5, 0), (6, 0), (7, 0), (8, 2), (9, 0)] [0, 0, 3, 4, 0, 0, 48, 64, 136, 511] [0, 0, 3, 4, 0, 0, 48, 64, 136, 256] (by kernel_rfl) (by kernel_rfl) (fun _ _ _ _ _ h => h) ?_ (fun hH => ?_)
                  · exact ⟨by simp [go_sem, ci], by simp [go_sem, cn], gi.drew⟩
                  refine wpSeq_take (d := 115) (v := ?_) rfl rfl (by kernel_rfl) (fun w hS => ?_) ?_
                  rotate_left
                  · go_simp <;> with_reducible rfl
                  dsimp only [List.set_cons_zero, List.set_cons_succ]
                  refine wpSeq_take (d := 116) (v := ?_) rfl rfl (by kernel_rfl) (fun w hS => ?_) ?_
                  rotate_left
                  · go_simp <;> with_reducible rfl
                  dsimp only [List.set_cons_zero, List.set_cons_succ]
                  refine wpSeq_take (d := 117) (v := ?_) rfl rfl (by kernel_rfl) (fun w hS => ?_) ?_
                  rotate_left
                  · go_simp <;> with_reducible rfl
                  dsimp only [List.set_cons_zero, List.set_cons_succ]
                  refine wpSeq_take (d := 118) (v := ?_) rfl rfl (by kernel_rfl) (fun w hS => ?_) ?_
                  rotate_left
                  · go_simp <;> with_reducible rfl
                  dsimp only [List.set_cons_zero, List.set_cons_succ]
                  refine wpSeq_take (d := 119) (v := ?_) rfl rfl (by kernel_rfl) (fun w hS => ?_) ?_
                  rotate_left
                  · go_simp <;> with_reducible rfl
                  dsimp only [List.set_cons_zero, List.set_cons_succ]
                  refine wpSeq_take (d := 120) (v := ?_) rfl rfl (by kernel_rfl) (fun w hS => ?_) ?_
                  rotate_left
                  · go_simp <;> with_reducible rfl
                  dsimp only [List.set_cons_zero, List.set_cons_succ]
                  refine wpSeq_take (d := 121) (v := ?_) rfl rfl (by kernel_rfl) (fun w hS => ?_) ?_
                  rotate_left
                  · go_simp <;> with_reducible rfl
                  dsimp only [List.set_cons_zero, List.set_cons_succ]
                  refine wpSeq_take (d := 122) (v := ?_) rfl rfl (by kernel_rfl) (fun w hS => ?_) ?_
                  rotate_left
                  · go_simp <;> with_reducible rfl
                  dsimp only [List.set_cons_zero, List.set_cons_succ]
                  refine wpSeq_call rfl (by kernel_rfl) (fun K hK => ?_)
                  go_simp
                  (with_reducible refine (cR _ hH.2.2).mono ?_)
                  rintro e w' ⟨rfl, hq⟩
                  refine hK.out _ _ ?_ (fun hH => ?_)
                  · exact ⟨hq.keep hH.1, hq.keep hH.2.1, hH.2.2.trans hq⟩
                  clear hK
                  refine wpSeq_take (d := 15) (v := ?_) rfl rfl (by kernel_rfl) (fun w hS => ?_) ?_
                  rotate_left
                  · go_simp <;> with_reducible rfl
                  dsimp only [List.set_cons_zero, List.set_cons_succ]
                  refine wpSeq_done ?_
                  refine NoPanic.normal ?_
                  obtain ⟨ci, cn, gi⟩ := hH
                  go_wp2_with fail
                  refine wp_region_noPanic ?_
                  refine wp_region_seq (S := fun w' => w'.cell? ⟨fb, i, none⟩ = some (.slice oi ni pi) ∧ w'.cell? ⟨fb, n, none⟩ = some (.slice on nn pn) ∧ B WF w') [(0, 0), (1, 0), (2, 0), (3, 0), (4, 0), (5, 0), (6, 0), (7, 0), (9, 0), (8, 2), (10, 0), (11, 0), (12, 0), (13, 0), (14, 0), (15, 0), (17, 0), (18, 0), (19, 0), (20, 0), (23, 0), (16, 2), (21, 2), (22, 0), (24, 0), (25, 0)] [0, 0, 3, 4, 0, 0, 48, 64, 136, 0, 768, 1280, 2048, 2048, 14336, 18432, 34816, 2048, 2048, 395264, 526336, 1116160, 2164736, 2048, 12584960, 16779264] [0, 0, 3, 4, 0, 0, 48, 64, 136, 0, 768, 1024, 2048, 2048, 14336, 18432, 34816, 2048, 2048, 395264, 526336, 1050624, 2164736, 2048, 12584960, 16779264] (by kernel_rfl) (by kernel_rfl) (fun _ _ _ _ _ h => h) ?_ (fun hH => ?_)
                  · exact ⟨by simp [go_sem, ci], by simp [go_sem, cn], gi.drew⟩
                  refine wpSeq_take (d := 124) (v := ?_) rfl rfl (by kernel_rfl) (fun w hS => ?_) ?_
                  rotate_left
                  · go_simp <;> with_reducible rfl
                  dsimp only [List.set_cons_zero, List.set_cons_succ]
                  refine wpSeq_take (d := 125) (v := ?_) rfl rfl (by kernel_rfl) (fun w hS => ?_) ?_
                  rotate_left
                  · go_simp <;> with_reducible rfl
                  dsimp only [List.set_cons_zero, List.set_cons_succ]
                  refine wpSeq_take (d := 126) (v := ?_) rfl rfl (by kernel_rfl) (fun w hS => ?_) ?_
                  rotate_left
                  · go_simp <;> with_reducible rfl
                  dsimp only [List.set_cons_zero, List.set_cons_succ]
                  refine wpSeq_take (d := 127) (v := ?_) rfl rfl (by kernel_rfl) (fun w hS => ?_) ?_
                  rotate_left
                  · go_simp <;> with_reducible rfl
                  dsimp only [List.set_cons_zero, List.set_cons_succ]
                  refine wpSeq_take (d := 128) (v := ?_) rfl rfl (by kernel_rfl) (fun w hS => ?_) ?_
                  rotate_left
                  · go_simp <;> with_reducible rfl
                  dsimp only [List.set_cons_zero, List.set_cons_succ]
                  refine wpSeq_take (d := 129) (v := ?_) rfl rfl (by kernel_rfl) (fun w hS => ?_) ?_
                  rotate_left
                  · go_simp <;> with_reducible rfl
                  dsimp only [List.set_cons_zero, List.set_cons_succ]
                  refine wpSeq_take (d := 130) (v := ?_) rfl rfl (by kernel_rfl) (fun w hS => ?_) ?_
                  rotate_left
                  · go_simp <;> with_reducible rfl
                  dsimp only [List.set_cons_zero, List.set_cons_succ]
                  refine wpSeq_take (d := 131) (v := ?_) rfl rfl (by kernel_rfl) (fun w hS => ?_) ?_
                  rotate_left
                  · go_simp <;> with_reducible rfl
                  dsimp only [List.set_cons_zero, List.set_cons_succ]
                  refine wpSeq_take (d := 133) (v := ?_) rfl rfl (by kernel_rfl) (fun w hS => ?_) ?_
                  rotate_left
                  · go_simp <;> with_reducible rfl
                  dsimp only [List.set_cons_zero, List.set_cons_succ]
                  refine wpSeq_call rfl (by kernel_rfl) (fun K hK => ?_)
                  go_simp
                  (with_reducible refine (cS _ hH.2.2).mono ?_)
                  rintro e w' ⟨rfl, hq⟩
                  refine hK.out _ _ ?_ (fun hH => ?_)
                  · exact ⟨hq.keep hH.1, hq.keep hH.2.1, hH.2.2.trans hq⟩
                  clear hK
                  refine wpSeq_take (d := 134) (v := ?_) rfl rfl (by kernel_rfl) (fun w hS => ?_) ?_
                  rotate_left
                  · go_simp <;> with_reducible rfl
                  dsimp only [List.set_cons_zero, List.set_cons_succ]
                  refine wpSeq_take (d := 135) (v := ?_) rfl rfl (by kernel_rfl) (fun w hS => ?_) ?_
                  rotate_left
                  · go_simp <;> with_reducible rfl
                  dsimp only [List.set_cons_zero, List.set_cons_succ]
                  refine wpSeq_take (d := 136) (v := ?_) rfl rfl (by kernel_rfl) (fun w hS => ?_) ?_
                  rotate_left
                  · go_simp <;> with_reducible rfl
                  dsimp only [List.set_cons_zero, List.set_cons_succ]
                  refine wpSeq_take (d := 137) (v := ?_) rfl rfl (by kernel_rfl) (fun w hS => ?_) ?_
                  rotate_left
                  · go_simp <;> with_reducible rfl
                  dsimp only [List.set_cons_zero, List.set_cons_succ]
                  refine wpSeq_take (d := 138) (v := ?_) rfl rfl (by kernel_rfl) (fun w hS => ?_) ?_
                  rotate_left
                  · go_simp <;> with_reducible rfl
                  dsimp only [List.set_cons_zero, List.set_cons_succ]
                  refine wpSeq_take (d := 139) (v := ?_) rfl rfl (by kernel_rfl) (fun w hS => ?_) ?_
                  rotate_left
                  · go_simp <;> with_reducible rfl
                  dsimp only [List.set_cons_zero, List.set_cons_succ]
                  refine wpSeq_take (d := 141) (v := ?_) rfl rfl (by kernel_rfl) (fun w hS => ?_) ?_
                  rotate_left
                  · go_simp <;> with_reducible rfl
                  dsimp only [List.set_cons_zero, List.set_cons_succ]
                  refine wpSeq_take (d := 142) (v := ?_) rfl rfl (by kernel_rfl) (fun w hS => ?_) ?_
                  rotate_left
                  · go_simp <;> with_reducible rfl
                  dsimp only [List.set_cons_zero, List.set_cons_succ]
                  refine wpSeq_take (d := 143) (v := ?_) rfl rfl (by kernel_rfl) (fun w hS => ?_) ?_
                  rotate_left
                  · go_simp <;> with_reducible rfl
                  dsimp only [List.set_cons_zero, List.set_cons_succ]
                  refine wpSeq_take (d := 144) (v := ?_) rfl rfl (by kernel_rfl) (fun w hS => ?_) ?_
                  rotate_left
                  · go_simp <;> with_reducible rfl
                  dsimp only [List.set_cons_zero, List.set_cons_succ]
                  refine wpSeq_take (d := 147) (v := ?_) rfl rfl (by kernel_rfl) (fun w hS => ?_) ?_
                  rotate_left
                  · go_simp <;> with_reducible rfl
                  dsimp only [List.set_cons_zero, List.set_cons_succ]
                  refine wpSeq_call rfl (by kernel_rfl) (fun K hK => ?_)
                  go_simp
                  (with_reducible refine (cY1 _ hH.2.2).mono ?_)
                  rintro e w' ⟨rfl, hq⟩
                  refine hK.out _ _ ?_ (fun hH => ?_)
                  · exact ⟨hq.keep hH.1, hq.keep hH.2.1, hH.2.2.trans hq⟩
                  clear hK
                  refine wpSeq_call rfl (by kernel_rfl) (fun K hK => ?_)
                  go_simp
                  (with_reducible refine (cY2 _ hH.2.2).mono ?_)
                  rintro e w' ⟨rfl, hq⟩
                  refine hK.out _ _ ?_ (fun hH => ?_)
                  · exact ⟨hq.keep hH.1, hq.keep hH.2.1, hH.2.2.trans hq⟩
                  clear hK
                  refine wpSeq_take (d := 146) (v := ?_) rfl rfl (by kernel_rfl) (fun w hS => ?_) ?_
                  rotate_left
                  · go_simp <;> with_reducible rfl
                  dsimp only [List.set_cons_zero, List.set_cons_succ]
                  refine wpSeq_take (d := 148) (v := ?_) rfl rfl (by kernel_rfl) (fun w hS => ?_) ?_
                  rotate_left
                  · go_simp <;> with_reducible rfl
                  dsimp only [List.set_cons_zero, List.set_cons_succ]
                  refine wpSeq_take (d := 149) (v := ?_) rfl rfl (by kernel_rfl) (fun w hS => ?_) ?_
                  rotate_left
                  · go_simp <;> with_reducible rfl
                  dsimp only [List.set_cons_zero, List.set_cons_succ]
                  refine wpSeq_done ?_
                  refine NoPanic.normal ?_
                  obtain ⟨ci, cn, gi⟩ := hH
                  go_wp2
                  go_roundw
                  case rel => exact ⟨n + 1, by omega, by go_num, gi⟩
                  case measure => simp [intOf]; omega
                · go_wp2_with fail
                  refine wp_region_noPanic ?_
                  refine wp_region_seq (S := fun w' => w'.cell? ⟨fb, i, none⟩ = some (.slice oi ni pi) ∧ w'.cell? ⟨fb, n, none⟩ = some (.slice on nn pn) ∧ B WF w') [(0, 0), (1, 0), (2, 0), (3, 0), (4, 0), (5, 0), (6, 0), (7, 0), (8, 2), (9, 0)] [0, 0, 3, 4, 0, 0, 48, 64, 136, 511] [0, 0, 3, 4, 0, 0, 48, 64, 136, 256] (by kernel_rfl) (by kernel_rfl) (fun _ _ _ _ _ h => h) ?_ (fun hH => ?_)
                  · exact ⟨by simp [go_sem, ci], by simp [go_sem, cn], gi.drew⟩
                  refine wpSeq_take (d := 115) (v := ?_) rfl rfl (by kernel_rfl) (fun w hS => ?_) ?_
                  rotate_left
                  · go_simp <;> with_reducible rfl
                  dsimp only [List.set_cons_zero, List.set_cons_succ]
                  refine wpSeq_take (d := 116) (v := ?_) rfl rfl (by kernel_rfl) (fun w hS => ?_) ?_
                  rotate_left
                  · go_simp <;> with_reducible rfl
                  dsimp only [List.set_cons_zero, List.set_cons_succ]
                  refine wpSeq_take (d := 117) (v := ?_) rfl rfl (by kernel_rfl) (fun w hS => ?_) ?_
                  rotate_left
                  · go_simp <;> with_reducible rfl
                  dsimp only [List.set_cons_zero, List.set_cons_succ]
                  refine wpSeq_take (d := 118) (v := ?_) rfl rfl (by kernel_rfl) (fun w hS => ?_) ?_
                  rotate_left
                  · go_simp <;> with_reducible rfl
                  dsimp only [List.set_cons_zero, List.set_cons_succ]
                  refine wpSeq_take (d := 119) (v := ?_) rfl rfl (by kernel_rfl) (fun w hS => ?_) ?_
                  rotate_left
                  · go_simp <;> with_reducible rfl
                  dsimp only [List.set_cons_zero, List.set_cons_succ]
                  refine wpSeq_take (d := 120) (v := ?_) rfl rfl (by kernel_rfl) (fun w hS => ?_) ?_
                  rotate_left
                  · go_simp <;> with_reducible rfl
                  dsimp only [List.set_cons_zero, List.set_cons_succ]
                  refine wpSeq_take (d := 121) (v := ?_) rfl rfl (by kernel_rfl) (fun w hS => ?_) ?_
                  rotate_left
                  · go_simp <;> with_reducible rfl
                  dsimp only [List.set_cons_zero, List.set_cons_succ]
                  refine wpSeq_take (d := 122) (v := ?_) rfl rfl (by kernel_rfl) (fun w hS => ?_) ?_
                  rotate_left
                  · go_simp <;> with_reducible rfl
                  dsimp only [List.set_cons_zero, List.set_cons_succ]
                  refine wpSeq_call rfl (by kernel_rfl) (fun K hK => ?_)
                  go_simp
                  (with_reducible refine (cR _ hH.2.2).mono ?_)
                  rintro e w' ⟨rfl, hq⟩
                  refine hK.out _ _ ?_ (fun hH => ?_)
                  · exact ⟨hq.keep hH.1, hq.keep hH.2.1, hH.2.2.trans hq⟩
                  clear hK
                  refine wpSeq_take (d := 15) (v := ?_) rfl rfl (by kernel_rfl) (fun w hS => ?_) ?_
                  rotate_left
                  · go_simp <;> with_reducible rfl
                  dsimp only [List.set_cons_zero, List.set_cons_succ]
                  refine wpSeq_done ?_
                  refine NoPanic.normal ?_
                  obtain ⟨ci, cn, gi⟩ := hH
                  go_wp2_with fail
                  refine wp_region_noPanic ?_
                  refine wp_region_seq (S := fun w' => w'.cell? ⟨fb, i, none⟩ = some (.slice oi ni pi) ∧ w'.cell? ⟨fb, n, none⟩ = some (.slice on nn pn) ∧ B WF w') [(0, 0), (1, 0), (2, 0), (3, 0), (4, 0), (5, 0), (6, 0), (7, 0), (9, 0), (8, 2), (10, 0), (11, 0), (12, 0), (13, 0), (14, 0), (15, 0), (17, 0), (18, 0), (19, 0), (20, 0), (23, 0), (16, 2), (21, 2), (22, 0), (24, 0), (25, 0)] [0, 0, 3, 4, 0, 0, 48, 64, 136, 0, 768, 1280, 2048, 2048, 14336, 18432, 34816, 2048, 2048, 395264, 526336, 1116160, 2164736, 2048, 12584960, 16779264] [0, 0, 3, 4, 0, 0, 48, 64, 136, 0, 768, 1024, 2048, 2048, 14336, 18432, 34816, 2048, 2048, 395264, 526336, 1050624, 2164736, 2048, 12584960, 16779264] (by kernel_rfl) (by kernel_rfl) (fun _ _ _ _ _ h => h) ?_ (fun hH => ?_)
                  · exact ⟨by simp [go_sem, ci], by simp [go_sem, cn], gi.drew⟩
                  refine wpSeq_take (d := 124) (v := ?_) rfl rfl (by kernel_rfl) (fun w hS => ?_) ?_
                  rotate_left
                  · go_simp <;> with_reducible rfl
                  dsimp only [List.set_cons_zero, List.set_cons_succ]
                  refine wpSeq_take (d := 125) (v := ?_) rfl rfl (by kernel_rfl) (fun w hS => ?_) ?_
                  rotate_left
                  · go_simp <;> with_reducible rfl
                  dsimp only [List.set_cons_zero, List.set_cons_succ]
                  refine wpSeq_take (d := 126) (v := ?_) rfl rfl (by kernel_rfl) (fun w hS => ?_) ?_
                  rotate_left
                  · go_simp <;> with_reducible rfl
                  dsimp only [List.set_cons_zero, List.set_cons_succ]
                  refine wpSeq_take (d := 127) (v := ?_) rfl rfl (by kernel_rfl) (fun w hS => ?_) ?_
                  rotate_left
                  · go_simp <;> with_reducible rfl
                  dsimp only [List.set_cons_zero, List.set_cons_succ]
                  refine wpSeq_take (d := 128) (v := ?_) rfl rfl (by kernel_rfl) (fun w hS => ?_) ?_
                  rotate_left
                  · go_simp <;> with_reducible rfl
                  dsimp only [List.set_cons_zero, List.set_cons_succ]
                  refine wpSeq_take (d := 129) (v := ?_) rfl rfl (by kernel_rfl) (fun w hS => ?_) ?_
                  rotate_left
                  · go_simp <;> with_reducible rfl
                  dsimp only [List.set_cons_zero, List.set_cons_succ]
                  refine wpSeq_take (d := 130) (v := ?_) rfl rfl (by kernel_rfl) (fun w hS => ?_) ?_
                  rotate_left
                  · go_simp <;> with_reducible rfl
                  dsimp only [List.set_cons_zero, List.set_cons_succ]
                  refine wpSeq_take (d := 131) (v := ?_) rfl rfl (by kernel_rfl) (fun w hS => ?_) ?_
                  rotate_left
                  · go_simp <;> with_reducible rfl
                  dsimp only [List.set_cons_zero, List.set_cons_succ]
                  refine wpSeq_take (d := 133) (v := ?_) rfl rfl (by kernel_rfl) (fun w hS => ?_) ?_
                  rotate_left
                  · go_simp <;> with_reducible rfl
                  dsimp only [List.set_cons_zero, List.set_cons_succ]
                  refine wpSeq_call rfl (by kernel_rfl) (fun K hK => ?_)
                  go_simp
                  (with_reducible refine (cS _ hH.2.2).mono ?_)
                  rintro e w' ⟨rfl, hq⟩
                  refine hK.out _ _ ?_ (fun hH => ?_)
                  · exact ⟨hq.keep hH.1, hq.keep hH.2.1, hH.2.2.trans hq⟩
                  clear hK
                  refine wpSeq_take (d := 134) (v := ?_) rfl rfl (by kernel_rfl) (fun w hS => ?_) ?_
                  rotate_left
                  · go_simp <;> with_reducible rfl
                  dsimp only [List.set_cons_zero, List.set_cons_succ]
                  refine wpSeq_take (d := 135) (v := ?_) rfl rfl (by kernel_rfl) (fun w hS => ?_) ?_
                  rotate_left
                  · go_simp <;> with_reducible rfl
                  dsimp only [List.set_cons_zero, List.set_cons_succ]
                  refine wpSeq_take (d := 136) (v := ?_) rfl rfl (by kernel_rfl) (fun w hS => ?_) ?_
                  rotate_left
                  · go_simp <;> with_reducible rfl
                  dsimp only [List.set_cons_zero, List.set_cons_succ]
                  refine wpSeq_take (d := 137) (v := ?_) rfl rfl (by kernel_rfl) (fun w hS => ?_) ?_
                  rotate_left
                  · go_simp <;> with_reducible rfl
                  dsimp only [List.set_cons_zero, List.set_cons_succ]
                  refine wpSeq_take (d := 138) (v := ?_) rfl rfl (by kernel_rfl) (fun w hS => ?_) ?_
                  rotate_left
                  · go_simp <;> with_reducible rfl
                  dsimp only [List.set_cons_zero, List.set_cons_succ]
                  refine wpSeq_take (d := 139) (v := ?_) rfl rfl (by kernel_rfl) (fun w hS => ?_) ?_
                  rotate_left
                  · go_simp <;> with_reducible rfl
                  dsimp only [List.set_cons_zero, List.set_cons_succ]
                  refine wpSeq_take (d := 141) (v := ?_) rfl rfl (by kernel_rfl) (fun w hS => ?_) ?_
                  rotate_left
                  · go_simp <;> with_reducible rfl
                  dsimp only [List.set_cons_zero, List.set_cons_succ]
                  refine wpSeq_take (d := 142) (v := ?_) rfl rfl (by kernel_rfl) (fun w hS => ?_) ?_
                  rotate_left
                  · go_simp <;> with_reducible rfl
                  dsimp only [List.set_cons_zero, List.set_cons_succ]
                  refine wpSeq_take (d := 143) (v := ?_) rfl rfl (by kernel_rfl) (fun w hS => ?_) ?_
                  rotate_left
                  · go_simp <;> with_reducible rfl
                  dsimp only [List.set_cons_zero, List.set_cons_succ]
                  refine wpSeq_take (d := 144) (v := ?_) rfl rfl (by kernel_rfl) (fun w hS => ?_) ?_
                  rotate_left
                  · go_simp <;> with_reducible rfl
                  dsimp only [List.set_cons_zero, List.set_cons_succ]
                  refine wpSeq_take (d := 147) (v := ?_) rfl rfl (by kernel_rfl) (fun w hS => ?_) ?_
                  rotate_left
                  · go_simp <;> with_reducible rfl
                  dsimp only [List.set_cons_zero, List.set_cons_succ]
                  refine wpSeq_call rfl (by kernel_rfl) (fun K hK => ?_)
                  go_simp
                  (with_reducible refine (cY1 _ hH.2.2).mono ?_)
                  rintro e w' ⟨rfl, hq⟩
                  refine hK.out _ _ ?_ (fun hH => ?_)
                  · exact ⟨hq.keep hH.1, hq.keep hH.2.1, hH.2.2.trans hq⟩
                  clear hK
                  refine wpSeq_call rfl (by kernel_rfl) (fun K hK => ?_)
                  go_simp
                  (with_reducible refine (cY2 _ hH.2.2).mono ?_)
                  rintro e w' ⟨rfl, hq⟩
                  refine hK.out _ _ ?_ (fun hH => ?_)
                  · exact ⟨hq.keep hH.1, hq.keep hH.2.1, hH.2.2.trans hq⟩
                  clear hK
                  refine wpSeq_take (d := 146) (v := ?_) rfl rfl (by kernel_rfl) (fun w hS => ?_) ?_
                  rotate_left
                  · go_simp <;> with_reducible rfl
                  dsimp only [List.set_cons_zero, List.set_cons_succ]
                  refine wpSeq_take (d := 148) (v := ?_) rfl rfl (by kernel_rfl) (fun w hS => ?_) ?_
                  rotate_left
                  · go_simp <;> with_reducible rfl
                  dsimp only [List.set_cons_zero, List.set_cons_succ]
                  refine wpSeq_take (d := 149) (v := ?_) rfl rfl (by kernel_rfl) (fun w hS => ?_) ?_
                  rotate_left
                  · go_simp <;> with_reducible rfl
                  dsimp only [List.set_cons_zero, List.set_cons_succ]
                  refine wpSeq_done ?_
                  refine NoPanic.normal ?_
                  obtain ⟨ci, cn, gi⟩ := hH
                  go_wp2
                  go_roundw
                  case rel => exact ⟨n + 1, by omega, by go_num, gi⟩
                  case measure => simp [intOf]; omega
              · have hnB : decide ((n : Int) < 5) = false := decide_eq_false (by omega)
                go_wp2
                go_roundw
                case rel => exact ⟨i + 1, by omega, by go_num, gi⟩
                case measure => simp [intOf]; omega
          · have hiB : decide ((i : Int) < 5) = false := decide_eq_false (by omega)
            go_wp2
            go_ret
            exact ⟨rfl, gF.trans g0⟩
    · replace cA := fun w hv => cA w hv true (decide_eq_true ga)
      replace cB := fun w hv => cB w hv false (decide_eq_false gb)
      go_enter Tryd.func3, Tryd.ntmps3
      go_wp2_with fail
      refine (c0 _).mono ?_
      rintro e W1 ⟨rfl, g⟩
      go_wp2_with fail
      refine (cA _ (HA.out.keepB g)).mono ?_
      rintro e W2 ⟨rfl, rfl⟩
      go_wp2_with fail
      refine (cB _ (HB.out.keepB g)).mono ?_
      rintro e W2 ⟨rfl, rfl⟩
      go_wp2
      go_ret
      exact ⟨rfl, g⟩
  · replace cA := fun w hv => cA w hv false (decide_eq_false ga)
    go_enter Tryd.func3, Tryd.ntmps3
    go_wp2_with fail
    refine (c0 _).mono ?_
    rintro e W1 ⟨rfl, g⟩
    go_wp2_with fail
    refine (cA _ (HA.out.keepB g)).mono ?_
    rintro e W2 ⟨rfl, rfl⟩
    go_wp2
    go_ret
    exact ⟨rfl, g⟩

theorem keys_ok (v0 : Value) (l0 : List Sec) (v1 : Value) (l1 : List Sec) (k j x : Int) (hk : (Lit.int .u8 k).wf = true) (hj : (Lit.int .u8 j).wf = true) (hx : (Lit.int .i64 x).wf = true) (w : World) (ha : IsSecs w v0 l0) (hb : IsSecs w v1 l1)
    (htab : Lib.TabIs Tryd.prog w "internal/strconv.uint64pow10" .u64 Lib.pow10Tab) :
    Calls Tryd.prog 3 #[v0, v1, .int .u8 k, .int .u8 j, .int .i64 x] w fun e w' => e = .returned (.bool true) ∧ B w w' :=
  keys_law v0 v1 l0 l1 k j x hk hj hx w ha hb htab
end Go.Proofs.YthibjkjdimgipaaDoor
