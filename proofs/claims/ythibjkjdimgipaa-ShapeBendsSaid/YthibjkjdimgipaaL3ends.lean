/-
  Layer 3: the walk of ShapeEnds.
-/
import Derived.Test.YthibjkjdimgipaaL3a
import Derived.Test.YthibjkjdimgipaaReg
namespace Go.Proofs.Ythibjkjdimgipaa
open Go.RowKit

theorem inB_iff {v a b : Int} : inB v a b = true ↔ a ≤ v ∧ v ≤ b := by unfold inB; simp
theorem secOk_all {s : Sec} (h : secOk s = true) : 1 ≤ s.h ∧ s.h ≤ 60000 ∧ 0 ≤ s.a0 ∧ s.a0 ≤ 20000 ∧ 1 ≤ s.a1 ∧ s.a1 ≤ 20000 ∧ 0 ≤ s.b0 ∧ s.b0 ≤ 20000 ∧ 0 ≤ s.b1 ∧ s.b1 ≤ 20000 ∧ (s.r = true → s.b0 = 0 ∧ s.b1 = 0) := by
  unfold secOk at h
  simp only [Bool.and_eq_true, decide_eq_true_eq, inB_iff] at h
  obtain ⟨⟨⟨⟨⟨h1, h2⟩, _⟩, h4, h5⟩, h6, h7⟩, h8⟩ := h
  cases hr : s.r
  · rw [hr, if_neg (by decide)] at h8
    simp only [Bool.and_eq_true, inB_iff] at h8
    refine ⟨h1, h2, h4, h5, h6, h7, by omega, by omega, by omega, by omega, by simp⟩
  · rw [hr, if_pos rfl] at h8
    simp only [Bool.and_eq_true, decide_eq_true_eq] at h8
    refine ⟨h1, h2, h4, h5, h6, h7, by omega, by omega, by omega, by omega, fun _ => h8⟩
theorem right_all {l : List Sec} (h : rightS l = true) : 1 ≤ l.length ∧ l.length ≤ 4 ∧ ∀ s ∈ l, secOk s = true := by
  unfold rightS at h
  simp only [Bool.and_eq_true, decide_eq_true_eq] at h
  exact ⟨h.1.1.1, h.1.1.2, List.all_eq_true.1 h.1.2⟩
theorem sideOf_ok {s : Sec} (h : secOk s = true) (at_ : Int) (up : Bool) : sideOf s at_ up = (sideM s.a0 s.a1 (min (max at_ 0) s.h) s.h up, if s.r then 0 else sideM s.b0 s.b1 (min (max at_ 0) s.h) s.h up) := by
  obtain ⟨h1, h2, h3, h4, h5, h6, h7, h8, h9, h10, _⟩ := secOk_all h
  unfold sideOf
  rw [if_pos ⟨h1, inB_iff.2 ⟨h3, h4⟩, inB_iff.2 ⟨by omega, h6⟩, inB_iff.2 ⟨h7, h8⟩, inB_iff.2 ⟨h9, h10⟩⟩]
theorem sideOf_low {s : Sec} (h : secOk s = true) (at_ : Int) (ha : at_ ≤ 0) (up : Bool) : sideOf s at_ up = (s.a0, s.b0) := by
  obtain ⟨h1, h2, h3, h4, h5, h6, h7, h8, h9, h10, hr⟩ := secOk_all h
  rw [sideOf_ok h, show min (max at_ 0) s.h = 0 by omega, side_low h1, side_low h1]
  cases e : s.r
  · rfl
  · rw [if_pos rfl, (hr e).1]
theorem sideOf_high {s : Sec} (h : secOk s = true) (at_ : Int) (ha : s.h ≤ at_) (up : Bool) : sideOf s at_ up = (s.a1, s.b1) := by
  obtain ⟨h1, h2, h3, h4, h5, h6, h7, h8, h9, h10, hr⟩ := secOk_all h
  rw [sideOf_ok h, show min (max at_ 0) s.h = s.h by omega, side_high h3 h4 (by omega) h6 h1, side_high h7 h8 h9 h10 h1]
  cases e : s.r
  · rfl
  · rw [if_pos rfl, (hr e).2]
theorem IsU16.form {w : World} {v : Value} {n : Nat} (h : IsU16 w v n) : ∃ ao cap, v = .slice ao n cap ∧ n ≤ 9223372036854775807 := by
  rcases h with ⟨rfl, rfl⟩ | ⟨a, cap, rfl, h1, h2, _⟩
  · exact ⟨_, _, rfl, by omega⟩
  · exact ⟨_, _, rfl, by unfold maxLen at h2; omega⟩
theorem IsU16.keepB {w w' : World} {v : Value} {n : Nat} (h : IsU16 w v n) (q : B w w') : IsU16 w' v n := by
  rcases h with h | ⟨a, cap, h1, h2, h3, h4⟩
  · exact .inl h
  · exact .inr ⟨a, cap, h1, h2, h3, fun i hi => by obtain ⟨x, a1, a2, a3⟩ := h4 i hi; exact ⟨x, a1, a2, q.keep a3⟩⟩
/-- Two Bools stand in a block. -/
def TwoB (w : World) (b : Nat) : Prop := ∀ m : Nat, m < 2 → ∃ up, w.cell? ⟨b, m, none⟩ = some (.bool up)
theorem twoB_new (w : World) (t : TypeId) (x y : Bool) : TwoB (w.alloc (.cells #[.bool x, .bool y] t)) w.heap.size := by
  intro m hm
  rw [World.cell?_alloc_new]
  match m, hm with
  | 0, _ => exact ⟨_, rfl⟩
  | 1, _ => exact ⟨_, rfl⟩
theorem TwoB.keep {w w' : World} {b : Nat} (h : TwoB w b) (q : B w w') : TwoB w' b := fun m hm => by
  obtain ⟨u, hu⟩ := h m hm
  exact ⟨u, q.keep hu⟩

set_option maxRecDepth 100000 in
set_option maxHeartbeats 8000000 in
theorem ends_law (hS : SideC) (hR : RightC) (hH : HeightC) (v : Value) (n : Nat) (rd : Bool) (far : Int) (w : World) (hv : IsU16 w v n) :
    Calls Try.prog 5 #[v, .bool rd, .int .i32 far] w fun e w' => e = .returned (.bool true) ∧ B w w' := by
  obtain ⟨u, ru⟩ : ∃ u, IntKind.u32.wrap far = u := ⟨_, rfl⟩
  have u12 : 0 ≤ u ∧ u ≤ 4294967295 := by rw [← ru]; simp [IntKind.wrap, IntKind.signed, IntKind.bits]; omega
  obtain ⟨u1, u2⟩ := u12
  have ru' : IntKind.i64.wrap u = u := wrapI (by omega) (by omega)
  have c0 := known3_any hS hR hH
  have cW := fun w h => wild_any v n rd w h
  obtain ⟨ao, cap0, rfl, hn⟩ := hv.form
  clear hR hH
  by_cases hn40 : 40 < n
  · have n40 : decide ((40 : Int) < (n : Int)) = true := decide_eq_true (by omega)
    clear hv
    go_enter Try.func5, Try.ntmps5
    go_wp2_with fail
    refine (c0 _).mono ?_
    rintro e w1 ⟨rfl, g⟩
    go_wp2
    go_ret
    exact ⟨rfl, g⟩
  have n40 : decide ((40 : Int) < (n : Int)) = false := decide_eq_false (by omega)
  have HV := Lib.hid hv
  clear hv
  go_enter Try.func5, Try.ntmps5
  go_wp2_with fail
  refine (c0 _).mono ?_
  rintro e w1 ⟨rfl, g⟩
  go_wp2_with fail
  refine (cW _ (HV.out.keepB g)).mono ?_
  rintro e w2 ⟨v2, l, rfl, hl, hr, g2⟩
  replace g := g.trans g2
  clear g2 cW c0 HV
  obtain ⟨hl1, hl4, hok⟩ := right_all hr
  rcases hl with ⟨rfl, rfl⟩ | ⟨a, cap, rfl, _, _, h4⟩
  · simp at hl1
  clear hr hl1
  go_wp2
  go_loopw [8] (fun i wr => ∃ k : Nat, k ≤ l.length ∧ i = .int .i64 k ∧ B w2 wr) (fun i _ => l.length - (intOf i).toNat)
  case atStart => exact ⟨0, Nat.zero_le _, rfl, B.refl _⟩
  case round =>
    obtain ⟨k, hk, rfl, hq⟩ := hrel
    by_cases hlt : k < l.length
    · have hlB : decide (k < l.length) = true := decide_eq_true hlt
      obtain ⟨hI, hs⟩ := h4 k _ (List.getElem?_eq_getElem hlt)
      have hoks := hok _ (List.getElem_mem hlt)
      generalize l[k] = s at *
      obtain ⟨r, h, a0, b0, a1, b1⟩ := s
      obtain ⟨hh1, hh2, _⟩ := secOk_all hoks
      have e1 := fun up => sideOf_low hoks (-u) (by omega) up
      have e2 := fun up => sideOf_high hoks (h + u) (by simp; omega) up
      simp only at hh1 hh2 e1 e2
      have H4 := Lib.hid h4
      have HK := Lib.hid hok
      clear h4 hok hoks
      have rh : IntKind.i64.wrap (h + u) = h + u := wrapI (by omega) (by omega)
      have ih : I64 (h + u) := by unfold I64; omega
      have iu : I64 (-u) := by unfold I64; omega
      go_wp2
      have T2 := twoB_new wr 4 false true
      have q1 := hq.alloc #[.bool false, .bool true] 4
      generalize wr.alloc (.cells #[.bool false, .bool true] 4) = W1 at *
      generalize wr.heap.size = bb at *
      obtain ⟨wo, rfl⟩ : ∃ wo : World, wo = wr := ⟨_, rfl⟩
      go_loopw [31] (fun i wr => ∃ m : Nat, m ≤ 2 ∧ i = .int .i64 m ∧ B W1 wr) (fun i _ => 2 - (intOf i).toNat)
      case atStart => exact ⟨0, Nat.zero_le _, rfl, B.refl _⟩
      case round =>
        obtain ⟨m, hm, rfl, g1⟩ := hrel
        by_cases hm2 : m < 2
        · have hmB : decide ((m : Int) < 2) = true := decide_eq_true (by omega)
          obtain ⟨up, hup⟩ := (T2.keep g1) m hm2
          have c1 := fun w => hS r h a0 b0 a1 b1 (-u) up w hI iu
          have c2 := fun w => hS r h a0 b0 a1 b1 (h + u) up w hI ih
          rw [e1 up] at c1
          rw [e2 up] at c2
          obtain ⟨z0, z1, z2, z3, z4, z5⟩ := (hs.keepB q1).keepB g1
          simp only at z0 z1 z2 z3 z4 z5
          clear e1 e2
          go_wp2_with fail
          refine (c1 _).mono ?_
          rintro e w5 ⟨rfl, q5⟩
          replace z0 := q5.keep z0
          replace z1 := q5.keep z1
          replace z2 := q5.keep z2
          replace z3 := q5.keep z3
          replace z4 := q5.keep z4
          replace z5 := q5.keep z5
          have g := g1.trans q5
          clear q5 c1
          go_wp2_with fail
          refine wp_region_noPanic ?_
          refine wp_region_seq (S := fun w' => w'.cell? (a.add (k * 6)) = some (.bool r) ∧ w'.cell? ⟨(a.add (k * 6)).block, (a.add (k * 6)).off + 1, none⟩ = some (.int .i64 h) ∧ w'.cell? ⟨(a.add (k * 6)).block, (a.add (k * 6)).off + 2, none⟩ = some (.int .i64 a0) ∧ w'.cell? ⟨(a.add (k * 6)).block, (a.add (k * 6)).off + 3, none⟩ = some (.int .i64 b0) ∧ w'.cell? ⟨(a.add (k * 6)).block, (a.add (k * 6)).off + 4, none⟩ = some (.int .i64 a1) ∧ w'.cell? ⟨(a.add (k * 6)).block, (a.add (k * 6)).off + 5, none⟩ = some (.int .i64 b1) ∧ B W1 w') [(0, 0), (1, 0), (2, 0), (3, 0), (4, 0), (5, 0), (6, 0), (7, 0), (8, 0), (9, 0), (10, 0), (11, 0), (12, 0), (13, 0), (14, 2), (15, 0), (16, 0), (17, 0), (18, 0), (19, 0)] [0, 0, 3, 4, 0, 0, 48, 64, 128, 0, 512, 1024, 2304, 0, 12296, 16384, 32768, 32768, 131071, 524287] [0, 0, 3, 4, 0, 0, 48, 64, 128, 0, 512, 1024, 2304, 0, 12296, 16384, 32768, 32768, 65536, 131072] (by kernel_rfl) (by kernel_rfl) (fun _ _ _ _ _ h => h) ?_ (fun hH => ?_)
          · exact ⟨by simp [go_sem, z0], by simp [go_sem, z1], by simp [go_sem, z2], by simp [go_sem, z3], by simp [go_sem, z4], by simp [go_sem, z5], g.drew⟩
          refine wpSeq_take (d := 49) (v := ?_) rfl rfl (by kernel_rfl) (fun w hS => ?_) ?_
          rotate_left
          · go_simp <;> with_reducible rfl
          dsimp only [List.set_cons_zero, List.set_cons_succ]
          refine wpSeq_take (d := 50) (v := ?_) rfl rfl (by kernel_rfl) (fun w hS => ?_) ?_
          rotate_left
          · go_simp <;> with_reducible rfl
          dsimp only [List.set_cons_zero, List.set_cons_succ]
          refine wpSeq_take (d := 51) (v := ?_) rfl rfl (by kernel_rfl) (fun w hS => ?_) ?_
          rotate_left
          · go_simp <;> with_reducible rfl
          dsimp only [List.set_cons_zero, List.set_cons_succ]
          refine wpSeq_take (d := 52) (v := ?_) rfl rfl (by kernel_rfl) (fun w hS => ?_) ?_
          rotate_left
          · go_simp <;> with_reducible rfl
          dsimp only [List.set_cons_zero, List.set_cons_succ]
          refine wpSeq_take (d := 53) (v := ?_) rfl rfl (by kernel_rfl) (fun w hS => ?_) ?_
          rotate_left
          · go_simp <;> with_reducible rfl
          dsimp only [List.set_cons_zero, List.set_cons_succ]
          refine wpSeq_take (d := 54) (v := ?_) rfl rfl (by kernel_rfl) (fun w hS => ?_) ?_
          rotate_left
          · go_simp <;> with_reducible rfl
          dsimp only [List.set_cons_zero, List.set_cons_succ]
          refine wpSeq_take (d := 55) (v := ?_) rfl rfl (by kernel_rfl) (fun w hS => ?_) ?_
          rotate_left
          · go_simp <;> with_reducible rfl
          dsimp only [List.set_cons_zero, List.set_cons_succ]
          refine wpSeq_take (d := 56) (v := ?_) rfl rfl (by kernel_rfl) (fun w hS => ?_) ?_
          rotate_left
          · go_simp <;> with_reducible rfl
          dsimp only [List.set_cons_zero, List.set_cons_succ]
          refine wpSeq_take (d := 57) (v := ?_) rfl rfl (by kernel_rfl) (fun w hS => ?_) ?_
          rotate_left
          · go_simp <;> with_reducible rfl
          dsimp only [List.set_cons_zero, List.set_cons_succ]
          refine wpSeq_take (d := 58) (v := ?_) rfl rfl (by kernel_rfl) (fun w hS => ?_) ?_
          rotate_left
          · go_simp <;> with_reducible rfl
          dsimp only [List.set_cons_zero, List.set_cons_succ]
          refine wpSeq_take (d := 59) (v := ?_) rfl rfl (by kernel_rfl) (fun w hS => ?_) ?_
          rotate_left
          · go_simp <;> with_reducible rfl
          dsimp only [List.set_cons_zero, List.set_cons_succ]
          refine wpSeq_take (d := 60) (v := ?_) rfl rfl (by kernel_rfl) (fun w hS => ?_) ?_
          rotate_left
          · go_simp <;> with_reducible rfl
          dsimp only [List.set_cons_zero, List.set_cons_succ]
          refine wpSeq_take (d := 61) (v := ?_) rfl rfl (by kernel_rfl) (fun w hS => ?_) ?_
          rotate_left
          · go_simp <;> with_reducible rfl
          dsimp only [List.set_cons_zero, List.set_cons_succ]
          refine wpSeq_take (d := 62) (v := ?_) rfl rfl (by kernel_rfl) (fun w hS => ?_) ?_
          rotate_left
          · go_simp <;> with_reducible rfl
          dsimp only [List.set_cons_zero, List.set_cons_succ]
          refine wpSeq_call rfl (by kernel_rfl) (fun K hK => ?_)
          go_simp
          (with_reducible refine (c2 _).mono ?_)
          rintro e w' ⟨rfl, hq⟩
          refine hK.out _ _ ?_ (fun hH => ?_)
          · exact ⟨hq.keep hH.1, hq.keep hH.2.1, hq.keep hH.2.2.1, hq.keep hH.2.2.2.1, hq.keep hH.2.2.2.2.1, hq.keep hH.2.2.2.2.2.1, hH.2.2.2.2.2.2.trans hq⟩
          clear hK
          refine wpSeq_take (d := 48) (v := ?_) rfl rfl (by kernel_rfl) (fun w hS => ?_) ?_
          rotate_left
          · go_simp <;> with_reducible rfl
          dsimp only [List.set_cons_zero, List.set_cons_succ]
          refine wpSeq_take (d := 64) (v := ?_) rfl rfl (by kernel_rfl) (fun w hS => ?_) ?_
          rotate_left
          · go_simp <;> with_reducible rfl
          dsimp only [List.set_cons_zero, List.set_cons_succ]
          refine wpSeq_take (d := 65) (v := ?_) rfl rfl (by kernel_rfl) (fun w hS => ?_) ?_
          rotate_left
          · go_simp <;> with_reducible rfl
          dsimp only [List.set_cons_zero, List.set_cons_succ]
          refine wpSeq_take (d := 13) (v := ?_) rfl rfl (by kernel_rfl) (fun w hS => ?_) ?_
          rotate_left
          · go_simp <;> with_reducible rfl
          dsimp only [List.set_cons_zero, List.set_cons_succ]
          refine wpSeq_take (d := 14) (v := ?_) rfl rfl (by kernel_rfl) (fun w hS => ?_) ?_
          rotate_left
          · go_simp <;> with_reducible rfl
          dsimp only [List.set_cons_zero, List.set_cons_succ]
          refine wpSeq_done ?_
          refine NoPanic.normal ?_
          obtain ⟨z0, z1, z2, z3, z4, z5, g⟩ := hH
          go_wp2
          go_roundw
          case rel => exact ⟨m + 1, by omega, by go_num, g⟩
          case measure => simp [intOf]; omega
        · have hmB : decide ((m : Int) < 2) = false := decide_eq_false (by omega)
          go_wp2
          go_roundw
          case rel => exact ⟨k + 1, by omega, by go_num, q1.trans g1⟩
          case measure => simp [intOf]; omega
    · have hlB : decide (k < l.length) = false := decide_eq_false hlt
      clear h4 hok
      go_wp2
      go_ret
      exact ⟨rfl, g.trans hq⟩
end Go.Proofs.Ythibjkjdimgipaa
