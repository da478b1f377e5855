/-
  The document's own Same.
-/
import Derived.Test.YtppiocopokbdlaaDoorChecked
import Derived.Test.YtppiocopokbdlaaDoorSec
import Derived.Test.YtppiocopokbdlaaDoorReg
namespace Go.Proofs.YtppiocopokbdlaaDoor
open Go.RowKit

theorem take_same {l m : List Sec} (h : ∀ i, i < l.length → l[i]? = m[i]?) (hl : l.length = m.length) : l = m := by
  refine List.ext_getElem? fun i => ?_
  by_cases c : i < l.length
  · exact h i c
  · rw [List.getElem?_eq_none (by omega), List.getElem?_eq_none (by omega)]

theorem r3same_row (a b : Addr) (ca cb : Nat) (l m : List Sec) (ha : ca ≤ maxLen) (ha2 : l.length ≤ ca) (w : World)
    (h4 : ∀ i s, l[i]? = some s → s.I ∧ SecAt w (a.add (i * 6)) s) (k4 : ∀ i s, m[i]? = some s → s.I ∧ SecAt w (b.add (i * 6)) s) (hlm : l.length = m.length) :
    Calls Tryd.prog 13 #[.slice (some a) l.length ca, .slice (some b) m.length cb] w fun e w' => e = .returned (.bool (decide (l = m))) ∧ Q w w' := by
  unfold maxLen at ha
  have h5 : l.length ≤ 2 ^ 63 - 1 := Nat.le_trans ha2 ha
  clear ha ha2
  have hlm' : ((l.length : Int) != (m.length : Int)) = false := by simp; omega
  go_enter Tryd.func13, Tryd.ntmps13
  go_wp2_with fail
  go_loopw [5] (fun i wr => ∃ k : Nat, k ≤ l.length ∧ i = .int .i64 k ∧ (∀ j, j < k → l[j]? = m[j]?) ∧ Q w wr) (fun i _ => l.length - (intOf i).toNat)
  case atStart => exact ⟨0, Nat.zero_le _, rfl, by omega, Q.refl _⟩
  case round =>
    obtain ⟨k, hk, rfl, hj, hq⟩ := hrel
    by_cases hl : k < l.length
    · have hl2 : k < m.length := by omega
      have hlB : decide (k < l.length) = true := decide_eq_true hl
      have b1 : (k : Int) < (l.length : Int) := by omega
      have b2 : (k : Int) < (m.length : Int) := by omega
      have g1 := List.getElem?_eq_getElem hl
      have g2 := List.getElem?_eq_getElem hl2
      have s1 := (h4 k _ g1).2.keep hq
      have s2 := (k4 k _ g2).2.keep hq
      generalize l[k] = s at *
      generalize m[k] = t at *
      obtain ⟨r, h, a0, b0, a1, b1⟩ := s
      obtain ⟨r', h', a0', b0', a1', b1'⟩ := t
      obtain ⟨x0, x1, x2, x3, x4, x5⟩ := s1
      obtain ⟨y0, y1, y2, y3, y4, y5⟩ := s2
      simp only at x0 x1 x2 x3 x4 x5 y0 y1 y2 y3 y4 y5
      have HJ := Lib.hid hj
      have HG := Lib.hid (And.intro g1 g2)
      clear hj g1 g2 h4 k4 hlm
      by_cases he : r = r' ∧ h = h' ∧ a0 = a0' ∧ b0 = b0' ∧ a1 = a1' ∧ b1 = b1'
      · obtain ⟨rfl, rfl, rfl, rfl, rfl, rfl⟩ := he
        go_wp2_with fail
        refine wp_region_noPanic ?_
        refine wp_region_seq (S := fun w' => w'.cell? (a.add (k * 6)) = some (.bool r) ∧ w'.cell? ⟨(a.add (k * 6)).block, (a.add (k * 6)).off + 1, none⟩ = some (.int .i64 h) ∧ w'.cell? ⟨(a.add (k * 6)).block, (a.add (k * 6)).off + 2, none⟩ = some (.int .i64 a0) ∧ w'.cell? ⟨(a.add (k * 6)).block, (a.add (k * 6)).off + 3, none⟩ = some (.int .i64 b0) ∧ w'.cell? ⟨(a.add (k * 6)).block, (a.add (k * 6)).off + 4, none⟩ = some (.int .i64 a1) ∧ w'.cell? ⟨(a.add (k * 6)).block, (a.add (k * 6)).off + 5, none⟩ = some (.int .i64 b1) ∧ w'.cell? (b.add (k * 6)) = some (.bool r) ∧ w'.cell? ⟨(b.add (k * 6)).block, (b.add (k * 6)).off + 1, none⟩ = some (.int .i64 h) ∧ w'.cell? ⟨(b.add (k * 6)).block, (b.add (k * 6)).off + 2, none⟩ = some (.int .i64 a0) ∧ w'.cell? ⟨(b.add (k * 6)).block, (b.add (k * 6)).off + 3, none⟩ = some (.int .i64 b0) ∧ w'.cell? ⟨(b.add (k * 6)).block, (b.add (k * 6)).off + 4, none⟩ = some (.int .i64 a1) ∧ w'.cell? ⟨(b.add (k * 6)).block, (b.add (k * 6)).off + 5, none⟩ = some (.int .i64 b1) ∧ Q w w') [(0, 0), (1, 0), (2, 0), (3, 0), (4, 0), (5, 0), (6, 0), (7, 0), (8, 0)] [0, 0, 3, 4, 0, 0, 48, 64, 136] [0, 0, 3, 4, 0, 0, 48, 64, 136] (by kernel_rfl) (by kernel_rfl) (fun _ _ _ _ _ h => h) ?_ (fun hH => ?_)
        · exact ⟨by simp [go_sem, x0], by simp [go_sem, x1], by simp [go_sem, x2], by simp [go_sem, x3], by simp [go_sem, x4], by simp [go_sem, x5], by simp [go_sem, y0], by simp [go_sem, y1], by simp [go_sem, y2], by simp [go_sem, y3], by simp [go_sem, y4], by simp [go_sem, y5], hq.drew⟩
        refine wpSeq_take (d := 17) (v := ?_) rfl rfl (by kernel_rfl) (fun w hS => ?_) ?_
        rotate_left
        · go_simp <;> with_reducible rfl
        dsimp only [List.set_cons_zero, List.set_cons_succ]
        refine wpSeq_take (d := 18) (v := ?_) rfl rfl (by kernel_rfl) (fun w hS => ?_) ?_
        rotate_left
        · go_simp <;> with_reducible rfl
        dsimp only [List.set_cons_zero, List.set_cons_succ]
        refine wpSeq_take (d := 19) (v := ?_) rfl rfl (by kernel_rfl) (fun w hS => ?_) ?_
        rotate_left
        · go_simp <;> with_reducible rfl
        dsimp only [List.set_cons_zero, List.set_cons_succ]
        refine wpSeq_take (d := 20) (v := ?_) rfl rfl (by kernel_rfl) (fun w hS => ?_) ?_
        rotate_left
        · go_simp <;> with_reducible rfl
        dsimp only [List.set_cons_zero, List.set_cons_succ]
        refine wpSeq_take (d := 21) (v := ?_) rfl rfl (by kernel_rfl) (fun w hS => ?_) ?_
        rotate_left
        · go_simp <;> with_reducible rfl
        dsimp only [List.set_cons_zero, List.set_cons_succ]
        refine wpSeq_take (d := 22) (v := ?_) rfl rfl (by kernel_rfl) (fun w hS => ?_) ?_
        rotate_left
        · go_simp <;> with_reducible rfl
        dsimp only [List.set_cons_zero, List.set_cons_succ]
        refine wpSeq_take (d := 23) (v := ?_) rfl rfl (by kernel_rfl) (fun w hS => ?_) ?_
        rotate_left
        · go_simp <;> with_reducible rfl
        dsimp only [List.set_cons_zero, List.set_cons_succ]
        refine wpSeq_take (d := 24) (v := ?_) rfl rfl (by kernel_rfl) (fun w hS => ?_) ?_
        rotate_left
        · go_simp <;> with_reducible rfl
        dsimp only [List.set_cons_zero, List.set_cons_succ]
        refine wpSeq_take (d := 25) (v := ?_) rfl rfl (by kernel_rfl) (fun w hS => ?_) ?_
        rotate_left
        · go_simp <;> with_reducible rfl
        dsimp only [List.set_cons_zero, List.set_cons_succ]
        refine wpSeq_done ?_
        refine NoPanic.normal ?_
        clear hH
        go_wp2
        go_roundw
        case rel =>
          refine ⟨k + 1, by omega, by go_num, ?_, hq.drew⟩
          intro j hj
          by_cases e : j = k
          · subst e; rw [HG.out.1, HG.out.2]
          · exact HJ.out j (by omega)
        case measure => simp [intOf]; omega
      · have HN : Hid (decide (l = m) = false) := Lib.hid (decide_eq_false (fun e => he (by
          have h1 := HG.out.1
          rw [e, HG.out.2] at h1
          simpa [eq_comm] using h1)))
        have HE := Lib.hid he
        clear he
        go_wp2_with fail
        refine wp_region_noPanic ?_
        refine wp_region_seq (S := fun w' => w'.cell? (a.add (k * 6)) = some (.bool r) ∧ w'.cell? ⟨(a.add (k * 6)).block, (a.add (k * 6)).off + 1, none⟩ = some (.int .i64 h) ∧ w'.cell? ⟨(a.add (k * 6)).block, (a.add (k * 6)).off + 2, none⟩ = some (.int .i64 a0) ∧ w'.cell? ⟨(a.add (k * 6)).block, (a.add (k * 6)).off + 3, none⟩ = some (.int .i64 b0) ∧ w'.cell? ⟨(a.add (k * 6)).block, (a.add (k * 6)).off + 4, none⟩ = some (.int .i64 a1) ∧ w'.cell? ⟨(a.add (k * 6)).block, (a.add (k * 6)).off + 5, none⟩ = some (.int .i64 b1) ∧ w'.cell? (b.add (k * 6)) = some (.bool r') ∧ w'.cell? ⟨(b.add (k * 6)).block, (b.add (k * 6)).off + 1, none⟩ = some (.int .i64 h') ∧ w'.cell? ⟨(b.add (k * 6)).block, (b.add (k * 6)).off + 2, none⟩ = some (.int .i64 a0') ∧ w'.cell? ⟨(b.add (k * 6)).block, (b.add (k * 6)).off + 3, none⟩ = some (.int .i64 b0') ∧ w'.cell? ⟨(b.add (k * 6)).block, (b.add (k * 6)).off + 4, none⟩ = some (.int .i64 a1') ∧ w'.cell? ⟨(b.add (k * 6)).block, (b.add (k * 6)).off + 5, none⟩ = some (.int .i64 b1') ∧ Q w w') [(0, 0), (1, 0), (2, 0), (3, 0), (4, 0), (5, 0), (6, 0), (7, 0), (8, 0)] [0, 0, 3, 4, 0, 0, 48, 64, 136] [0, 0, 3, 4, 0, 0, 48, 64, 136] (by kernel_rfl) (by kernel_rfl) (fun _ _ _ _ _ h => h) ?_ (fun hH => ?_)
        · exact ⟨by simp [go_sem, x0], by simp [go_sem, x1], by simp [go_sem, x2], by simp [go_sem, x3], by simp [go_sem, x4], by simp [go_sem, x5], by simp [go_sem, y0], by simp [go_sem, y1], by simp [go_sem, y2], by simp [go_sem, y3], by simp [go_sem, y4], by simp [go_sem, y5], hq.drew⟩
        refine wpSeq_take (d := 17) (v := ?_) rfl rfl (by kernel_rfl) (fun w hS => ?_) ?_
        rotate_left
        · go_simp <;> with_reducible rfl
        dsimp only [List.set_cons_zero, List.set_cons_succ]
        refine wpSeq_take (d := 18) (v := ?_) rfl rfl (by kernel_rfl) (fun w hS => ?_) ?_
        rotate_left
        · go_simp <;> with_reducible rfl
        dsimp only [List.set_cons_zero, List.set_cons_succ]
        refine wpSeq_take (d := 19) (v := ?_) rfl rfl (by kernel_rfl) (fun w hS => ?_) ?_
        rotate_left
        · go_simp <;> with_reducible rfl
        dsimp only [List.set_cons_zero, List.set_cons_succ]
        refine wpSeq_take (d := 20) (v := ?_) rfl rfl (by kernel_rfl) (fun w hS => ?_) ?_
        rotate_left
        · go_simp <;> with_reducible rfl
        dsimp only [List.set_cons_zero, List.set_cons_succ]
        refine wpSeq_take (d := 21) (v := ?_) rfl rfl (by kernel_rfl) (fun w hS => ?_) ?_
        rotate_left
        · go_simp <;> with_reducible rfl
        dsimp only [List.set_cons_zero, List.set_cons_succ]
        refine wpSeq_take (d := 22) (v := ?_) rfl rfl (by kernel_rfl) (fun w hS => ?_) ?_
        rotate_left
        · go_simp <;> with_reducible rfl
        dsimp only [List.set_cons_zero, List.set_cons_succ]
        refine wpSeq_take (d := 23) (v := ?_) rfl rfl (by kernel_rfl) (fun w hS => ?_) ?_
        rotate_left
        · go_simp <;> with_reducible rfl
        dsimp only [List.set_cons_zero, List.set_cons_succ]
        refine wpSeq_take (d := 24) (v := ?_) rfl rfl (by kernel_rfl) (fun w hS => ?_) ?_
        rotate_left
        · go_simp <;> with_reducible rfl
        dsimp only [List.set_cons_zero, List.set_cons_succ]
        refine wpSeq_take (d := 25) (v := .bool true) rfl rfl (by kernel_rfl) (fun w hS => ?_) ?_
        · (have he := HE.out; go_simp; exact fun e0 e1 e2 e3 e4 e5 => he ⟨e0, e1, e2, e3, e4, e5⟩)
        dsimp only [List.set_cons_zero, List.set_cons_succ]
        refine wpSeq_done ?_
        refine NoPanic.normal ?_
        clear hH
        go_wp2
        go_ret
        exact ⟨by rw [HN.out]; rfl, hq.drew⟩
    · have hlB : decide (k < l.length) = false := decide_eq_false hl
      obtain rfl : k = l.length := by omega
      have HE : Hid (decide (l = m) = true) := Lib.hid (decide_eq_true (take_same hj hlm))
      clear h4 k4 hj
      go_wp2
      go_ret
      exact ⟨by rw [HE.out]; rfl, hq⟩

theorem r3same_any (v u : Value) (l m : List Sec) (w : World) (hv : IsSecs w v l) (hu : IsSecs w u m) :
    Calls Tryd.prog 13 #[v, u] w fun e w' => e = .returned (.bool (decide (l = m))) ∧ Q w w' := by
  by_cases hlm : l.length = m.length
  · rcases hv with ⟨rfl, rfl⟩ | ⟨a, ca, rfl, h2, h3, h4⟩
    · have hm : m = [] := List.eq_nil_of_length_eq_zero (by simpa using hlm.symm)
      subst hm
      obtain ⟨ub, uc, rfl⟩ : ∃ ub uc, u = .slice ub 0 uc := by
        rcases hu with ⟨rfl, _⟩ | ⟨b, cb, rfl, _⟩
        · exact ⟨_, _, rfl⟩
        · exact ⟨_, _, rfl⟩
      clear hu hlm
      go_enter Tryd.func13, Tryd.ntmps13
      go_wp2
      go_loop [5] (fun i => i = .int .i64 0) (fun _ => 0)
      case atStart => exact rfl
      case round =>
        obtain rfl := hrel
        go_wp2
        go_ret
        exact ⟨rfl, Q.refl w⟩
    · rcases hu with ⟨rfl, rfl⟩ | ⟨b, cb, rfl, k2, k3, k4⟩
      · have hl : l = [] := List.eq_nil_of_length_eq_zero (by simpa using hlm)
        subst hl
        clear h4 hlm
        go_enter Tryd.func13, Tryd.ntmps13
        go_wp2
        go_loop [5] (fun i => i = .int .i64 0) (fun _ => 0)
        case atStart => exact rfl
        case round =>
          obtain rfl := hrel
          go_wp2
          go_ret
          exact ⟨rfl, Q.refl w⟩
      · exact r3same_row a b ca cb l m h3 h2 w h4 k4 hlm
  · have hne : ((l.length : Int) != (m.length : Int)) = true := by simp; omega
    have HD : Hid (decide (l = m) = false) := Lib.hid (decide_eq_false (fun e => hlm (by rw [e])))
    obtain ⟨va, vc, rfl⟩ : ∃ va vc, v = .slice va l.length vc := by
      rcases hv with ⟨rfl, rfl⟩ | ⟨b, cb, rfl, _⟩
      · exact ⟨_, _, rfl⟩
      · exact ⟨_, _, rfl⟩
    obtain ⟨ua, uc, rfl⟩ : ∃ ua uc, u = .slice ua m.length uc := by
      rcases hu with ⟨rfl, rfl⟩ | ⟨b, cb, rfl, _⟩
      · exact ⟨_, _, rfl⟩
      · exact ⟨_, _, rfl⟩
    clear hv hu hlm
    go_enter Tryd.func13, Tryd.ntmps13
    go_wp2
    go_ret
    exact ⟨by rw [HD.out]; rfl, Q.refl w⟩
end Go.Proofs.YtppiocopokbdlaaDoor
