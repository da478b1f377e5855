/-
  A deck that is right comes back from its text. No program is named here; A deck that is right comes back from its lines, and what stands behind them is left. No program is named here; Wells' texts there and back. No program is named here; The statements' decks are right ones; each number has its well, each well its number; What the statements of wells know ahead; The code's wells: the number of a well, the well of a number; The code's wells: the well of a number; Wells and numbers. No program is named here but in the contracts' names.
-/
import Derived.Laws.StructEq
import Derived.Test.YtjcpabppklkjpaaDoorZ1
import Derived.Test.YtjcpabppklkjpaaDoorZ2
import Derived.Test.YtjcpabppklkjpaaDoorZ3
import Derived.Test.YtjcpabppklkjpaaDoorZ4
import Derived.Test.YtjcpabppklkjpaaDoorZ5
import Derived.Test.YtjcpabppklkjpaaDoorZ6
import Derived.Test.YtjcpabppklkjpaaDoorZ7
import Derived.Test.YtjcpabppklkjpaaDoorZ8
namespace Go.Proofs.YtjcpabppklkjpaaDoor
open Go.RowKit
theorem dec_ok {x : Int} (h0 : 0 ≤ x) (h1 : x ≤ 1000000000000) : numOk (strB (decI x)) = true ∧ ((numV (strB (decI x)) : Nat) : Int) = x := by
  obtain ⟨a, b⟩ := digs_num (n := x.toNat) (by omega)
  refine ⟨a, ?_⟩
  unfold decI
  rw [b]
  omega
end Go.Proofs.YtjcpabppklkjpaaDoor

namespace Go.Proofs.YtjcpabppklkjpaaDoor
open Go.RowKit
theorem name_byte {n : ByteArray} (h : nameS n = true) : ∀ c ∈ n.data.toList, c.toNat ≠ 46 ∧ partN c.toNat = true := by
  intro c hc
  unfold nameS at h
  simp only [Bool.and_eq_true, List.all_eq_true, List.mem_range] at h
  obtain ⟨i, hi⟩ := List.getElem?_of_mem hc
  have hlt := (List.getElem?_eq_some_iff.1 hi).1
  have := h.2 i hlt
  rw [show byteAt n i = c.toNat from byteAt_lst n.data.toList i c hi] at this
  constructor
  · intro e
    rw [e] at this
    exact absurd this (by decide)
  · unfold partN
    rcases Bool.or_eq_true_iff.1 this with h1 | h1 <;> rw [h1] <;> simp
theorem well_said {n : ByteArray} {r c : Int} (hn : nameS n = true) (hr : 0 ≤ r ∧ r < 8) (hc : 0 ≤ c ∧ c < 12) : wellL (wellT n r c) = some (n.data.toList, r.toNat, c.toNat) := by
  have hw : wellT n r c = n.data.toList ++ (46 :: UInt8.ofNat (65 + r.toNat) :: decI (c + 1)) := by
    unfold wellT
    rw [if_pos ⟨hn, hr.1, hr.2, hc.1, hc.2⟩]
    simp
  have hdot : dotAt (wellT n r c) = n.data.toList.length := by
    refine dot_is _ _ (fun j x hj hx => ?_) (by rw [hw]; simp) (.inr ⟨46, ?_, rfl⟩)
    · rw [hw, List.getElem?_append_left hj] at hx
      exact (name_byte hn x (List.mem_of_getElem? hx)).1
    · rw [hw, List.getElem?_append_right (Nat.le_refl _)]
      simp
  have hg : (wellT n r c)[n.data.toList.length + 1]? = some (UInt8.ofNat (65 + r.toNat)) := by
    rw [hw, List.getElem?_append_right (by omega)]
    simp
  rw [well_long hdot hg]
  have e1 : (wellT n r c).take n.data.toList.length = n.data.toList := by rw [hw, List.take_left]
  have e2 : (wellT n r c).drop (n.data.toList.length + 2) = decI (c + 1) := by
    rw [hw, List.drop_append]
    simp
  have e3 : (UInt8.ofNat (65 + r.toNat)).toNat = 65 + r.toNat := by rw [UInt8.toNat_ofNat']; omega
  obtain ⟨d1, d2⟩ := dec_ok (x := c + 1) (by omega) (by omega)
  rw [e1, e2, e3, if_pos ⟨hn, by omega, by omega, d1, by omega, by omega⟩]
  congr 2
  congr 1
  · omega
  · omega
end Go.Proofs.YtjcpabppklkjpaaDoor

namespace Go.Proofs.YtjcpabppklkjpaaDoor
open Go.RowKit
set_option linter.unusedVariables false
theorem u8_digit {b : UInt8} (h : 48 ≤ b.toNat ∧ b.toNat ≤ 57) : UInt8.ofNat (48 + (b.toNat - 48)) = b := by
  rw [show 48 + (b.toNat - 48) = b.toNat by omega]
  exact UInt8.ofNat_toNat
theorem dec_back_len : ∀ (n : Nat) (l : List UInt8), l.length ≤ n → l ≠ [] → (∀ b ∈ l, 48 ≤ b.toNat ∧ b.toNat ≤ 57) → (l.length = 1 ∨ ∃ b r, l = b :: r ∧ b.toNat ≠ 48) → Lib.decDigits (l.foldl digG 0) = l ∧ (1 ≤ l.foldl digG 0 ∨ l.length = 1)
  | 0, l, hn, h0, _, _ => absurd (List.length_eq_zero_iff.1 (by omega)) h0
  | n + 1, l, hn, h0, hd, hc => by
    obtain ⟨i, b, rfl⟩ : ∃ i b, l = i ++ [b] := ⟨l.dropLast, l.getLast h0, (List.dropLast_concat_getLast h0).symm⟩
    have hb := hd b (by simp)
    rw [List.foldl_append]
    simp only [List.foldl_cons, List.foldl_nil]
    by_cases hi : i = []
    · subst hi
      simp only [List.foldl_nil, digG, List.nil_append]
      refine ⟨?_, .inr (by simp)⟩
      rw [Lib.decDigits, dif_pos (by omega), show 48 + (0 * 10 + (b.toNat - 48)) = 48 + (b.toNat - 48) by omega, u8_digit hb]
    · have hlen : 1 ≤ i.length := by
        rcases i with _ | ⟨x, i⟩
        · exact absurd rfl hi
        · simp
      obtain ⟨x, r, e, hx⟩ : ∃ x r, i ++ [b] = x :: r ∧ x.toNat ≠ 48 := by
        rcases hc with hc | hc
        · exfalso
          rw [List.length_append] at hc
          have : [b].length = 1 := rfl
          omega
        · exact hc
      obtain ⟨y, r', rfl⟩ : ∃ y r', i = y :: r' := by
        rcases i with _ | ⟨y, i⟩
        · exact absurd rfl hi
        · exact ⟨_, _, rfl⟩
      obtain rfl : y = x := by
        simp at e
        exact e.1
      have ih := dec_back_len n (y :: r') (by simp at hn ⊢; omega) hi (fun c hc => hd c (by simp at hc ⊢; rcases hc with h | h; exact .inl h; exact .inr (.inl h))) (.inr ⟨_, _, rfl, hx⟩)
      have hy := hd y (by simp)
      have hpos : 1 ≤ (y :: r').foldl digG 0 := by
        rcases ih.2 with h | h
        · exact h
        · have : r' = [] := List.length_eq_zero_iff.1 (by rw [List.length_cons] at h; omega)
          subst this
          have hy1 : 1 ≤ y.toNat - 48 := by clear ih e hd hc; omega
          show 1 ≤ 0 * 10 + (y.toNat - 48)
          clear ih e hd hc
          omega
      have hv : digG ((y :: r').foldl digG 0) b = ((y :: r').foldl digG 0) * 10 + (b.toNat - 48) := rfl
      rw [hv]
      refine ⟨?_, .inl (by omega)⟩
      rw [Lib.decDigits, dif_neg (by omega), show (((y :: r').foldl digG 0) * 10 + (b.toNat - 48)) / 10 = (y :: r').foldl digG 0 by omega, show (((y :: r').foldl digG 0) * 10 + (b.toNat - 48)) % 10 = b.toNat - 48 by omega, ih.1, u8_digit hb]
theorem num_back {l : List UInt8} (h : numOk (strB l) = true) : Lib.decDigits (numV (strB l)) = l := by
  have hk := numOk_iff.1 h
  rw [(num_yes hk).2, strB_size, valTo_lst _ _ (Nat.le_refl _), List.take_length]
  obtain ⟨h1, h2, h3, h4⟩ := hk
  rw [strB_size] at h1 h2 h3
  refine (dec_back_len l.length l (Nat.le_refl _) (fun e => by rw [e] at h1; simp at h1) (fun b hb => ?_) ?_).1
  · obtain ⟨i, hi, rfl⟩ := List.getElem_of_mem hb
    have := h3 i hi
    rw [byteAt_lst _ i _ (List.getElem?_eq_getElem hi), digN_iff] at this
    exact this
  · by_cases hl : l.length = 1
    · exact .inl hl
    · rcases l with _ | ⟨b, r⟩
      · simp at h1
      · refine .inr ⟨b, r, rfl, fun e => ?_⟩
        exact h2 ⟨by omega, by rw [byteAt_lst _ 0 b rfl]; exact e⟩
theorem index_dot_at (l : List UInt8) (h : dotAt l < l.length) : l[dotAt l] = 46 := by
  induction l with
  | nil => simp at h
  | cons b l ih =>
    by_cases hb : b.toNat = 46
    · have e : b = 46 := by
        apply UInt8.toNat_inj.1
        simpa using hb
      subst e
      rfl
    · have hd : dotAt (b :: l) = dotAt l + 1 := by
        unfold dotAt
        rw [List.takeWhile_cons, if_pos (by simpa using hb)]
        rfl
      have hl : dotAt l < l.length := by rw [hd] at h; simpa using h
      have := ih hl
      simp only [hd, List.getElem_cons_succ]
      exact this
/-- A text that tells a well is that well's text. -/
theorem well_back {l n : List UInt8} {r c : Nat} (h : wellL l = some (n, r, c)) : wellT (strB n) (r : Int) (c : Int) = l := by
  unfold wellL at h
  simp only at h
  rw [take_dot, List.length_take, Nat.min_eq_left (dot_le l)] at h
  have hcut : l = l.take (dotAt l) ++ l.drop (dotAt l) := (List.take_append_drop _ _).symm
  cases e : l.drop (dotAt l + 1) with
  | nil => rw [e] at h; cases h
  | cons x ds =>
    rw [e] at h
    simp only at h
    by_cases hc : nameS (strB (l.take (dotAt l))) = true ∧ 65 ≤ x.toNat ∧ x.toNat ≤ 72 ∧ numOk (strB ds) = true ∧ 1 ≤ numV (strB ds) ∧ numV (strB ds) ≤ 12
    · rw [if_pos hc] at h
      simp only [Option.some.injEq, Prod.mk.injEq] at h
      obtain ⟨rfl, rfl, rfl⟩ := h
      obtain ⟨h1, h2, h3, h4, h5, h6⟩ := hc
      have hlt : dotAt l < l.length := by
        apply Nat.lt_of_not_le
        intro hle
        rw [List.drop_eq_nil_of_le (by omega)] at e
        cases e
      have hdot : l.drop (dotAt l) = 46 :: l.drop (dotAt l + 1) := by
        rw [List.drop_eq_getElem_cons hlt]
        congr 1
        have hi := index_dot_at l hlt
        exact hi
      unfold wellT
      rw [if_pos ⟨h1, by omega, by omega, by omega, by omega⟩]
      have e1 : (((numV (strB ds) - 1 : Nat) : Int) + 1) = ((numV (strB ds) : Nat) : Int) := by omega
      rw [e1]
      unfold decI
      rw [Int.toNat_natCast, Int.toNat_natCast, num_back h4, show 65 + (x.toNat - 65) = x.toNat by omega, UInt8.ofNat_toNat]
      conv => rhs; rw [hcut, hdot, e]
      show (l.take (dotAt l)) ++ _ ++ _ = _
      simp
    · rw [if_neg hc] at h; cases h
end Go.Proofs.YtjcpabppklkjpaaDoor

namespace Go.Proofs.YtjcpabppklkjpaaDoor
open Go.RowKit
set_option linter.unusedVariables false
theorem at_name : ∀ (ws : List Wr) (k : Int) (n : ByteArray) (r c : Int), atW ws k = some (n, r, c) → ∃ v ∈ ws, v.n = n
  | [], k, n, r, c, h => by cases h
  | w :: ws, k, n, r, c, h => by
    rw [atW] at h
    by_cases h0 : k < 0
    · rw [if_pos h0] at h; cases h
    · rw [if_neg h0] at h
      by_cases h1 : k < w.x * w.y
      · rw [if_pos h1] at h
        simp only [Option.some.injEq, Prod.mk.injEq] at h
        exact ⟨w, List.mem_cons_self .., h.1⟩
      · rw [if_neg h1] at h
        obtain ⟨v, hv, e⟩ := at_name ws _ n r c h
        exact ⟨v, List.mem_cons_of_mem _ hv, e⟩
/-- No two wares bear one name. -/
def namesApart : List Wr → Prop
  | [] => True
  | w :: ws => (∀ v ∈ ws, (w.n.toList == v.n.toList) = false) ∧ namesApart ws
theorem at_index : ∀ (ws : List Wr) (K k : Int) (n : ByteArray) (r c : Int), (∀ x ∈ ws, wareB x) → namesApart ws → atW ws k = some (n, r, c) → indexW ws K n r c = some (K + k)
  | [], K, k, n, r, c, _, _, h => by cases h
  | w :: ws, K, k, n, r, c, hb, ha, h => by
    obtain ⟨b1, b2, b3, b4⟩ := hb w (List.mem_cons_self ..)
    rw [atW] at h
    by_cases h0 : k < 0
    · rw [if_pos h0] at h; cases h
    · rw [if_neg h0] at h
      by_cases h1 : k < w.x * w.y
      · rw [if_pos h1] at h
        simp only [Option.some.injEq, Prod.mk.injEq] at h
        obtain ⟨rfl, rfl, rfl⟩ := h
        have e1 := Int.emod_nonneg k (by omega : w.y ≠ 0)
        have e2 := Int.emod_lt_of_pos k (by omega : 0 < w.y)
        have e3 := Int.ediv_nonneg (by omega : 0 ≤ k) (by omega : 0 ≤ w.y)
        have e4 : k / w.y < w.x := Int.ediv_lt_of_lt_mul (by omega) (by rw [Int.mul_comm] at h1; rw [Int.mul_comm]; exact h1)
        have e5 := Int.mul_ediv_add_emod k w.y
        rw [indexW, if_pos (by simp), if_pos ⟨e3, e4, e1, e2⟩]
        congr 1
        rw [Int.mul_comm (k / w.y) w.y]
        omega
      · rw [if_neg h1] at h
        obtain ⟨v, hv, e⟩ := at_name ws _ n r c h
        have hne := ha.1 v hv
        rw [e] at hne
        rw [indexW, if_neg (by rw [hne]; decide)]
        have := at_index ws (K + w.x * w.y) (k - w.x * w.y) n r c (fun x hx => hb x (List.mem_cons_of_mem _ hx)) ha.2 h
        rw [this]
        congr 1
        omega
theorem seat_names (a b c d : Int) : namesApart (wares7 a b c d) := by
  unfold wares7 namesApart namesApart namesApart
  refine ⟨fun v hv => ?_, fun v hv => by simp at hv, trivial⟩
  rcases List.mem_singleton.1 hv with rfl
  unfold namePlate nameTube
  rw [toList_data, toList_data]
  rfl
theorem seat_wares {a b c d : Int} (ha : 0 ≤ a ∧ a ≤ 255) (hb : 0 ≤ b ∧ b ≤ 255) (hc : 0 ≤ c ∧ c ≤ 255) (hd : 0 ≤ d ∧ d ≤ 255) : ∀ x ∈ wares7 a b c d, wareB x := by
  intro x hx
  unfold wares7 at hx
  simp only [List.mem_cons, List.not_mem_nil, or_false] at hx
  rcases hx with rfl | rfl
  · unfold wareB; simp only; omega
  · unfold wareB; simp only; omega
end Go.Proofs.YtjcpabppklkjpaaDoor

namespace Go.Proofs.YtjcpabppklkjpaaDoor
open Go.RowKit
set_option linter.unusedVariables false
theorem wellRes_is {l n : List UInt8} {r c : Nat} (h : wellL l = some (n, r, c)) {w w' : World} {e : Ending} (hr : WellRes l w e w') : e = .returned (.tuple #[.agg #[.string (strB n), .int .i64 ((r : Nat) : Int), .int .i64 ((c : Nat) : Int)], .bool true]) ∧ B w w' := by
  rcases hr with ⟨n', r', c', h1, h2, h3⟩ | ⟨h1, _⟩
  · rw [h] at h1
    simp only [Option.some.injEq, Prod.mk.injEq] at h1
    obtain ⟨rfl, rfl, rfl⟩ := h1
    exact ⟨h2, h3⟩
  · rw [h] at h1; cases h1
theorem wellRes_not {l : List UInt8} (h : wellL l = none) {w w' : World} {e : Ending} (hr : WellRes l w e w') : e = .returned (.tuple #[.agg #[.string ⟨#[]⟩, .int .i64 0, .int .i64 0], .bool false]) ∧ B w w' := by
  rcases hr with ⟨n', r', c', h1, h2, h3⟩ | ⟨h1, h2, h3⟩
  · rw [h] at h1; cases h1
  · exact ⟨h2, h3⟩
set_option maxHeartbeats 2000000 in
theorem wknown_any (w : World) : Calls Tryd.prog 7 #[] w fun e w' => e = .returned (.bool true) ∧ B w w' := by
  have c1 : ∀ w, Calls Tryd.prog 10 #[.string ⟨#[112, 46, 66, 51]⟩] w fun e w' => e = .returned (.tuple #[.agg #[.string ⟨#[112]⟩, .int .i64 1, .int .i64 2], .bool true]) ∧ B w w' := fun w =>
    (wparse_any [112, 46, 66, 51] w (by decide)).mono fun e w' h => wellRes_is (n := [112]) (r := 1) (c := 2) (by kernel_rfl) h
  have c2 : ∀ w, Calls Tryd.prog 10 #[.string ⟨#[112, 46, 66, 48, 51]⟩] w fun e w' => e = .returned (.tuple #[.agg #[.string ⟨#[]⟩, .int .i64 0, .int .i64 0], .bool false]) ∧ B w w' := fun w =>
    (wparse_any [112, 46, 66, 48, 51] w (by decide)).mono fun e w' h => wellRes_not (by kernel_rfl) h
  have c3 : ∀ w, Calls Tryd.prog 12 #[.agg #[.string ⟨#[112]⟩, .int .i64 1, .int .i64 2]] w fun e w' => e = .returned (.string ⟨#[112, 46, 66, 51]⟩) ∧ B w w' := fun w => by
    have := wtext_any ⟨#[112]⟩ 1 2 (by unfold I64; omega) (by unfold I64; omega) w
    rw [show strB (wellT ⟨#[112]⟩ 1 2) = ⟨#[112, 46, 66, 51]⟩ by kernel_rfl] at this
    exact this
  have c4 := fun w => deck_any 0 0 0 0 (.slice none 0 0) [] (by decide) (by omega) (by omega) (by omega) (by omega) w (isU32s_nil w)
  have c5 : ∀ wv tv fv w, IsDk w wv tv fv (seatD 0 0 0 0 []) → Calls Tryd.prog 14 #[.agg #[wv, tv, fv]] w fun e w' => e = .returned (.int .i64 4) ∧ Q w w' := fun wv tv fv w h => by
    have := wcount_any wv tv fv _ w h (seat_wares (by omega) (by omega) (by omega) (by omega)) (by decide)
    exact this
  go_enter Tryd.func7, Tryd.ntmps7
  go_wp2_with fail
  refine (c1 _).mono ?_
  rintro _ w1 ⟨rfl, q1⟩
  go_wp2_with fail
  refine (c2 _).mono ?_
  rintro _ w2 ⟨rfl, q2⟩
  have hs := q1
  have oA := q2.obj (obj_new w1 (.cells #[.string ⟨#[112]⟩, .int .i64 1, .int .i64 2] 23))
  have qA := (q1.alloc #[.string ⟨#[112]⟩, .int .i64 1, .int .i64 2] 23).trans q2
  have oA2 := ((B.refl w2).alloc #[.string ⟨#[]⟩, .int .i64 0, .int .i64 0] 23).obj oA
  have qB := qA.alloc #[.string ⟨#[]⟩, .int .i64 0, .int .i64 0] 23
  have hlt := obj_lt oA
  have p0 := obj_cell oA 0
  have p1 := obj_cell oA 1
  have p2 := obj_cell oA 2
  simp only [List.getElem?_toArray, List.getElem?_cons_zero, List.getElem?_cons_succ] at p0 p1 p2
  have hne : ¬ w1.heap.size = w2.heap.size := by omega
  have hne2 : ¬ w2.heap.size = w1.heap.size := by omega
  go_wp2_with fail
  refine (c3 _).mono ?_
  rintro _ w3 ⟨rfl, q3⟩
  go_wp2_with fail
  refine (c4 _).mono ?_
  rintro _ w4 ⟨wv, tv, fv, rfl, hD, q4⟩
  go_wp2_with fail
  refine (c5 _ _ _ _ hD).mono ?_
  rintro _ w5 ⟨rfl, q5⟩
  go_wp2
  go_ret
  exact ⟨rfl, ((qB.trans q3).trans q4).trans q5.b⟩
end Go.Proofs.YtjcpabppklkjpaaDoor

namespace Go.Proofs.YtjcpabppklkjpaaDoor
open Go.RowKit
set_option linter.unusedVariables false
/-- The number of a well, as the code looks for it. -/
def indexC : List Wr → Int → ByteArray → Int → Int → Option Int
  | [], _, _, _, _ => none
  | w :: ws, k, n, r, c => if hasB w.n w.x w.y n r c then some (k + (r * w.y + c)) else indexC ws (k + w.x * w.y) n r c
theorem indexC_cons {ws : List Wr} {i : Nat} (hi : i < ws.length) (K : Int) (n : ByteArray) (r c : Int) : indexC (ws.drop i) K n r c = (if hasB (ws[i]).n (ws[i]).x (ws[i]).y n r c then some (K + (r * (ws[i]).y + c)) else indexC (ws.drop (i + 1)) (K + (ws[i]).x * (ws[i]).y) n r c) := by
  rw [List.drop_eq_getElem_cons hi]
  rfl
theorem hasB_in {N : ByteArray} {X Y : Int} {n : ByteArray} {r c : Int} (h : hasB N X Y n r c = true) : 0 ≤ r ∧ r < X ∧ 0 ≤ c ∧ c < Y := by
  unfold hasB at h
  simp only [Bool.and_eq_true, decide_eq_true_eq] at h
  omega
set_option maxRecDepth 100000 in
set_option maxHeartbeats 2000000 in
theorem windex_any (wv tv fv : Value) (d : Dk) (n : ByteArray) (r c : Int) (hr : I64 r) (hc : I64 c) (w : World) (h : IsDk w wv tv fv d) (hb : ∀ x ∈ d.ws, wareB x) (h100 : d.ws.length ≤ 100) : Calls Tryd.prog 18 #[.agg #[wv, tv, fv], .agg #[.string n, .int .i64 r, .int .i64 c]] w fun e w' => e = .returned (.tuple #[.int .i64 ((indexC d.ws 0 n r c).getD 0), .bool (indexC d.ws 0 n r c).isSome]) ∧ Q w w' := by
  obtain ⟨ao, ac, bo, bc, co, cc, rfl, rfl, rfl⟩ := h.forms
  have hQ := ((Q.refl w).alloc #[.slice ao d.ws.length ac, .slice bo d.ts.length bc, .slice co d.fs.length cc] 37).alloc #[.string n, .int .i64 r, .int .i64 c] 23
  have hR := h.ws.keepB hQ.b
  have e1 : (w.alloc (.cells #[.slice ao d.ws.length ac, .slice bo d.ts.length bc, .slice co d.fs.length cc] 37)).heap.size = w.heap.size + 1 := by simp
  have oD := ((B.refl _).alloc #[.string n, .int .i64 r, .int .i64 c] 23).obj (obj_new w (.cells #[.slice ao d.ws.length ac, .slice bo d.ts.length bc, .slice co d.fs.length cc] 37))
  have oE := obj_new (w.alloc (.cells #[.slice ao d.ws.length ac, .slice bo d.ts.length bc, .slice co d.fs.length cc] 37)) (.cells #[.string n, .int .i64 r, .int .i64 c] 23)
  rw [e1] at oE
  obtain ⟨W, hW⟩ : ∃ W, (w.alloc (.cells #[.slice ao d.ws.length ac, .slice bo d.ts.length bc, .slice co d.fs.length cc] 37)).alloc (.cells #[.string n, .int .i64 r, .int .i64 c] 23) = W := ⟨_, rfl⟩
  rw [hW] at hR hQ oD oE
  have k0 : W.cell? ⟨w.heap.size, 0, none⟩ = some (.slice ao d.ws.length ac) := obj_cell oD 0
  replace hQ := Lib.hid hQ
  clear h e1
  obtain ⟨R, hRR⟩ : ∃ R, indexC d.ws 0 n r c = R := ⟨_, rfl⟩
  rw [hRR]
  go_enter Tryd.func18, Tryd.ntmps18
  go_wp2_with fail
  try rw [hW]
  go_wp2_with fail
  clear hW k0 oD
  obtain ⟨E, hE⟩ : ∃ E, w.heap.size + 1 = E := ⟨_, rfl⟩
  rw [hE] at oE ⊢
  clear hE
  generalize w.heap.size = H at *
  go_loopw [6, 12] (fun nv iv wr => ∃ (i : Nat) (K : Int), i ≤ d.ws.length ∧ iv = .int .i64 i ∧ nv = .int .i64 K ∧ 0 ≤ K ∧ K ≤ 96 * (i : Int) ∧ R = indexC (d.ws.drop i) K n r c ∧ Q W wr) (fun _ iv _ => d.ws.length + 1 - (intOf iv).toNat)
  case atStart => exact ⟨0, 0, Nat.zero_le _, rfl, rfl, by omega, by omega, hRR.symm, Q.refl _⟩
  case round =>
    obtain ⟨i, K, hi, rfl, rfl, hK0, hK1, hRi, hQi⟩ := hrel
    obtain ⟨wo, rfl⟩ : ∃ wo : World, wo = wr := ⟨_, rfl⟩
    clear hRR
    have oE1 := hQi.b.obj oE
    by_cases hl : i < d.ws.length
    · have hlB : decide ((i : Int) < (d.ws.length : Int)) = true := decide_eq_true (by omega)
      have hlI : (i : Int) < (d.ws.length : Int) := by omega
      have hi0 : (0 : Int) ≤ (i : Int) := by omega
      have wk1 : IntKind.i64.wrap ((i : Int) + 1) = (i : Int) + 1 := by rw [IntKind.wrap_i64]; omega
      obtain ⟨a, cap, e1, _, _, hrec⟩ := (hR.keepB hQi.b).at_ hl
      obtain ⟨rfl, _, rfl⟩ : ao = some a ∧ True ∧ ac = cap := by simpa using e1
      have hbi := hb _ (List.getElem_mem hl)
      rw [indexC_cons hl] at hRi
      obtain ⟨F, hF⟩ : ∃ F, d.ws[i] = F := ⟨_, rfl⟩
      rw [hF] at hrec hRi hbi
      obtain ⟨g1, g2, g3, g4, sv, g5, g6⟩ := hrec
      obtain ⟨so, sc, rfl⟩ := secs_form g6
      obtain ⟨sn, hsn⟩ : ∃ sn, F.l.length = sn := ⟨_, rfl⟩
      rw [hsn] at g5 g6
      clear hsn
      obtain ⟨N, X, Y, Z, SL⟩ := F
      have cs := fun w => wsize_any N X Y Z _ so sn sc rfl hbi w
      obtain ⟨b1, b2, b3, b4⟩ := hbi
      simp only at g1 g2 g3 g4 g5 hRi b1 b2 b3 b4
      have ch := fun w => whas_any N X Y Z _ so sn sc rfl n r c (by unfold I64; omega) (by unfold I64; omega) hr hc w
      have q1 := (Q.refl wo).alloc #[.string N, .int .i64 X, .int .i64 Y, .int .i64 Z, .slice so sn sc] 58
      have oE2 := q1.b.obj oE1
      have oW := obj_new wo (.cells #[.string N, .int .i64 X, .int .i64 Y, .int .i64 Z, .slice so sn sc] 58)
      have HL := Lib.hid hl
      have hQ1 := hQi.trans q1
      obtain ⟨W1, hW1⟩ : ∃ W1, wo.alloc (.cells #[.string N, .int .i64 X, .int .i64 Y, .int .i64 Z, .slice so sn sc] 58) = W1 := ⟨_, rfl⟩
      rw [hW1] at hQ1 oW oE2
      have p0 : W1.cell? ⟨wo.heap.size, 0, none⟩ = some (.string N) := obj_cell oW 0
      have p1 : W1.cell? ⟨wo.heap.size, 1, none⟩ = some (.int .i64 X) := obj_cell oW 1
      have p2 : W1.cell? ⟨wo.heap.size, 2, none⟩ = some (.int .i64 Y) := obj_cell oW 2
      have p3 : W1.cell? ⟨wo.heap.size, 3, none⟩ = some (.int .i64 Z) := obj_cell oW 3
      have p4 : W1.cell? ⟨wo.heap.size, 4, none⟩ = some (.slice so sn sc) := obj_cell oW 4
      have r0 : W1.cell? ⟨E, 0, none⟩ = some (.string n) := obj_cell oE2 0
      have r1 : W1.cell? ⟨E, 1, none⟩ = some (.int .i64 r) := obj_cell oE2 1
      have r2 : W1.cell? ⟨E, 2, none⟩ = some (.int .i64 c) := obj_cell oE2 2
      have hEw : ¬ E = wo.heap.size := by have := obj_lt oE1; omega
      have hwE : ¬ wo.heap.size = E := by omega
      clear hF e1 g6 q1 hb hl hR oE1 oE hQi
      cases hB : hasB N X Y n r c
      · rw [hB] at ch hRi
        rw [if_neg (by decide)] at hRi
        have hxy := mul_small (a := X) (b := Y) (by omega) b2 (by omega) b4
        generalize X * Y = P at *
        have w2 : IntKind.i64.wrap (K + P) = K + P := by rw [IntKind.wrap_i64]; omega
        have HX := Lib.hid (And.intro hRi (And.intro (show 0 ≤ K + P ∧ K + P ≤ 96 * ((i : Int) + 1) by omega) hQ1))
        clear hRi hxy hB hQ1 b1 b2 b3 b4
        go_wp2_with fail
        try rw [hW1]
        go_wp2_with fail
        refine (ch _).mono ?_
        rintro _ w2 ⟨rfl, q2⟩
        replace p0 := q2.keep p0
        replace p1 := q2.keep p1
        replace p2 := q2.keep p2
        replace p3 := q2.keep p3
        replace p4 := q2.keep p4
        go_wp2_with fail
        refine (cs _).mono ?_
        rintro _ w3 ⟨rfl, q3⟩
        go_wp2
        go_roundw
        case rel =>
          obtain ⟨h1, ⟨h2, h3⟩, h5⟩ := HX.out
          have hl := HL.out
          exact ⟨i + 1, K + P, by omega, by go_num, rfl, h2, by omega, h1, (h5.trans q2).trans q3⟩
        case measure => have := HL.out; simp [intOf]; omega
      · rw [hB] at ch hRi
        rw [if_pos rfl] at hRi
        obtain ⟨i1, i2, i3, i4⟩ := hasB_in hB
        have hxy := mul_small (a := r) (b := Y) i1 (by omega) (by omega) b4
        obtain ⟨P, hP⟩ : ∃ P, r * Y = P := ⟨_, rfl⟩
        rw [hP] at hxy hRi
        have w1 : IntKind.i64.wrap (r * Y) = P := by rw [hP, IntKind.wrap_i64]; omega
        obtain ⟨K1, hK1'⟩ : ∃ K1, K + P = K1 := ⟨_, rfl⟩
        obtain ⟨K2, hK2⟩ : ∃ K2, K1 + c = K2 := ⟨_, rfl⟩
        have w2 : IntKind.i64.wrap (K + P) = K1 := by rw [hK1', IntKind.wrap_i64]; omega
        have w3 : IntKind.i64.wrap (K1 + c) = K2 := by rw [hK2, IntKind.wrap_i64]; omega
        have e2 : K + (P + c) = K2 := by omega
        rw [e2] at hRi
        subst hRi
        have HX := Lib.hid hQ1
        clear hP hxy hK1' hK2 e2 hK0 hK1 b1 b2 b3 b4 i1 i2 i3 i4 hB hQ1
        go_wp2_with fail
        try rw [hW1]
        go_wp2_with fail
        refine (ch _).mono ?_
        rintro _ w2 ⟨rfl, q2⟩
        replace p2 := q2.keep p2
        replace r1 := q2.keep r1
        replace r2 := q2.keep r2
        go_wp2
        go_ret2
        exact ⟨rfl, (hQ.out.trans HX.out).trans q2⟩
    · have hlB : decide ((i : Int) < (d.ws.length : Int)) = false := decide_eq_false (by omega)
      have hlN : decide (i < d.ws.length) = false := decide_eq_false hl
      rw [List.drop_eq_nil_of_le (by omega)] at hRi
      have hRn : R = none := hRi
      subst hRn
      have HQ := Lib.hid (hQ.out.trans hQi)
      clear hRi hR hQi hi hK0 hK1 hl
      go_wp2
      go_ret2
      exact ⟨rfl, HQ.out⟩
end Go.Proofs.YtjcpabppklkjpaaDoor

namespace Go.Proofs.YtjcpabppklkjpaaDoor
open Go.RowKit
set_option linter.unusedVariables false
set_option maxRecDepth 100000 in
set_option maxHeartbeats 2000000 in
theorem wat_any (wv tv fv : Value) (d : Dk) (k : Int) (hk : I64 k) (w : World) (h : IsDk w wv tv fv d) (hb : ∀ x ∈ d.ws, wareB x) : Calls Tryd.prog 16 #[.agg #[wv, tv, fv], .int .i64 k] w fun e w' => e = .returned (.tuple #[wellV (atW d.ws k), .bool (atW d.ws k).isSome]) ∧ B w w' := by
  obtain ⟨ao, ac, bo, bc, co, cc, rfl, rfl, rfl⟩ := h.forms
  have hQ := ((B.refl w).alloc #[.slice ao d.ws.length ac, .slice bo d.ts.length bc, .slice co d.fs.length cc] 37).alloc #[.string ⟨#[]⟩, .int .i64 0, .int .i64 0] 23
  have hR := h.ws.keepB hQ
  obtain ⟨W, hW⟩ : ∃ W, (w.alloc (.cells #[.slice ao d.ws.length ac, .slice bo d.ts.length bc, .slice co d.fs.length cc] 37)).alloc (.cells #[.string ⟨#[]⟩, .int .i64 0, .int .i64 0] 23) = W := ⟨_, rfl⟩
  have e1 : (w.alloc (.cells #[.slice ao d.ws.length ac, .slice bo d.ts.length bc, .slice co d.fs.length cc] 37)).heap.size = w.heap.size + 1 := by simp
  have oD := ((B.refl _).alloc #[.string ⟨#[]⟩, .int .i64 0, .int .i64 0] 23).obj (obj_new w (.cells #[.slice ao d.ws.length ac, .slice bo d.ts.length bc, .slice co d.fs.length cc] 37))
  have oE := obj_new (w.alloc (.cells #[.slice ao d.ws.length ac, .slice bo d.ts.length bc, .slice co d.fs.length cc] 37)) (.cells #[.string ⟨#[]⟩, .int .i64 0, .int .i64 0] 23)
  rw [e1] at oE
  rw [hW] at hR hQ oD oE
  clear h e1
  obtain ⟨RR, hRR⟩ : ∃ RR, atW d.ws k = RR := ⟨_, rfl⟩
  rw [hRR]
  by_cases hk0 : k < 0
  · have hkB : decide (k < 0) = true := decide_eq_true hk0
    obtain rfl : RR = none := by rw [← hRR]; exact at_neg hk0 _
    have r0 : W.cell? ⟨w.heap.size + 1, 0, none⟩ = some (.string ⟨#[]⟩) := obj_cell oE 0
    have r1 : W.cell? ⟨w.heap.size + 1, 1, none⟩ = some (.int .i64 0) := obj_cell oE 1
    have r2 : W.cell? ⟨w.heap.size + 1, 2, none⟩ = some (.int .i64 0) := obj_cell oE 2
    have f0 := obj_free oE 0
    have f1 := obj_free oE 1
    have f2 := obj_free oE 2
    have oF := obj_three oE (.string ⟨#[]⟩) (.int .i64 0) (.int .i64 0)
    have hqF := b_three hQ (b := w.heap.size + 1) (by omega) (.string ⟨#[]⟩) (.int .i64 0) (.int .i64 0)
    have HX := Lib.hid (And.intro oF hqF)
    clear hRR oD oE hR hQ oF hqF
    go_enter Tryd.func16, Tryd.ntmps16
    go_wp2_with fail
    try rw [hW]
    go_wp2
    obtain ⟨oF, hqF⟩ := HX.out
    have z0 := obj_cell oF 0
    have z1 := obj_cell oF 1
    have z2 := obj_cell oF 2
    exact bodyPost_ret (v := .tuple #[.agg #[.string ⟨#[]⟩, .int .i64 0, .int .i64 0], .bool false]) (by simp [results, Tryd.results16, go_sem, z0, z1, z2]) rfl ⟨rfl, hqF⟩
  have hkB : decide (k < 0) = false := decide_eq_false hk0
  have kD : W.cell? ⟨w.heap.size, 0, none⟩ = some (.slice ao d.ws.length ac) := obj_cell oD 0
  go_enter Tryd.func16, Tryd.ntmps16
  go_wp2_with fail
  try rw [hW]
  go_wp2_with fail
  clear hW kD oD hkB
  obtain ⟨E, hE⟩ : ∃ E, w.heap.size + 1 = E := ⟨_, rfl⟩
  have hEg : w.heap.size ≤ E := by omega
  rw [hE] at oE ⊢
  clear hE
  obtain ⟨H, hH⟩ : ∃ H, w.heap.size = H := ⟨_, rfl⟩
  rw [hH]
  clear hH
  go_loopw [1, 15] (fun kv iv wr => ∃ (i : Nat) (K : Int), i ≤ d.ws.length ∧ iv = .int .i64 i ∧ kv = .int .i64 K ∧ I64 K ∧ 0 ≤ K ∧ RR = atW (d.ws.drop i) K ∧ B W wr) (fun _ iv _ => d.ws.length + 1 - (intOf iv).toNat)
  case atStart => exact ⟨0, k, Nat.zero_le _, rfl, rfl, hk, by omega, hRR.symm, B.refl _⟩
  case round =>
    obtain ⟨i, K, hi, rfl, rfl, hK, hK0, hRi, hBi⟩ := hrel
    obtain ⟨wo, rfl⟩ : ∃ wo : World, wo = wr := ⟨_, rfl⟩
    clear hRR hk
    have oE1 := hBi.obj oE
    have B1 := hQ.trans hBi
    by_cases hl : i < d.ws.length
    · have hlB : decide ((i : Int) < (d.ws.length : Int)) = true := decide_eq_true (by omega)
      have hlI : (i : Int) < (d.ws.length : Int) := by omega
      have hi0 : (0 : Int) ≤ (i : Int) := by omega
      have wk1 : IntKind.i64.wrap ((i : Int) + 1) = (i : Int) + 1 := by rw [IntKind.wrap_i64]; have := hR.len; omega
      obtain ⟨a, cap, e1, _, _, hr⟩ := (hR.keepB hBi).at_ hl
      obtain ⟨rfl, _, rfl⟩ : ao = some a ∧ True ∧ ac = cap := by simpa using e1
      have hbi := hb _ (List.getElem_mem hl)
      rw [at_cons hl, if_neg (by omega)] at hRi
      obtain ⟨F, hF⟩ : ∃ F, d.ws[i] = F := ⟨_, rfl⟩
      rw [hF] at hr hRi hbi
      obtain ⟨g1, g2, g3, g4, sv, g5, g6⟩ := hr
      obtain ⟨so, sc, rfl⟩ := secs_form g6
      obtain ⟨sn, hsn⟩ : ∃ sn, F.l.length = sn := ⟨_, rfl⟩
      rw [hsn] at g5 g6
      clear hsn
      obtain ⟨N, X, Y, Z, SL⟩ := F
      have cs := fun w => wsize_any N X Y Z _ so sn sc rfl hbi w
      obtain ⟨b1, b2, b3, b4⟩ := hbi
      simp only at g1 g2 g3 g4 g5 hRi b1 b2 b3 b4
      have hxy := mul_small (a := X) (b := Y) (by omega) b2 (by omega) b4
      obtain ⟨P, hP⟩ : ∃ P, X * Y = P := ⟨_, rfl⟩
      rw [hP] at hxy hRi
      simp only [hP] at cs
      have q1 := (B.refl wo).alloc #[.string N, .int .i64 X, .int .i64 Y, .int .i64 Z, .slice so sn sc] 58
      have oW := obj_new wo (.cells #[.string N, .int .i64 X, .int .i64 Y, .int .i64 Z, .slice so sn sc] 58)
      obtain ⟨W1, hW1⟩ : ∃ W1, wo.alloc (.cells #[.string N, .int .i64 X, .int .i64 Y, .int .i64 Z, .slice so sn sc] 58) = W1 := ⟨_, rfl⟩
      rw [hW1] at oW q1
      have oE2 := q1.obj oE1
      have hElt := obj_lt oE1
      have p0 : W1.cell? ⟨wo.heap.size, 0, none⟩ = some (.string N) := obj_cell oW 0
      have p1 : W1.cell? ⟨wo.heap.size, 1, none⟩ = some (.int .i64 X) := obj_cell oW 1
      have p2 : W1.cell? ⟨wo.heap.size, 2, none⟩ = some (.int .i64 Y) := obj_cell oW 2
      have p3 : W1.cell? ⟨wo.heap.size, 3, none⟩ = some (.int .i64 Z) := obj_cell oW 3
      have p4 : W1.cell? ⟨wo.heap.size, 4, none⟩ = some (.slice so sn sc) := obj_cell oW 4
      have HL := Lib.hid hl
      have hEw : ¬ E = wo.heap.size := by omega
      have hwE : ¬ wo.heap.size = E := by omega
      clear hF e1 g6 hb hi hl hR oE1
      go_wp2_with fail
      try rw [hW1]
      go_wp2_with fail
      refine (cs _).mono ?_
      rintro _ w2 ⟨rfl, q2⟩
      clear hW1
      replace q1 := q1.trans q2.b
      replace oE2 := q2.b.obj oE2
      replace p0 := q2.keep p0
      replace p2 := q2.keep p2
      clear p1 p3 p4 oW q2 cs g1 g2 g3 g4 g5 hElt
      by_cases hlt : K < P
      · have hltB : decide (K < P) = true := decide_eq_true hlt
        rw [if_pos hlt] at hRi
        have y0 : ¬ Y = 0 := by omega
        have dv : IntKind.i64.wrap (K.tdiv Y) = K / Y := by
          rw [Int.tdiv_eq_ediv_of_nonneg hK0, IntKind.wrap_i64]
          have := Int.ediv_le_self Y hK0
          have := Int.ediv_nonneg hK0 (by omega : 0 ≤ Y)
          unfold I64 at hK
          omega
        have rv : IntKind.i64.wrap (K.tmod Y) = K % Y := by
          rw [Int.tmod_eq_emod_of_nonneg hK0, IntKind.wrap_i64]
          have := Int.emod_lt_of_pos K (by omega : 0 < Y)
          have := Int.emod_nonneg K (by omega : Y ≠ 0)
          omega
        have dv' : K.tdiv Y = K / Y := Int.tdiv_eq_ediv_of_nonneg hK0
        have rv' : K.tmod Y = K % Y := Int.tmod_eq_emod_of_nonneg hK0
        have r0 : w2.cell? ⟨E, 0, none⟩ = some (.string ⟨#[]⟩) := obj_cell oE2 0
        have r1 : w2.cell? ⟨E, 1, none⟩ = some (.int .i64 0) := obj_cell oE2 1
        have r2 : w2.cell? ⟨E, 2, none⟩ = some (.int .i64 0) := obj_cell oE2 2
        have f0 := obj_free oE2 0
        have f1 := obj_free oE2 1
        have f2 := obj_free oE2 2
        have oF := obj_three oE2 (.string N) (.int .i64 (K / Y)) (.int .i64 (K % Y))
        have hqF := b_three (B1.trans q1) hEg (.string N) (.int .i64 (K / Y)) (.int .i64 (K % Y))
        have HX := Lib.hid (And.intro hRi (And.intro oF hqF))
        clear hRi oF hqF hP hxy hlt oE2 q1 B1 hQ hBi oE
        rw [dv'] at dv
        rw [rv'] at rv
        generalize K / Y = QQ at *
        generalize K % Y = MM at *
        go_wp2_with fail
        generalize wo.heap.size = G at *
        have p0' : w2.drew.cell? ⟨G, 0, none⟩ = some (.string N) := p0
        have p2' : w2.drew.cell? ⟨G, 2, none⟩ = some (.int .i64 Y) := p2
        have r0' : w2.drew.cell? ⟨E, 0, none⟩ = some (.string ⟨#[]⟩) := r0
        have r1' : w2.drew.cell? ⟨E, 1, none⟩ = some (.int .i64 0) := r1
        have r2' : w2.drew.cell? ⟨E, 2, none⟩ = some (.int .i64 0) := r2
        have f0' : w2.drew.frozen? ⟨E, 0, none⟩ = false := f0
        have f1' : w2.drew.frozen? ⟨E, 1, none⟩ = false := f1
        have f2' : w2.drew.frozen? ⟨E, 2, none⟩ = false := f2
        go_region
        all_goals
          go_wp2
          obtain ⟨hRi, oF, hqF⟩ := HX.out
          have z0 := obj_cell oF 0
          have z1 := obj_cell oF 1
          have z2 := obj_cell oF 2
          exact bodyPost_ret (v := .tuple #[.agg #[.string N, .int .i64 QQ, .int .i64 MM], .bool true]) (by simp [results, Tryd.results16, go_sem, z0, z1, z2]) rfl ⟨by rw [hRi]; rfl, hqF.drew⟩
      · have hltB : decide (K < P) = false := decide_eq_false hlt
        rw [if_neg hlt] at hRi
        have wKP : IntKind.i64.wrap (K - P) = K - P := by rw [IntKind.wrap_i64]; unfold I64 at hK; omega
        have hK2 : I64 (K - P) := by unfold I64 at hK ⊢; omega
        have HX := Lib.hid (And.intro hRi (And.intro hK2 (And.intro (show 0 ≤ K - P by omega) (hBi.trans q1))))
        clear hRi hK2 hP hxy hlt oE2 q1 B1 hQ hBi oE hK
        go_wp2
        go_roundw
        case rel =>
          obtain ⟨h1, h2, h20, h3⟩ := HX.out
          have hl := HL.out
          exact ⟨i + 1, K - P, by omega, by go_num, rfl, h2, h20, h1, h3⟩
        case measure => have := HL.out; simp [intOf]; omega
    · have hnone : RR = none := by
        rw [hRi, List.drop_eq_nil_of_le (by omega)]; rfl
      have r0 : wo.cell? ⟨E, 0, none⟩ = some (.string ⟨#[]⟩) := obj_cell oE1 0
      have r1 : wo.cell? ⟨E, 1, none⟩ = some (.int .i64 0) := obj_cell oE1 1
      have r2 : wo.cell? ⟨E, 2, none⟩ = some (.int .i64 0) := obj_cell oE1 2
      have f0 := obj_free oE1 0
      have f1 := obj_free oE1 1
      have f2 := obj_free oE1 2
      have oF := obj_three oE1 (.string ⟨#[]⟩) (.int .i64 0) (.int .i64 0)
      have hqF := b_three B1 hEg (.string ⟨#[]⟩) (.int .i64 0) (.int .i64 0)
      have HX := Lib.hid (And.intro hnone (And.intro oF hqF))
      have hlB : decide ((i : Int) < (d.ws.length : Int)) = false := decide_eq_false (by omega)
      have hlN : decide (i < d.ws.length) = false := decide_eq_false hl
      clear hRi hnone oF hqF hl hR hb hK hi oE oE1 B1 hQ hBi
      all_goals
        go_wp2
        obtain ⟨hnone, oF, hqF⟩ := HX.out
        have z0 := obj_cell oF 0
        have z1 := obj_cell oF 1
        have z2 := obj_cell oF 2
        exact bodyPost_ret (v := .tuple #[.agg #[.string ⟨#[]⟩, .int .i64 0, .int .i64 0], .bool false]) (by simp [results, Tryd.results16, go_sem, z0, z1, z2]) rfl ⟨by rw [hnone]; rfl, hqF⟩
end Go.Proofs.YtjcpabppklkjpaaDoor

namespace Go.Proofs.YtjcpabppklkjpaaDoor
open Go.RowKit
set_option linter.unusedVariables false
theorem count_pos : ∀ ws : List Wr, (∀ x ∈ ws, wareB x) → 0 ≤ countW ws
  | [], _ => by decide
  | w :: ws, h => by
    obtain ⟨b1, b2, b3, b4⟩ := h w (List.mem_cons_self ..)
    have := count_pos ws (fun x hx => h x (List.mem_cons_of_mem _ hx))
    have := Int.mul_nonneg (by omega : 0 ≤ w.x) (by omega : 0 ≤ w.y)
    show 0 ≤ w.x * w.y + countW ws
    omega
theorem at_some : ∀ (ws : List Wr) (k : Int), (∀ x ∈ ws, wareB x) → (atW ws k).isSome = (decide (0 ≤ k) && decide (k < countW ws))
  | [], k, _ => by
    show false = _
    by_cases h : 0 ≤ k
    · rw [decide_eq_false (show ¬ k < countW [] by show ¬ k < 0; omega), Bool.and_false]
    · rw [decide_eq_false h, Bool.false_and]
  | w :: ws, k, h => by
    obtain ⟨b1, b2, b3, b4⟩ := h w (List.mem_cons_self ..)
    have hp := count_pos ws (fun x hx => h x (List.mem_cons_of_mem _ hx))
    have ih := at_some ws (k - w.x * w.y) (fun x hx => h x (List.mem_cons_of_mem _ hx))
    have hc : countW (w :: ws) = w.x * w.y + countW ws := rfl
    rw [atW, hc]
    have hm := Int.mul_nonneg (by omega : 0 ≤ w.x) (by omega : 0 ≤ w.y)
    generalize w.x * w.y = P at *
    by_cases h0 : k < 0
    · rw [if_pos h0, decide_eq_false (show ¬ 0 ≤ k by omega), Bool.false_and]
      rfl
    · rw [if_neg h0, decide_eq_true (show 0 ≤ k by omega), Bool.true_and]
      by_cases h1 : k < P
      · rw [if_pos h1, decide_eq_true (show k < P + countW ws by omega)]
        rfl
      · rw [if_neg h1, ih, decide_eq_true (show 0 ≤ k - P by omega), Bool.true_and]
        by_cases h2 : k - P < countW ws
        · rw [decide_eq_true h2, decide_eq_true (by omega)]
        · rw [decide_eq_false h2, decide_eq_false (by omega)]
theorem at_range : ∀ (ws : List Wr) (k : Int) (n : ByteArray) (r c : Int), (∀ x ∈ ws, wareB x) → atW ws k = some (n, r, c) → 0 ≤ r ∧ r < 8 ∧ 0 ≤ c ∧ c < 12
  | [], k, n, r, c, _, h => by cases h
  | w :: ws, k, n, r, c, hb, h => by
    obtain ⟨b1, b2, b3, b4⟩ := hb w (List.mem_cons_self ..)
    rw [atW] at h
    by_cases h0 : k < 0
    · rw [if_pos h0] at h; cases h
    · rw [if_neg h0] at h
      by_cases h1 : k < w.x * w.y
      · rw [if_pos h1] at h
        simp only [Option.some.injEq, Prod.mk.injEq] at h
        obtain ⟨rfl, rfl, rfl⟩ := h
        have e1 := Int.emod_nonneg k (by omega : w.y ≠ 0)
        have e2 := Int.emod_lt_of_pos k (by omega : 0 < w.y)
        have e3 := Int.ediv_nonneg (by omega : 0 ≤ k) (by omega : 0 ≤ w.y)
        have e4 : k / w.y < w.x := Int.ediv_lt_of_lt_mul (by omega) (by rw [Int.mul_comm] at h1; rw [Int.mul_comm]; exact h1)
        omega
      · rw [if_neg h1] at h
        exact at_range ws _ n r c (fun x hx => hb x (List.mem_cons_of_mem _ hx)) h
theorem indexC_none : ∀ (ws : List Wr) (K : Int) (n : ByteArray) (r c : Int), (∀ v ∈ ws, (v.n.toList == n.toList) = false) → indexC ws K n r c = none
  | [], K, n, r, c, _ => rfl
  | w :: ws, K, n, r, c, h => by
    have hw := h w (List.mem_cons_self ..)
    have hb : hasB w.n w.x w.y n r c = false := by unfold hasB; rw [hw]; rfl
    rw [indexC, hb, if_neg (by decide)]
    exact indexC_none ws _ n r c (fun v hv => h v (List.mem_cons_of_mem _ hv))
/-- Where no two wares bear one name the code looks as the document does. -/
theorem indexC_eq : ∀ (ws : List Wr) (K : Int) (n : ByteArray) (r c : Int), namesApart ws → indexC ws K n r c = indexW ws K n r c
  | [], K, n, r, c, _ => rfl
  | w :: ws, K, n, r, c, h => by
    rw [indexC, indexW]
    cases hn : (w.n.toList == n.toList)
    · have hb : hasB w.n w.x w.y n r c = false := by unfold hasB; rw [hn]; rfl
      rw [hb, if_neg (by decide), if_neg (by decide)]
      exact indexC_eq ws _ n r c h.2
    · rw [if_pos rfl]
      by_cases hr : 0 ≤ r ∧ r < w.x ∧ 0 ≤ c ∧ c < w.y
      · have hb : hasB w.n w.x w.y n r c = true := by
          unfold hasB
          rw [hn, decide_eq_true hr.1, decide_eq_true hr.2.1, decide_eq_true hr.2.2.1, decide_eq_true hr.2.2.2]; rfl
        rw [hb, if_pos rfl, if_pos hr]
      · have hb : hasB w.n w.x w.y n r c = false := by
          cases e : hasB w.n w.x w.y n r c
          · rfl
          · have := hasB_in e; exact absurd this hr
        rw [hb, if_neg (by decide), if_neg hr]
        refine indexC_none ws _ n r c (fun v hv => ?_)
        have h1 := h.1 v hv
        rw [beq_iff_eq] at hn
        rw [hn] at h1
        cases e : (v.n.toList == n.toList)
        · rfl
        · rw [beq_iff_eq] at e
          rw [e, beq_self_eq_true] at h1
          cases h1
theorem seat_count {a b c d : Int} (ha : 0 ≤ a ∧ a ≤ 255) (hb : 0 ≤ b ∧ b ≤ 255) (hc : 0 ≤ c ∧ c ≤ 255) (hd : 0 ≤ d ∧ d ≤ 255) : 0 ≤ countW (wares7 a b c d) ∧ countW (wares7 a b c d) ≤ 192 := by
  have hw := seat_wares ha hb hc hd
  refine ⟨count_pos _ hw, ?_⟩
  obtain ⟨p1, p2, p3, p4⟩ := hw _ (List.mem_cons_self ..)
  obtain ⟨t1, t2, t3, t4⟩ := hw _ (List.mem_cons_of_mem _ (List.mem_cons_self ..))
  have m1 := mul_small (by omega) p2 (by omega) p4
  have m2 := mul_small (by omega) t2 (by omega) t4
  show _ * _ + (_ * _ + 0) ≤ 192
  omega
end Go.Proofs.YtjcpabppklkjpaaDoor
