/-
  A law and what it rests on.
-/
import Derived.Test.YtjdkhobkdlldnaaDoorY23
namespace Go.Proofs.YtjdkhobkdlldnaaDoor
open Go.RowKit
set_option linter.unusedVariables false

def mnMix (k : Int) : Sp := ⟨5, ⟨#[]⟩, [⟨namePlate, 0, 0⟩], 5, k⟩
def mnL (r : Nat) : Nat → List Sp
  | 0 => [⟨0, nameT1, [], 0, 0⟩]
  | i + 1 => mnL r i ++ [mnMix (if i = 49 then 18 + (r : Int) else 20)]
theorem mnL_len (r : Nat) : ∀ i, (mnL r i).length = i + 1
  | 0 => rfl
  | i + 1 => by rw [mnL, List.length_append, mnL_len r i]; rfl
def mnLast : Sp := ⟨2, ⟨#[]⟩, [⟨namePlate, 0, 0⟩, ⟨namePlate, 0, 1⟩], 5, 0⟩
def mnD : Dk := seatD 0 1 0 1 []
def mnLen (e : Except (Nat × Nat) XSt) : Nat ⊕ (Nat × Nat) := match e with
  | .ok st => .inl st.ops.length
  | .error p => .inr p
set_option maxRecDepth 100000 in
theorem mn0 : mnLen (opsX mnD (mnL 0 50 ++ [mnLast])) = .inl 999 := by kernel_rfl
set_option maxRecDepth 100000 in
theorem mn1 : mnLen (opsX mnD (mnL 1 50 ++ [mnLast])) = .inl 1000 := by kernel_rfl
set_option maxRecDepth 100000 in
theorem mn2 : mnLen (opsX mnD (mnL 2 50 ++ [mnLast])) = .inr (51, 27) := by kernel_rfl
theorem mnLen_ok {e : Except (Nat × Nat) XSt} {n : Nat} (h : mnLen e = .inl n) : ∃ st, e = .ok st ∧ st.ops.length = n := by
  cases e with
  | ok st => exact ⟨st, rfl, by simpa [mnLen] using h⟩
  | error p => simp [mnLen] at h
theorem mnLen_err {e : Except (Nat × Nat) XSt} {p : Nat × Nat} (h : mnLen e = .inr p) : e = .error p := by
  cases e with
  | ok st => simp [mnLen] at h
  | error q => simp [mnLen] at h; rw [h]
theorem mn_ok (r : Nat) (hr : r < 2) : mnLen (opsX mnD (mnL r 50 ++ [mnLast])) = .inl (999 + r) := by
  match r, hr with
  | 0, _ => exact mn0
  | 1, _ => exact mn1
theorem mnL_I (r : Nat) (hr : r ≤ 2) : ∀ i, SpsI (mnL r i)
  | 0 => fun s hs => by
    simp only [mnL, List.mem_cons, List.not_mem_nil, or_false] at hs
    subst hs
    intro p hp
    simp at hp
  | i + 1 => fun s hs => by
    rcases List.mem_append.1 hs with hs | hs
    · exact mnL_I r hr i s hs
    · simp only [List.mem_cons, List.not_mem_nil, or_false] at hs
      subst hs
      intro p hp
      simp only [mnMix, List.mem_cons, List.not_mem_nil, or_false] at hp
      subst hp
      unfold I64
      simp
theorem many_I (r : Nat) (hr : r ≤ 2) : SpsI (mnL r 50 ++ [mnLast]) := fun s hs => by
  rcases List.mem_append.1 hs with hs | hs
  · exact mnL_I r hr 50 s hs
  · simp only [List.mem_cons, List.not_mem_nil, or_false] at hs
    subst hs
    intro p hp
    simp only [mnLast, List.mem_cons, List.not_mem_nil, or_false] at hp
    rcases hp with rfl | rfl <;> (unfold I64; simp)
end Go.Proofs.YtjdkhobkdlldnaaDoor
namespace Go.Proofs.YtjdkhobkdlldnaaDoor
open Go.RowKit
set_option linter.unusedVariables false

set_option maxRecDepth 100000 in
set_option maxHeartbeats 4000000 in
theorem many13_any (n : Nat) (hn : n < 256) (w : World) : Calls Tryd.prog 6 #[.int .u8 (n : Int)] w fun e w' => e = .returned (.bool true) ∧ B w w' := by
  have ck := known13_any w
  have cB := fun w' => boards13_any 0 1 0 1 _ [] (by decide) (by decide) (by decide) (by decide) (by decide) w' (isU32s_nil w')
  obtain ⟨i0, hi0, hz0, hz1, hz2⟩ := info_of stepI13
  obtain ⟨r, hr⟩ : ∃ r, n % 3 = r := ⟨_, rfl⟩
  have hr2 : r ≤ 2 := by omega
  have hrT : (n : Int).tmod 3 = (r : Int) := by rw [← hr]; exact (Int.ofNat_tmod n 3).symm
  have wr1 : IntKind.u8.wrap (r : Int) = (r : Int) := by rw [IntKind.wrap_u8]; omega
  have wr2 : IntKind.i64.wrap (r : Int) = (r : Int) := by rw [IntKind.wrap_i64]; omega
  have wr3 : IntKind.i64.wrap (18 + (r : Int)) = 18 + (r : Int) := by rw [IntKind.wrap_i64]; omega
  have wr4 : IntKind.i64.wrap (999 + (r : Int)) = ((999 + r : Nat) : Int) := by rw [IntKind.wrap_i64]; omega
  clear hr
  go_enter Tryd.func6, Tryd.ntmps6
  go_wp2_with fail
  refine ck.mono ?_
  rintro e w1 ⟨rfl, q1⟩
  have cB1 := cB w1
  clear ck cB
  go_wp2_with fail
  refine cB1.mono ?_
  rintro e w2 ⟨P, X, b, wv, tv, fv, rfl, hPd, hM, _, _, q2⟩
  have cO := fun w' (q : B w2 w') lv L hL hI => xops_any mnD hPd w' (hM.keepB q) (by show (0 : Nat) ≤ _; omega) lv L hL hI
  have HP := Lib.hid (And.intro hPd (q1.trans q2))
  generalize P.b = pb at *
  clear hM cB1 q1 q2 hPd
  have h0 : StS (w2.alloc (.cells (flatSp [⟨0, nameT1, [], 0, 0⟩] [.slice none 0 0]).toArray 27)) w2.heap.size (.slice (some ⟨w2.heap.size, 0, none⟩) 1 1) (mnL r 0) [.slice none 0 0] :=
    ⟨rfl, World.ownsRow_lit (base := w2.heap.size) w2 _ _ (Nat.le_refl _) (by decide) rfl, fun j u s h1 h2 => by
      match j, h1, h2 with
      | 0, h1, h2 =>
        cases h1
        cases h2
        exact World.ownsRow_nil _ _ _ _
      | n + 1, h1, h2 => simp at h1⟩
  have H0 := Lib.hid h0
  clear h0
  go_wp2_with fail
  go_loopw [7, 6] (fun iv sv wr => ∃ (i : Nat) (so : Option Addr) (sc : Nat) (vs : List Value), i ≤ 50 ∧ iv = .int .i64 i ∧ sv = .slice so (i + 1) sc ∧ StS wr w2.heap.size (.slice so (i + 1) sc) (mnL r i) vs ∧ B w2 wr) (fun iv _ _ => 51 - (intOf iv).toNat)
  case atStart => exact ⟨0, _, _, _, Nat.zero_le _, rfl, rfl, H0.out, (B.refl _).alloc _ _⟩
  case round =>
    obtain ⟨i, so, sc, vs, hi, rfl, rfl, hSt, q⟩ := hrel
    obtain ⟨wo, rfl⟩ : ∃ wo : World, wo = wr := ⟨_, rfl⟩
    by_cases hl : i < 50
    · have hlB : decide ((i : Int) < (50 : Int)) = true := decide_eq_true (by omega)
      have hlN : decide (i < 50) = true := decide_eq_true hl
      have wk1 : IntKind.i64.wrap ((i : Int) + 1) = (i : Int) + 1 := by rw [IntKind.wrap_i64]; omega
      have hw0 := well_own wo w2.heap.size q.below.size [⟨namePlate, 0, 0⟩] (by simp)
      have qa : B wo (wo.alloc (.cells #[.string ⟨#[112, 108, 97, 116, 101]⟩, .int .i64 0, .int .i64 0] 36)) := (B.refl _).alloc _ _
      have HX := Lib.hid (And.intro hl (And.intro hSt q))
      clear hl hSt q hi
      by_cases h49 : i = 49
      · have e49 : ((i : Int) == 49) = true := by rw [h49]; rfl
        have e49' : (i == 49) = true := by rw [h49]; rfl
        replace h49 := Lib.hid h49
        have qb : B wo ((wo.alloc (.cells #[.string ⟨#[112, 108, 97, 116, 101]⟩, .int .i64 0, .int .i64 0] 36)).alloc (.cells #[.int .i64 5, .string ⟨#[]⟩, .slice (some ⟨wo.heap.size, 0, none⟩) 1 1, .int .i64 5, .int .i64 (18 + (r : Int))] 27)) := qa.alloc _ _
        have hSt2 := HX.out.2.1.keep qb
        have own3 := hSt2.so
        rw [mnL_len] at own3
        have hw1 := row_keep hw0 ((B.refl (wo.alloc (.cells #[.string ⟨#[112, 108, 97, 116, 101]⟩, .int .i64 0, .int .i64 0] 36))).alloc #[.int .i64 5, .string ⟨#[]⟩, .slice (some ⟨wo.heap.size, 0, none⟩) 1 1, .int .i64 5, .int .i64 (18 + (r : Int))] 27)
        have hb3 := (HX.out.2.2.trans qb).below.size
        have HY := Lib.hid (And.intro hSt2 (And.intro hw1 (HX.out.2.2.trans qb)))
        have hi50 : i < 50 := HX.out.1
        clear hSt2 hw1 qb qa hw0
        go_wp2_with (at_builtin; refine wpList_append_lies _ rfl _ _ 22 rfl w2.heap.size 27 i0 _ 5 64 Tryd.underlying22 hi0 hz0 hz1 hz2 rfl (by omega) (.slice so (i + 1) sc) (i + 1) (flatSp (mnL r i) vs) rfl own3 ⟨_, 0, none⟩ 1 1 [.int .i64 5, .string ⟨#[]⟩, .slice (some ⟨wo.heap.size, 0, none⟩) 1 1, .int .i64 5, .int .i64 (18 + (r : Int))] rfl rfl (newest (by simp)) (fun u hu => by simp only [List.mem_cons, List.not_mem_nil, or_false] at hu; rcases hu with rfl | rfl | rfl | rfl | rfl <;> rfl) (by omega) (by unfold maxLen; omega) (by omega) hb3 _ rfl ?_; intro g1 c1 W4 hown4 hgrow4 hat4 hlt4; have hB4 := HY.out.2.2.grownBy hgrow4 (fun x hx => (own3.lt x hx).1); have hS4 := StS.add (T := [mnMix ((18 + (r : Int)))]) (us := [.slice (some ⟨wo.heap.size, 0, none⟩) 1 1]) HY.out.1 (mnL_len r i) hgrow4 rfl rfl hown4 (fun j u s h1 h2 => (by cases j with | zero => (cases h1; cases h2; exact HY.out.2.1) | succ j => simp at h1)); clear hgrow4 hat4 hlt4 own3 hown4; replace hS4 := Lib.hid (And.intro hS4 hB4); clear hB4; go_wp2_with fail)
        refine ⟨⟨i + 1, some ⟨g1, 0, none⟩, c1, vs ++ [.slice (some ⟨wo.heap.size, 0, none⟩) 1 1], by have := HX.out.1; omega, by go_num, rfl, ?_, hS4.out.2⟩, by have := HX.out.1; simp [intOf]; omega⟩
        have hs := hS4.out.1
        rw [mnL, if_pos h49.out]
        exact hs
      · have e49 : ((i : Int) == 49) = false := by simp; omega
        have e49' : (i == 49) = false := by simp [h49]
        have qb : B wo ((wo.alloc (.cells #[.string ⟨#[112, 108, 97, 116, 101]⟩, .int .i64 0, .int .i64 0] 36)).alloc (.cells #[.int .i64 5, .string ⟨#[]⟩, .slice (some ⟨wo.heap.size, 0, none⟩) 1 1, .int .i64 5, .int .i64 20] 27)) := qa.alloc _ _
        have hSt2 := HX.out.2.1.keep qb
        have own3 := hSt2.so
        rw [mnL_len] at own3
        have hw1 := row_keep hw0 ((B.refl (wo.alloc (.cells #[.string ⟨#[112, 108, 97, 116, 101]⟩, .int .i64 0, .int .i64 0] 36))).alloc #[.int .i64 5, .string ⟨#[]⟩, .slice (some ⟨wo.heap.size, 0, none⟩) 1 1, .int .i64 5, .int .i64 20] 27)
        have hb3 := (HX.out.2.2.trans qb).below.size
        have HY := Lib.hid (And.intro hSt2 (And.intro hw1 (HX.out.2.2.trans qb)))
        have hi50 : i < 50 := HX.out.1
        clear hSt2 hw1 qb qa hw0
        go_wp2_with (at_builtin; refine wpList_append_lies _ rfl _ _ 22 rfl w2.heap.size 27 i0 _ 5 64 Tryd.underlying22 hi0 hz0 hz1 hz2 rfl (by omega) (.slice so (i + 1) sc) (i + 1) (flatSp (mnL r i) vs) rfl own3 ⟨_, 0, none⟩ 1 1 [.int .i64 5, .string ⟨#[]⟩, .slice (some ⟨wo.heap.size, 0, none⟩) 1 1, .int .i64 5, .int .i64 20] rfl rfl (newest (by simp)) (fun u hu => by simp only [List.mem_cons, List.not_mem_nil, or_false] at hu; rcases hu with rfl | rfl | rfl | rfl | rfl <;> rfl) (by omega) (by unfold maxLen; omega) (by omega) hb3 _ rfl ?_; intro g1 c1 W4 hown4 hgrow4 hat4 hlt4; have hB4 := HY.out.2.2.grownBy hgrow4 (fun x hx => (own3.lt x hx).1); have hS4 := StS.add (T := [mnMix (20)]) (us := [.slice (some ⟨wo.heap.size, 0, none⟩) 1 1]) HY.out.1 (mnL_len r i) hgrow4 rfl rfl hown4 (fun j u s h1 h2 => (by cases j with | zero => (cases h1; cases h2; exact HY.out.2.1) | succ j => simp at h1)); clear hgrow4 hat4 hlt4 own3 hown4; replace hS4 := Lib.hid (And.intro hS4 hB4); clear hB4; go_wp2_with fail)
        refine ⟨⟨i + 1, some ⟨g1, 0, none⟩, c1, vs ++ [.slice (some ⟨wo.heap.size, 0, none⟩) 1 1], by have := HX.out.1; omega, by go_num, rfl, ?_, hS4.out.2⟩, by have := HX.out.1; simp [intOf]; omega⟩
        have hs := hS4.out.1
        rw [mnL, if_neg h49]
        exact hs
    · have hlB : decide ((i : Int) < (50 : Int)) = false := decide_eq_false (by omega)
      have hlN : decide (i < 50) = false := decide_eq_false hl
      obtain rfl : i = 50 := by omega
      have HX := Lib.hid (And.intro hSt q)
      clear hSt q hi hl
      have hw0 := well_own wo w2.heap.size HX.out.2.below.size [⟨namePlate, 0, 0⟩, ⟨namePlate, 0, 1⟩] (by simp)
      have qa : B wo (wo.alloc (.cells #[.string ⟨#[112, 108, 97, 116, 101]⟩, .int .i64 0, .int .i64 0, .string ⟨#[112, 108, 97, 116, 101]⟩, .int .i64 0, .int .i64 1] 36)) := (B.refl _).alloc _ _
      have qb : B wo ((wo.alloc (.cells #[.string ⟨#[112, 108, 97, 116, 101]⟩, .int .i64 0, .int .i64 0, .string ⟨#[112, 108, 97, 116, 101]⟩, .int .i64 0, .int .i64 1] 36)).alloc (.cells #[.int .i64 2, .string ⟨#[]⟩, .slice (some ⟨wo.heap.size, 0, none⟩) 2 2, .int .i64 5, .int .i64 0] 27)) := qa.alloc _ _
      have hSt2 := HX.out.1.keep qb
      obtain ⟨n51, hn51⟩ : ∃ n51, 50 + 1 = n51 := ⟨_, rfl⟩
      have hn51' : n51 = 51 := hn51.symm
      have HN := Lib.hid hn51
      have hN1 : n51 ≤ 51 := by omega
      rw [hn51] at hSt2 ⊢
      have own3 := hSt2.so
      rw [mnL_len, hn51] at own3
      have hw1 := row_keep hw0 ((B.refl (wo.alloc (.cells #[.string ⟨#[112, 108, 97, 116, 101]⟩, .int .i64 0, .int .i64 0, .string ⟨#[112, 108, 97, 116, 101]⟩, .int .i64 0, .int .i64 1] 36))).alloc #[.int .i64 2, .string ⟨#[]⟩, .slice (some ⟨wo.heap.size, 0, none⟩) 2 2, .int .i64 5, .int .i64 0] 27)
      have hb3 := (HX.out.2.trans qb).below.size
      have HY := Lib.hid (And.intro hSt2 (And.intro hw1 (HX.out.2.trans qb)))
      clear hSt2 hw1 qb qa hw0 hn51 hn51'
      go_wp2_with (at_builtin; refine wpList_append_lies _ rfl _ _ 22 rfl w2.heap.size 27 i0 _ 5 64 Tryd.underlying22 hi0 hz0 hz1 hz2 rfl (by omega) (.slice so n51 sc) n51 (flatSp (mnL r 50) vs) rfl own3 ⟨_, 0, none⟩ 1 1 [.int .i64 2, .string ⟨#[]⟩, .slice (some ⟨wo.heap.size, 0, none⟩) 2 2, .int .i64 5, .int .i64 0] rfl rfl (newest (by simp)) (fun u hu => by simp only [List.mem_cons, List.not_mem_nil, or_false] at hu; rcases hu with rfl | rfl | rfl | rfl | rfl <;> rfl) (by omega) (by unfold maxLen; omega) (by omega) hb3 _ rfl ?_; intro g1 c1 W4 hown4 hgrow4 hat4 hlt4; have hB4 := HY.out.2.2.grownBy hgrow4 (fun x hx => (own3.lt x hx).1); have hS4 := StS.add (T := [mnLast]) (us := [.slice (some ⟨wo.heap.size, 0, none⟩) 2 2]) HY.out.1 (by rw [mnL_len]; exact HN.out) hgrow4 rfl rfl hown4 (fun j u s h1 h2 => (by cases j with | zero => (cases h1; cases h2; exact HY.out.2.1) | succ j => simp at h1)); clear hgrow4 hat4 hlt4 own3 hown4; replace hS4 := Lib.hid (And.intro hS4 hB4); clear hB4; go_wp2_with fail)
      have cc := cO _ hS4.out.2 _ _ hS4.out.1.is (many_I r hr2)
      clear cO
      refine Calls.mono cc ?_
      rintro e w5 hR
      clear cc
      by_cases hr2' : r = 2
      · have e2 : ((r : Int) == 2) = true := by rw [hr2']; rfl
        have e2' : (r == 2) = true := by rw [hr2']; rfl
        obtain ⟨rfl, q5⟩ := hR.erd (by rw [hr2']; exact mnLen_err mn2)
        have HZ := Lib.hid (HP.out.2.trans (hS4.out.2.trans q5))
        replace hr2' := Lib.hid hr2'
        clear hR q5
        go_wp2_with fail
        try go_quiet (fail)
        try go_wp2
        try simp only [Exit.inBlock, Exit.then]
        go_ret
        exact ⟨rfl, HZ.out⟩
      · have e2 : ((r : Int) == 2) = false := by simp; omega
        have e2' : (r == 2) = false := by simp [hr2']
        obtain ⟨st, hst, hsl⟩ := mnLen_ok (mn_ok r (by omega))
        obtain ⟨o1, k1, o2, k2, rfl, _, _, q5⟩ := hR.okd hst
        have HZ := Lib.hid (HP.out.2.trans (hS4.out.2.trans q5))
        rw [hsl]
        have e9 : (((999 + r : Nat) : Int) == ((999 + r : Nat) : Int)) = true := by simp
        replace hr2' := Lib.hid hr2'
        clear hR q5 hst hsl
        go_wp2_with fail
        try go_quiet (fail)
        try go_wp2
        try simp only [Exit.inBlock, Exit.then]
        go_ret
        exact ⟨by simp, HZ.out⟩
theorem many13_ok (n : Int) (hn : (Lit.int .u8 n).wf = true) (w : World) (htab : Lib.TabIs Tryd.prog w "internal/strconv.uint64pow10" .u64 Lib.pow10Tab) :
    Calls Tryd.prog 6 #[.int .u8 n] w fun e w' => e = .returned (.bool true) ∧ B w w' := by
  obtain ⟨n1, n2⟩ := u8_wf hn
  obtain ⟨k, rfl⟩ : ∃ k : Nat, n = (k : Int) := ⟨n.toNat, by omega⟩
  exact many13_any k (by omega) w
end Go.Proofs.YtjdkhobkdlldnaaDoor
