/-
  A law and what it rests on.
-/
import Derived.Test.YtnmcgleanpdlmaaY21
namespace Go.Proofs.Ytnmcgleanpdlmaa
open Go.RowKit
set_option linter.unusedVariables false

def nameP : ByteArray := ⟨#[112]⟩
def edD (f : Int) : Dk := ⟨[⟨nameP, 1, 2, 0, shapeOf 0⟩], [], [⟨nameP, 0, 0, f⟩]⟩
def edO (n : Int) : Opx := ⟨⟨nameP, 0, 0⟩, ⟨nameP, 0, 1⟩, n, ⟨#[]⟩, false⟩
theorem edD_right {f : Int} (h : inB f 0 20000000 = true) : rightD (edD f) = true := by
  have h1 : fillsOk (edD f).ws (edD f).fs = true := by
    show ((hasW (edD f).ws nameP 0 0 && inB f 0 20000000 && !filledW [] nameP 0 0) && true) = true
    rw [h]
    kernel_rfl
  have h2 : apartW wareOk (edD f).ws = true := by kernel_rfl
  unfold rightD
  rw [h1, h2]
  rfl
theorem ed_cnt (f : Int) : cntD (edD f) = 2 := by kernel_rfl
theorem ed_run {f n : Int} (hf : inB f 0 21000000 = true) (hn : inB n 1 20000000 = true) : srunX (edD f) [] [edO n] = if f < n then .error 30 else .ok [f - n, n] := by
  have h1 : ixW (edD f) ⟨nameP, 0, 0⟩ = some 0 := by kernel_rfl
  have h2 : ixW (edD f) ⟨nameP, 0, 1⟩ = some 1 := by kernel_rfl
  have hfl : fillX (edD f) [0, 0] ⟨nameP, 0, 0, f⟩ = .ok [f, 0] := by
    unfold fillX
    simp only [h1]
    rw [if_pos hf]
    rfl
  have hen : endsX (edD f) (edO n) = some (0, 1) := by
    unfold endsX
    rw [show (edO n).s = ⟨nameP, 0, 0⟩ from rfl, show (edO n).d = ⟨nameP, 0, 1⟩ from rfl, h1, h2]
  have hmv : moveX (edD f) [f, 0] (edO n) = if f < n then .error 30 else .ok [f - n, n] := by
    unfold moveX
    rw [hen]
    simp only
    rw [show (edO n).v = n from rfl, if_pos hn, if_neg (by decide)]
    show (if f < n then Except.error 30 else Except.ok [f - n, 0 + n]) = _
    rw [Int.zero_add]
  unfold srunX
  rw [ed_cnt]
  have e : fillsX (edD f) ((edD f).fs ++ []) (List.replicate 2 0) = .ok [f, 0] := by
    show fillsX (edD f) [⟨nameP, 0, 0, f⟩] [0, 0] = _
    rw [fillsX, hfl]
    rfl
  rw [e]
  simp only
  rw [movesX, hmv]
  by_cases h : f < n
  · rw [if_pos h]
  · rw [if_neg h]
    rfl
set_option maxRecDepth 100000 in
set_option maxHeartbeats 4000000 in
theorem edges14_any (v k : Nat) (hv : v < 4294967296) (hk : k < 256) (w : World) : Calls Try.prog 5 #[.int .u32 (v : Int), .int .u8 (k : Int)] w fun e w' => e = .returned (.bool true) ∧ B w w' := by
  have ck := known14_any w
  have cS := fun w' => shape_any 0 (by omega) (by omega) w'
  obtain ⟨m, hm⟩ : ∃ m, v % 1000000 = m := ⟨_, rfl⟩
  obtain ⟨r, hr⟩ : ∃ r, k % 5 = r := ⟨_, rfl⟩
  have hm2 : m < 1000000 := by omega
  have hr2 : r < 5 := by omega
  have hmT : (v : Int).tmod 1000000 = (m : Int) := by rw [← hm]; exact (Int.ofNat_tmod v 1000000).symm
  have hrT : (k : Int).tmod 5 = (r : Int) := by rw [← hr]; exact (Int.ofNat_tmod k 5).symm
  obtain ⟨F, hF⟩ : ∃ F : Int, (m : Int) + 5 = F := ⟨_, rfl⟩
  obtain ⟨F2, hF2⟩ : ∃ F2 : Int, F - 2 = F2 := ⟨_, rfl⟩
  obtain ⟨n, hn⟩ : ∃ n : Int, F2 + (r : Int) = n := ⟨_, rfl⟩
  have w1 : IntKind.u32.wrap (m : Int) = (m : Int) := by rw [IntKind.wrap_u32]; omega
  have w2 : IntKind.i64.wrap (m : Int) = (m : Int) := by rw [IntKind.wrap_i64]; omega
  have w3 : IntKind.i64.wrap ((m : Int) + 5) = F := by rw [IntKind.wrap_i64]; omega
  have w4 : IntKind.i64.wrap (F - 2) = F2 := by rw [IntKind.wrap_i64]; omega
  have w5 : IntKind.u8.wrap (r : Int) = (r : Int) := by rw [IntKind.wrap_u8]; omega
  have w6 : IntKind.i64.wrap (r : Int) = (r : Int) := by rw [IntKind.wrap_i64]; omega
  have w7 : IntKind.i64.wrap (F2 + (r : Int)) = n := by rw [IntKind.wrap_i64]; omega
  have hFB : 5 ≤ F ∧ F ≤ 1000004 := by omega
  have hnB : 3 ≤ n ∧ n ≤ 1000006 := by omega
  have hi1 : inB F 0 20000000 = true := by unfold inB; simp; omega
  have hi2 : inB F 0 21000000 = true := by unfold inB; simp; omega
  have hi3 : inB n 1 20000000 = true := by unfold inB; simp; omega
  have hrun := ed_run hi2 hi3
  have hright := edD_right hi1
  clear hm hr hF hF2 hn hi1 hi2 hi3
  go_enter Try.func5, Try.ntmps5
  go_wp2_with fail
  refine ck.mono ?_
  rintro e w1 ⟨rfl, q1⟩
  go_wp2_with fail
  refine (cS _).mono ?_
  rintro e w2 ⟨sv, rfl, hs, q2⟩
  obtain ⟨so, sc, rfl⟩ := secs_form hs
  go_wp2_with fail
  have hz : (w2.alloc (.cells #[.string ⟨#[112]⟩, .int .i64 1, .int .i64 2, .int .i64 0, .slice so (shapeOf 0).length sc] 64)).heap.size = w2.heap.size + 1 := by simp
  have oa := World.ownsRow_lit (base := w2.heap.size) (e := 64) (size := 5) w2 #[.string ⟨#[112]⟩, .int .i64 1, .int .i64 2, .int .i64 0, .slice so (shapeOf 0).length sc] 1 (Nat.le_refl _) (by decide) rfl
  have ob := World.ownsRow_lit (base := w2.heap.size) (e := 66) (size := 4) (w2.alloc (.cells #[.string ⟨#[112]⟩, .int .i64 1, .int .i64 2, .int .i64 0, .slice so (shapeOf 0).length sc] 64)) #[.string ⟨#[112]⟩, .int .i64 0, .int .i64 0, .int .i64 F] 1 (by omega) (by decide) rfl
  rw [hz] at ob
  have qA : B w2 (w2.alloc (.cells #[.string ⟨#[112]⟩, .int .i64 1, .int .i64 2, .int .i64 0, .slice so (shapeOf 0).length sc] 64)) := (B.refl _).alloc _ _
  have qBC : B (w2.alloc (.cells #[.string ⟨#[112]⟩, .int .i64 1, .int .i64 2, .int .i64 0, .slice so (shapeOf 0).length sc] 64)) (((w2.alloc (.cells #[.string ⟨#[112]⟩, .int .i64 1, .int .i64 2, .int .i64 0, .slice so (shapeOf 0).length sc] 64)).alloc (.cells #[.string ⟨#[112]⟩, .int .i64 0, .int .i64 0, .int .i64 F] 66)).alloc (.cells #[.slice (some ⟨w2.heap.size, 0, none⟩) 1 1, .slice none 0 0, .slice (some ⟨w2.heap.size + 1, 0, none⟩) 1 1] 39)) := ((B.refl _).alloc _ _).alloc _ _
  have qC : B ((w2.alloc (.cells #[.string ⟨#[112]⟩, .int .i64 1, .int .i64 2, .int .i64 0, .slice so (shapeOf 0).length sc] 64)).alloc (.cells #[.string ⟨#[112]⟩, .int .i64 0, .int .i64 0, .int .i64 F] 66)) (((w2.alloc (.cells #[.string ⟨#[112]⟩, .int .i64 1, .int .i64 2, .int .i64 0, .slice so (shapeOf 0).length sc] 64)).alloc (.cells #[.string ⟨#[112]⟩, .int .i64 0, .int .i64 0, .int .i64 F] 66)).alloc (.cells #[.slice (some ⟨w2.heap.size, 0, none⟩) 1 1, .slice none 0 0, .slice (some ⟨w2.heap.size + 1, 0, none⟩) 1 1] 39)) := (B.refl _).alloc _ _
  have hD : IsDk (((w2.alloc (.cells #[.string ⟨#[112]⟩, .int .i64 1, .int .i64 2, .int .i64 0, .slice so (shapeOf 0).length sc] 64)).alloc (.cells #[.string ⟨#[112]⟩, .int .i64 0, .int .i64 0, .int .i64 F] 66)).alloc (.cells #[.slice (some ⟨w2.heap.size, 0, none⟩) 1 1, .slice none 0 0, .slice (some ⟨w2.heap.size + 1, 0, none⟩) 1 1] 39)) (.slice (some ⟨w2.heap.size, 0, none⟩) 1 1) (.slice none 0 0) (.slice (some ⟨w2.heap.size + 1, 0, none⟩) 1 1) (edD F) :=
    ⟨(isRecs_own (L := [⟨nameP, 1, 2, 0, shapeOf 0⟩]) (vs := [.slice so (shapeOf 0).length sc]) oa rfl (fun i r v h1 h2 => by
        match i, h1, h2 with
        | 0, h1, h2 =>
          cases h1
          cases h2
          exact IsSecs.keepB hs qA
        | j + 1, h1, h2 => simp at h1)).keepB qBC, .inl ⟨rfl, rfl⟩, (isFls_own (L := [⟨nameP, 0, 0, F⟩]) ob).keepB qC⟩
  have cN := dnew_right _ _ _ _ _ hD hright (show 1 < 1000 by omega)
  have hq0 := (q1.trans q2.b).trans (qA.trans qBC)
  have HQ := Lib.hid hq0
  clear hD oa ob hz qA qBC qC hs q1 q2 hq0 ck cS hright
  refine cN.mono ?_
  rintro e w3 ⟨P, X, rfl, hPd, hM, _, _, q3⟩
  have c1 := fun w' (q : B w3 w') lv hL => srun_any (edD F) hPd w' (hM.keepB q) (show 1 ≤ 1000000 by omega) (.slice none 0 0) [] (isFls_nil _) flsI_nil (by simp) lv [edO n] hL (fun x hx => by
    obtain rfl : x = edO n := by simpa using hx
    simp [edO, I64]; omega)
  have HP := Lib.hid (HQ.out.trans q3)
  generalize P.b = pb at *
  clear cN hM hPd HQ q3
  go_wp2_with fail
  have cc := c1 _ ((B.refl w3).alloc _ _) _ (ops_lit w3 [edO n] (by simp))
  refine Calls.mono cc ?_
  rintro e w4 hR
  clear cc c1
  by_cases hlt : F < n
  · rw [if_pos hlt] at hrun
    have hB : decide (F < n) = true := decide_eq_true hlt
    obtain ⟨rfl, q4⟩ := hR.erd hrun
    have HZ := Lib.hid ((HP.out.trans ((B.refl _).alloc _ _)).trans q4)
    clear hR hrun hlt q4 HP
    go_wp2
    try simp only [Exit.inBlock, Exit.then]
    go_ret
    exact ⟨rfl, HZ.out⟩
  · rw [if_neg hlt] at hrun
    have hB : decide (F < n) = false := decide_eq_false hlt
    obtain ⟨g, rfl, r1, q4⟩ := hR.okd hrun
    rw [ed_cnt] at r1 ⊢
    have y0 := (r1.at_ (i := 0) (by omega)).2.2.1
    have y1 := (r1.at_ (i := 1) (by omega)).2.2.1
    obtain ⟨D, hD⟩ : ∃ D, F - n = D := ⟨_, rfl⟩
    rw [show ([F - n, n] : List Int).getD 0 0 = F - n from rfl, hD] at y0
    rw [show ([F - n, n] : List Int).getD 1 0 = n from rfl] at y1
    have wD : IntKind.i64.wrap (F - n) = D := by rw [IntKind.wrap_i64]; omega
    have HZ := Lib.hid ((HP.out.trans ((B.refl _).alloc _ _)).trans q4)
    clear hR hrun hlt q4 HP r1 hD
    go_wp2
    try simp only [Exit.inBlock, Exit.then]
    go_ret
    exact ⟨by simp, HZ.out⟩
theorem edges14_ok (v k : Int) (h1 : (Lit.int .u32 v).wf = true) (h2 : (Lit.int .u8 k).wf = true) (w : World) : Calls Try.prog 5 #[.int .u32 v, .int .u8 k] w fun e w' => e = .returned (.bool true) ∧ B w w' := by
  obtain ⟨n1, n2⟩ := u8_wf h2
  obtain ⟨m1, m2⟩ := u32_wf h1
  have h := edges14_any v.toNat k.toNat (by omega) (by omega) w
  rw [show ((v.toNat : Nat) : Int) = v by omega, show ((k.toNat : Nat) : Int) = k by omega] at h
  exact h
end Go.Proofs.Ytnmcgleanpdlmaa
