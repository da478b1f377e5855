/-
 Contracts and what they rest on.
-/
import Derived.Deep.QuietTactic
import Derived.BigQuiet
import Derived.Test.YtalnfojaccfcjaaGreatDoorZ1
import Derived.Test.YtalnfojaccfcjaaGreatDoorZ2
import Derived.Test.YtalnfojaccfcjaaGreatDoorZ3
import Derived.Test.YtalnfojaccfcjaaGreatDoorZ4
import Derived.Test.YtalnfojaccfcjaaGreatDoorZ5
import Derived.Test.YtalnfojaccfcjaaGreatDoorZ6
import Derived.Test.YtalnfojaccfcjaaGreatDoorZ7
namespace Go.Proofs.YtalnfojaccfcjaaGreatDoor
open Go.RowKit
theorem secs_round {s : ByteArray} {T : List UInt8} (hs : s = strB T) {h a0 b0 a1 b1 : Nat} {Dh Da0 Da1 s1 s2 s3 s4 s5 s6 s7 : ByteArray} (e1 : decS h = Dh) (e2 : decS a0 = Da0) (e3 : decS a1 = Da1)
  (j1 : s ++ ({ data := #[114, 111, 117, 110, 100, 32] } : ByteArray) = s1) (j2 : s1 ++ Dh = s2) (j3 : s2 ++ ({ data := #[32] } : ByteArray) = s3) (j4 : s3 ++ Da0 = s4) (j5 : s4 ++ ({ data := #[32] } : ByteArray) = s5) (j6 : s5 ++ Da1 = s6) (j7 : s6 ++ ({ data := #[10] } : ByteArray) = s7) :
  s7 = strB (T ++ lineT (secL { r := true, h := h, a0 := a0, b0 := b0, a1 := a1, b1 := b1 })) := by
 subst j1 j2 j3 j4 j5 j6 j7 e1 e2 e3 hs
 rw [decS_strB, decS_strB, decS_strB, show ({ data := #[114, 111, 117, 110, 100, 32] } : ByteArray) = strB (kRound ++ [32]) from rfl, show ({ data := #[32] } : ByteArray) = strB [32] from rfl, show ({ data := #[10] } : ByteArray) = strB [10] from rfl]
 simp only [strB_app, secL, if_true, lineT]
 congr 1
 simp [List.append_assoc]
theorem secs_box {s : ByteArray} {T : List UInt8} (hs : s = strB T) {h a0 b0 a1 b1 : Nat} {Dh Da0 Db0 Da1 Db1 s1 s2 s3 s4 s5 s6 s7 s8 s9 s10 s11 : ByteArray} (e1 : decS h = Dh) (e2 : decS a0 = Da0) (e3 : decS b0 = Db0) (e4 : decS a1 = Da1) (e5 : decS b1 = Db1)
  (j1 : s ++ ({ data := #[98, 111, 120, 32] } : ByteArray) = s1) (j2 : s1 ++ Dh = s2) (j3 : s2 ++ ({ data := #[32] } : ByteArray) = s3) (j4 : s3 ++ Da0 = s4) (j5 : s4 ++ ({ data := #[32] } : ByteArray) = s5) (j6 : s5 ++ Db0 = s6) (j7 : s6 ++ ({ data := #[32] } : ByteArray) = s7) (j8 : s7 ++ Da1 = s8) (j9 : s8 ++ ({ data := #[32] } : ByteArray) = s9) (j10 : s9 ++ Db1 = s10) (j11 : s10 ++ ({ data := #[10] } : ByteArray) = s11) :
  s11 = strB (T ++ lineT (secL { r := false, h := h, a0 := a0, b0 := b0, a1 := a1, b1 := b1 })) := by
 subst j1 j2 j3 j4 j5 j6 j7 j8 j9 j10 j11 e1 e2 e3 e4 e5 hs
 rw [decS_strB, decS_strB, decS_strB, decS_strB, decS_strB, show ({ data := #[98, 111, 120, 32] } : ByteArray) = strB (kBox ++ [32]) from rfl, show ({ data := #[32] } : ByteArray) = strB [32] from rfl, show ({ data := #[10] } : ByteArray) = strB [10] from rfl]
 simp only [strB_app, secL, Bool.false_eq_true, if_false, lineT]
 congr 1
 simp [List.append_assoc]
def secN (s : Sec) : Prop := ∃ h a0 b0 a1 b1 : Nat, s = { r := s.r, h := h, a0 := a0, b0 := b0, a1 := a1, b1 := b1 } ∧ h ≤ 10000000000000 ∧ a0 ≤ 10000000000000 ∧ b0 ≤ 10000000000000 ∧ a1 ≤ 10000000000000 ∧ b1 ≤ 10000000000000
theorem secs_at' {w : World} {v : Value} {l : List Sec} (h : IsSecs w v l) {i : Nat} {s : Sec} (hs : l[i]? = some s) : ∃ a, (∃ cap, v = .slice (some a) l.length cap) ∧ SecAt w (a.add (i * 6)) s := by
 rcases h with ⟨_, rfl⟩ | ⟨a, cap, h1, _, _, h4⟩
 ·simp at hs
 ·exact ⟨a, ⟨cap, h1⟩, (h4 i s hs).2⟩
set_option maxHeartbeats 4000000 in
set_option maxRecDepth 100000 in
theorem r8secs_any (v : Value) (l : List Sec) (w : World) (h : IsSecs w v l) (hn : ∀ s ∈ l, secN s) (hl10 : l.length ≤ 1000) : Calls Tryz.prog 67 #[v] w fun e w' => e = .returned (.string (strB (l.flatMap fun s => lineT (secL s)))) ∧ Q w w' := by
 obtain ⟨ao, ac, rfl⟩ := secs_form h
 go_enter Tryz.func67, Tryz.ntmps67
 go_wp2
 go_loopw [3, 4] (fun sv iv wr => ∃ (i : Nat) (s : ByteArray), i ≤ l.length ∧ iv = .int .i64 i ∧ sv = .string s ∧ s = strB ((l.take i).flatMap fun s => lineT (secL s)) ∧ s.size ≤ 126 * i ∧ Q w wr) (fun _ iv _ => l.length + 1 - (intOf iv).toNat)
 case atStart => exact ⟨0, _, Nat.zero_le _, rfl, rfl, rfl, by decide, Q.refl _⟩
 case round =>
  obtain ⟨i, s, hi, rfl, rfl, hs, hsz, hQi⟩ := hrel
  obtain ⟨wo, rfl⟩ : ∃ wo : World, wo = wr := ⟨_, rfl⟩
  by_cases hl : i < l.length
  ·have hlB : decide ((i : Int) < (l.length : Int)) = true := decide_eq_true (by omega)
   have hlI : (i : Int) < (l.length : Int) := by omega
   have hi0 : (0 : Int) ≤ (i : Int) := by omega
   have wk1 : IntKind.i64.wrap ((i : Int) + 1) = (i : Int) + 1 := by rw [IntKind.wrap_i64]; omega
   obtain ⟨F, hF⟩ : ∃ F, l[i]? = some F := ⟨_, List.getElem?_eq_getElem hl⟩
   obtain ⟨a, e1, g1⟩ := secs_at' (h.keepB hQi.b) hF
   obtain ⟨rfl, _⟩ : ao = some a ∧ True := by simpa using e1
   have hN := hn F (List.mem_of_getElem? hF)
   obtain ⟨g0, g1, g2, g3, g4, g5⟩ := g1
   obtain ⟨R, H0, A0, B0, A1, B1⟩ := F
   obtain ⟨h', a0, b0, a1, b1, hE, y1, y2, y3, y4, y5⟩ := hN
   simp only [Sec.mk.injEq, true_and] at hE
   obtain ⟨rfl, rfl, rfl, rfl, rfl⟩ := hE
   simp only at g0 g1 g2 g3 g4 g5
   have HL := Lib.hid hl
   have HQ := Lib.hid hQi
   have ch := fun w => r8dec_any h' h' (Nat.le_refl _) y1 w
   have ca0 := fun w => r8dec_any a0 a0 (Nat.le_refl _) y2 w
   have cb0 := fun w => r8dec_any b0 b0 (Nat.le_refl _) y3 w
   have ca1 := fun w => r8dec_any a1 a1 (Nat.le_refl _) y4 w
   have cb1 := fun w => r8dec_any b1 b1 (Nat.le_refl _) y5 w
   have v1 := decS_size y1
   have v2 := decS_size y2
   have v3 := decS_size y3
   have v4 := decS_size y4
   have v5 := decS_size y5
   obtain ⟨Dh, hDh⟩ : ∃ D, decS h' = D := ⟨_, rfl⟩
   obtain ⟨Da0, hDa0⟩ : ∃ D, decS a0 = D := ⟨_, rfl⟩
   obtain ⟨Db0, hDb0⟩ : ∃ D, decS b0 = D := ⟨_, rfl⟩
   obtain ⟨Da1, hDa1⟩ : ∃ D, decS a1 = D := ⟨_, rfl⟩
   obtain ⟨Db1, hDb1⟩ : ∃ D, decS b1 = D := ⟨_, rfl⟩
   rw [hDh] at v1
   rw [hDa0] at v2
   rw [hDb0] at v3
   rw [hDa1] at v4
   rw [hDb1] at v5
   simp only [hDh] at ch
   simp only [hDa0] at ca0
   simp only [hDb0] at cb0
   simp only [hDa1] at ca1
   simp only [hDb1] at cb1
   have qa := (Q.refl wo).alloc #[.bool R, .int .i64 (h' : Nat), .int .i64 (a0 : Nat), .int .i64 (b0 : Nat), .int .i64 (a1 : Nat), .int .i64 (b1 : Nat)] 37
   obtain ⟨W1, hW1⟩ : ∃ W1, wo.alloc (.cells #[.bool R, .int .i64 (h' : Nat), .int .i64 (a0 : Nat), .int .i64 (b0 : Nat), .int .i64 (a1 : Nat), .int .i64 (b1 : Nat)] 37) = W1 := ⟨_, rfl⟩
   have p0 : W1.cell? ⟨wo.heap.size, 0, none⟩ = some (.bool R) := by rw [← hW1, World.cell?_alloc_new]; rfl
   have p1 : W1.cell? ⟨wo.heap.size, 1, none⟩ = some (.int .i64 (h' : Nat)) := by rw [← hW1, World.cell?_alloc_new]; rfl
   have p2 : W1.cell? ⟨wo.heap.size, 2, none⟩ = some (.int .i64 (a0 : Nat)) := by rw [← hW1, World.cell?_alloc_new]; rfl
   have p3 : W1.cell? ⟨wo.heap.size, 3, none⟩ = some (.int .i64 (b0 : Nat)) := by rw [← hW1, World.cell?_alloc_new]; rfl
   have p4 : W1.cell? ⟨wo.heap.size, 4, none⟩ = some (.int .i64 (a1 : Nat)) := by rw [← hW1, World.cell?_alloc_new]; rfl
   have p5 : W1.cell? ⟨wo.heap.size, 5, none⟩ = some (.int .i64 (b1 : Nat)) := by rw [← hW1, World.cell?_alloc_new]; rfl
   rw [hW1] at qa
   have hi9 : i ≤ 1000 := by omega
   clear h hn e1 hl10 hQi
   have hlI2 := hlI
   cases R
   ·go_wp2_with fail
    try rw [hW1]
    clear hW1 g0 g1 g2 g3 g4 g5
    generalize wo.heap.size = G at *
    have qd : Q wo W1.drew := qa.drew
    have qe : Q W1 W1.drew := (Q.refl W1).drew
    clear qa
    have z0 : s.size ≤ 126 * i := hsz
    obtain ⟨s1, j1⟩ : ∃ x, s ++ ({ data := #[98, 111, 120, 32] } : ByteArray) = x := ⟨_, rfl⟩
    have n1 : ¬ 9223372036854775807 < s.size + 4 := by omega
    have m1 : ¬ 9223372036854775807 < s.size + ({ data := #[98, 111, 120, 32] } : ByteArray).size := n1
    have z1 : s1.size ≤ 126 * i + 4 := by rw [← j1, ByteArray.size_append]; show s.size + 4 ≤ _; omega
    obtain ⟨s2, j2⟩ : ∃ x, s1 ++ Dh = x := ⟨_, rfl⟩
    have n2 : ¬ 9223372036854775807 < s1.size + Dh.size := by omega
    have z2 : s2.size ≤ 126 * i + 24 := by rw [← j2, ByteArray.size_append]; omega
    obtain ⟨s3, j3⟩ : ∃ x, s2 ++ ({ data := #[32] } : ByteArray) = x := ⟨_, rfl⟩
    have n3 : ¬ 9223372036854775807 < s2.size + 1 := by omega
    have m3 : ¬ 9223372036854775807 < s2.size + ({ data := #[32] } : ByteArray).size := n3
    have z3 : s3.size ≤ 126 * i + 25 := by rw [← j3, ByteArray.size_append]; show s2.size + 1 ≤ _; omega
    obtain ⟨s4, j4⟩ : ∃ x, s3 ++ Da0 = x := ⟨_, rfl⟩
    have n4 : ¬ 9223372036854775807 < s3.size + Da0.size := by omega
    have z4 : s4.size ≤ 126 * i + 45 := by rw [← j4, ByteArray.size_append]; omega
    obtain ⟨s5, j5⟩ : ∃ x, s4 ++ ({ data := #[32] } : ByteArray) = x := ⟨_, rfl⟩
    have n5 : ¬ 9223372036854775807 < s4.size + 1 := by omega
    have m5 : ¬ 9223372036854775807 < s4.size + ({ data := #[32] } : ByteArray).size := n5
    have z5 : s5.size ≤ 126 * i + 46 := by rw [← j5, ByteArray.size_append]; show s4.size + 1 ≤ _; omega
    obtain ⟨s6, j6⟩ : ∃ x, s5 ++ Db0 = x := ⟨_, rfl⟩
    have n6 : ¬ 9223372036854775807 < s5.size + Db0.size := by omega
    have z6 : s6.size ≤ 126 * i + 66 := by rw [← j6, ByteArray.size_append]; omega
    obtain ⟨s7, j7⟩ : ∃ x, s6 ++ ({ data := #[32] } : ByteArray) = x := ⟨_, rfl⟩
    have n7 : ¬ 9223372036854775807 < s6.size + 1 := by omega
    have m7 : ¬ 9223372036854775807 < s6.size + ({ data := #[32] } : ByteArray).size := n7
    have z7 : s7.size ≤ 126 * i + 67 := by rw [← j7, ByteArray.size_append]; show s6.size + 1 ≤ _; omega
    obtain ⟨s8, j8⟩ : ∃ x, s7 ++ Da1 = x := ⟨_, rfl⟩
    have n8 : ¬ 9223372036854775807 < s7.size + Da1.size := by omega
    have z8 : s8.size ≤ 126 * i + 87 := by rw [← j8, ByteArray.size_append]; omega
    obtain ⟨s9, j9⟩ : ∃ x, s8 ++ ({ data := #[32] } : ByteArray) = x := ⟨_, rfl⟩
    have n9 : ¬ 9223372036854775807 < s8.size + 1 := by omega
    have m9 : ¬ 9223372036854775807 < s8.size + ({ data := #[32] } : ByteArray).size := n9
    have z9 : s9.size ≤ 126 * i + 88 := by rw [← j9, ByteArray.size_append]; show s8.size + 1 ≤ _; omega
    obtain ⟨s10, j10⟩ : ∃ x, s9 ++ Db1 = x := ⟨_, rfl⟩
    have n10 : ¬ 9223372036854775807 < s9.size + Db1.size := by omega
    have z10 : s10.size ≤ 126 * i + 108 := by rw [← j10, ByteArray.size_append]; omega
    obtain ⟨s11, j11⟩ : ∃ x, s10 ++ ({ data := #[10] } : ByteArray) = x := ⟨_, rfl⟩
    have n11 : ¬ 9223372036854775807 < s10.size + 1 := by omega
    have m11 : ¬ 9223372036854775807 < s10.size + ({ data := #[10] } : ByteArray).size := n11
    have z11 : s11.size ≤ 126 * i + 109 := by rw [← j11, ByteArray.size_append]; show s10.size + 1 ≤ _; omega
    have HE := Lib.hid (secs_box hs hDh hDa0 hDb0 hDa1 hDb1 j1 j2 j3 j4 j5 j6 j7 j8 j9 j10 j11)
    have HZs := Lib.hid z11
    clear z0 z1 z2 z3 z4 z5 z6 z7 z8 z9 z10 z11 hDh hDa0 hDb0 hDa1 hDb1 hs
    refine wp_region_noPanic ?_
    refine wp_region_seq (S := fun w' => w'.cell? ⟨G, 0, none⟩ = some (.bool false) ∧ w'.cell? ⟨G, 1, none⟩ = some (.int .i64 (h' : Nat)) ∧ w'.cell? ⟨G, 2, none⟩ = some (.int .i64 (a0 : Nat)) ∧ w'.cell? ⟨G, 3, none⟩ = some (.int .i64 (b0 : Nat)) ∧ w'.cell? ⟨G, 4, none⟩ = some (.int .i64 (a1 : Nat)) ∧ w'.cell? ⟨G, 5, none⟩ = some (.int .i64 (b1 : Nat)) ∧ Q wo w') [(0, 0), (1, 0), (2, 0), (3, 0), (7, 0), (8, 0), (12, 0), (13, 0), (17, 0), (18, 0), (22, 0), (23, 0), (4, 2), (5, 0), (6, 0), (9, 2), (10, 0), (11, 0), (14, 2), (15, 0), (16, 0), (19, 2), (20, 0), (21, 0), (24, 2), (25, 0), (26, 0), (27, 0)] [0, 1, 0, 4, 8, 18, 32, 0, 128, 272, 576, 1024, 0, 4096, 8704, 18432, 32768, 0, 131072, 278528, 589824, 1048576, 0, 4194304, 8912896, 18874368, 33554432, 134217727] [0, 1, 0, 4, 8, 18, 32, 0, 128, 256, 576, 1024, 0, 4096, 8192, 18432, 32768, 0, 131072, 262144, 589824, 1048576, 0, 4194304, 8388608, 18874368, 33554432, 67108865] (by kernel_rfl) (by kernel_rfl) (fun _ _ _ _ _ h => h) ?_ (fun hH => ?_)
    ·exact ⟨qe.keep p0, qe.keep p1, qe.keep p2, qe.keep p3, qe.keep p4, qe.keep p5, qd⟩
    refine wpSeq_take (d := 35) rfl rfl (by kernel_rfl) (fun w hS => by go_simp <;> with_reducible rfl) ?_
    dsimp only [sZ, sS]
    refine wpSeq_take (d := 36) rfl rfl (by kernel_rfl) (fun w hS => by go_simp <;> with_reducible rfl) ?_
    dsimp only [sZ, sS]
    refine wpSeq_take (d := 37) rfl rfl (by kernel_rfl) (fun w hS => by go_simp <;> with_reducible rfl) ?_
    dsimp only [sZ, sS]
    refine wpSeq_take (d := 38) rfl rfl (by kernel_rfl) (fun w hS => by go_simp <;> with_reducible rfl) ?_
    dsimp only [sZ, sS]
    refine wpSeq_take (d := 42) rfl rfl (by kernel_rfl) (fun w hS => by go_simp <;> with_reducible rfl) ?_
    dsimp only [sZ, sS]
    refine wpSeq_take (d := 43) rfl rfl (by kernel_rfl) (fun w hS => by go_simp <;> with_reducible rfl) ?_
    dsimp only [sZ, sS]
    refine wpSeq_take (d := 47) rfl rfl (by kernel_rfl) (fun w hS => by go_simp <;> with_reducible rfl) ?_
    dsimp only [sZ, sS]
    refine wpSeq_take (d := 48) rfl rfl (by kernel_rfl) (fun w hS => by go_simp <;> with_reducible rfl) ?_
    dsimp only [sZ, sS]
    refine wpSeq_take (d := 52) rfl rfl (by kernel_rfl) (fun w hS => by go_simp <;> with_reducible rfl) ?_
    dsimp only [sZ, sS]
    refine wpSeq_take (d := 53) rfl rfl (by kernel_rfl) (fun w hS => by go_simp <;> with_reducible rfl) ?_
    dsimp only [sZ, sS]
    refine wpSeq_take (d := 57) rfl rfl (by kernel_rfl) (fun w hS => by go_simp <;> with_reducible rfl) ?_
    dsimp only [sZ, sS]
    refine wpSeq_take (d := 58) rfl rfl (by kernel_rfl) (fun w hS => by go_simp <;> with_reducible rfl) ?_
    dsimp only [sZ, sS]
    refine wpSeq_call rfl (by kernel_rfl) (fun K hK => ?_)
    go_simp
    (with_reducible refine (ch _).mono ?_)
    rintro e w' ⟨rfl, rfl⟩
    refine hK.out _ _ hH fun hH => ?_
    clear hK
    refine wpSeq_take (d := 40) rfl rfl (by kernel_rfl) (fun w hS => by go_simp <;> with_reducible rfl) ?_
    dsimp only [sZ, sS]
    refine wpSeq_take (d := 41) rfl rfl (by kernel_rfl) (fun w hS => by go_simp <;> with_reducible rfl) ?_
    dsimp only [sZ, sS]
    refine wpSeq_call rfl (by kernel_rfl) (fun K hK => ?_)
    go_simp
    (with_reducible refine (ca0 _).mono ?_)
    rintro e w' ⟨rfl, rfl⟩
    refine hK.out _ _ hH fun hH => ?_
    clear hK
    refine wpSeq_take (d := 45) rfl rfl (by kernel_rfl) (fun w hS => by go_simp <;> with_reducible rfl) ?_
    dsimp only [sZ, sS]
    refine wpSeq_take (d := 46) rfl rfl (by kernel_rfl) (fun w hS => by go_simp <;> with_reducible rfl) ?_
    dsimp only [sZ, sS]
    refine wpSeq_call rfl (by kernel_rfl) (fun K hK => ?_)
    go_simp
    (with_reducible refine (cb0 _).mono ?_)
    rintro e w' ⟨rfl, rfl⟩
    refine hK.out _ _ hH fun hH => ?_
    clear hK
    refine wpSeq_take (d := 50) rfl rfl (by kernel_rfl) (fun w hS => by go_simp <;> with_reducible rfl) ?_
    dsimp only [sZ, sS]
    refine wpSeq_take (d := 51) rfl rfl (by kernel_rfl) (fun w hS => by go_simp <;> with_reducible rfl) ?_
    dsimp only [sZ, sS]
    refine wpSeq_call rfl (by kernel_rfl) (fun K hK => ?_)
    go_simp
    (with_reducible refine (ca1 _).mono ?_)
    rintro e w' ⟨rfl, rfl⟩
    refine hK.out _ _ hH fun hH => ?_
    clear hK
    refine wpSeq_take (d := 55) rfl rfl (by kernel_rfl) (fun w hS => by go_simp <;> with_reducible rfl) ?_
    dsimp only [sZ, sS]
    refine wpSeq_take (d := 56) rfl rfl (by kernel_rfl) (fun w hS => by go_simp <;> with_reducible rfl) ?_
    dsimp only [sZ, sS]
    refine wpSeq_call rfl (by kernel_rfl) (fun K hK => ?_)
    go_simp
    (with_reducible refine (cb1 _).mono ?_)
    rintro e w' ⟨rfl, rfl⟩
    refine hK.out _ _ hH fun hH => ?_
    clear hK
    refine wpSeq_take (d := 60) rfl rfl (by kernel_rfl) (fun w hS => by go_simp <;> with_reducible rfl) ?_
    dsimp only [sZ, sS]
    refine wpSeq_take (d := 61) rfl rfl (by kernel_rfl) (fun w hS => by go_simp <;> with_reducible rfl) ?_
    dsimp only [sZ, sS]
    refine wpSeq_take (d := 3) rfl rfl (by kernel_rfl) (fun w hS => by go_simp <;> with_reducible rfl) ?_
    dsimp only [sZ, sS]
    refine wpSeq_done ?_
    refine NoPanic.normal ?_
    have HZ := Lib.hid (HQ.out.trans hH.2.2.2.2.2.2)
    clear hH qd qe ch ca0 cb0 ca1 cb1
    go_wp2
    go_roundw
    case rel => exact ⟨i + 1, s11, by have := HL.out; omega, by go_num, rfl, by rw [HE.out, take_flat hF], by have := HZs.out; omega, HZ.out⟩
    case measure => have := HL.out; simp [intOf]; omega
   ·go_wp2_with fail
    try rw [hW1]
    clear hW1 g0 g1 g2 g3 g4 g5
    generalize wo.heap.size = G at *
    have qd : Q wo W1.drew := qa.drew
    have qe : Q W1 W1.drew := (Q.refl W1).drew
    clear qa
    have z0 : s.size ≤ 126 * i := hsz
    obtain ⟨s1, j1⟩ : ∃ x, s ++ ({ data := #[114, 111, 117, 110, 100, 32] } : ByteArray) = x := ⟨_, rfl⟩
    have n1 : ¬ 9223372036854775807 < s.size + 6 := by omega
    have m1 : ¬ 9223372036854775807 < s.size + ({ data := #[114, 111, 117, 110, 100, 32] } : ByteArray).size := n1
    have z1 : s1.size ≤ 126 * i + 6 := by rw [← j1, ByteArray.size_append]; show s.size + 6 ≤ _; omega
    obtain ⟨s2, j2⟩ : ∃ x, s1 ++ Dh = x := ⟨_, rfl⟩
    have n2 : ¬ 9223372036854775807 < s1.size + Dh.size := by omega
    have z2 : s2.size ≤ 126 * i + 26 := by rw [← j2, ByteArray.size_append]; omega
    obtain ⟨s3, j3⟩ : ∃ x, s2 ++ ({ data := #[32] } : ByteArray) = x := ⟨_, rfl⟩
    have n3 : ¬ 9223372036854775807 < s2.size + 1 := by omega
    have m3 : ¬ 9223372036854775807 < s2.size + ({ data := #[32] } : ByteArray).size := n3
    have z3 : s3.size ≤ 126 * i + 27 := by rw [← j3, ByteArray.size_append]; show s2.size + 1 ≤ _; omega
    obtain ⟨s4, j4⟩ : ∃ x, s3 ++ Da0 = x := ⟨_, rfl⟩
    have n4 : ¬ 9223372036854775807 < s3.size + Da0.size := by omega
    have z4 : s4.size ≤ 126 * i + 47 := by rw [← j4, ByteArray.size_append]; omega
    obtain ⟨s5, j5⟩ : ∃ x, s4 ++ ({ data := #[32] } : ByteArray) = x := ⟨_, rfl⟩
    have n5 : ¬ 9223372036854775807 < s4.size + 1 := by omega
    have m5 : ¬ 9223372036854775807 < s4.size + ({ data := #[32] } : ByteArray).size := n5
    have z5 : s5.size ≤ 126 * i + 48 := by rw [← j5, ByteArray.size_append]; show s4.size + 1 ≤ _; omega
    obtain ⟨s6, j6⟩ : ∃ x, s5 ++ Da1 = x := ⟨_, rfl⟩
    have n6 : ¬ 9223372036854775807 < s5.size + Da1.size := by omega
    have z6 : s6.size ≤ 126 * i + 68 := by rw [← j6, ByteArray.size_append]; omega
    obtain ⟨s7, j7⟩ : ∃ x, s6 ++ ({ data := #[10] } : ByteArray) = x := ⟨_, rfl⟩
    have n7 : ¬ 9223372036854775807 < s6.size + 1 := by omega
    have m7 : ¬ 9223372036854775807 < s6.size + ({ data := #[10] } : ByteArray).size := n7
    have z7 : s7.size ≤ 126 * i + 69 := by rw [← j7, ByteArray.size_append]; show s6.size + 1 ≤ _; omega
    have HE := Lib.hid (secs_round (b0 := b0) (b1 := b1) hs hDh hDa0 hDa1 j1 j2 j3 j4 j5 j6 j7)
    have HZs := Lib.hid z7
    clear z0 z1 z2 z3 z4 z5 z6 z7 hDh hDa0 hDb0 hDa1 hDb1 hs
    refine wp_region_noPanic ?_
    refine wp_region_seq (S := fun w' => w'.cell? ⟨G, 0, none⟩ = some (.bool true) ∧ w'.cell? ⟨G, 1, none⟩ = some (.int .i64 (h' : Nat)) ∧ w'.cell? ⟨G, 2, none⟩ = some (.int .i64 (a0 : Nat)) ∧ w'.cell? ⟨G, 3, none⟩ = some (.int .i64 (b0 : Nat)) ∧ w'.cell? ⟨G, 4, none⟩ = some (.int .i64 (a1 : Nat)) ∧ w'.cell? ⟨G, 5, none⟩ = some (.int .i64 (b1 : Nat)) ∧ Q wo w') [(0, 0), (1, 0), (2, 0), (3, 0), (7, 0), (8, 0), (12, 0), (13, 0), (4, 2), (5, 0), (6, 0), (9, 2), (10, 0), (11, 0), (14, 2), (15, 0), (16, 0), (17, 0)] [0, 1, 0, 4, 8, 18, 32, 0, 128, 272, 576, 1024, 0, 4096, 8704, 18432, 32768, 131071] [0, 1, 0, 4, 8, 18, 32, 0, 128, 256, 576, 1024, 0, 4096, 8192, 18432, 32768, 65537] (by kernel_rfl) (by kernel_rfl) (fun _ _ _ _ _ h => h) ?_ (fun hH => ?_)
    ·exact ⟨qe.keep p0, qe.keep p1, qe.keep p2, qe.keep p3, qe.keep p4, qe.keep p5, qd⟩
    refine wpSeq_take (d := 18) rfl rfl (by kernel_rfl) (fun w hS => by go_simp <;> with_reducible rfl) ?_
    dsimp only [sZ, sS]
    refine wpSeq_take (d := 19) rfl rfl (by kernel_rfl) (fun w hS => by go_simp <;> with_reducible rfl) ?_
    dsimp only [sZ, sS]
    refine wpSeq_take (d := 20) rfl rfl (by kernel_rfl) (fun w hS => by go_simp <;> with_reducible rfl) ?_
    dsimp only [sZ, sS]
    refine wpSeq_take (d := 21) rfl rfl (by kernel_rfl) (fun w hS => by go_simp <;> with_reducible rfl) ?_
    dsimp only [sZ, sS]
    refine wpSeq_take (d := 25) rfl rfl (by kernel_rfl) (fun w hS => by go_simp <;> with_reducible rfl) ?_
    dsimp only [sZ, sS]
    refine wpSeq_take (d := 26) rfl rfl (by kernel_rfl) (fun w hS => by go_simp <;> with_reducible rfl) ?_
    dsimp only [sZ, sS]
    refine wpSeq_take (d := 30) rfl rfl (by kernel_rfl) (fun w hS => by go_simp <;> with_reducible rfl) ?_
    dsimp only [sZ, sS]
    refine wpSeq_take (d := 31) rfl rfl (by kernel_rfl) (fun w hS => by go_simp <;> with_reducible rfl) ?_
    dsimp only [sZ, sS]
    refine wpSeq_call rfl (by kernel_rfl) (fun K hK => ?_)
    go_simp
    (with_reducible refine (ch _).mono ?_)
    rintro e w' ⟨rfl, rfl⟩
    refine hK.out _ _ hH fun hH => ?_
    clear hK
    refine wpSeq_take (d := 23) rfl rfl (by kernel_rfl) (fun w hS => by go_simp <;> with_reducible rfl) ?_
    dsimp only [sZ, sS]
    refine wpSeq_take (d := 24) rfl rfl (by kernel_rfl) (fun w hS => by go_simp <;> with_reducible rfl) ?_
    dsimp only [sZ, sS]
    refine wpSeq_call rfl (by kernel_rfl) (fun K hK => ?_)
    go_simp
    (with_reducible refine (ca0 _).mono ?_)
    rintro e w' ⟨rfl, rfl⟩
    refine hK.out _ _ hH fun hH => ?_
    clear hK
    refine wpSeq_take (d := 28) rfl rfl (by kernel_rfl) (fun w hS => by go_simp <;> with_reducible rfl) ?_
    dsimp only [sZ, sS]
    refine wpSeq_take (d := 29) rfl rfl (by kernel_rfl) (fun w hS => by go_simp <;> with_reducible rfl) ?_
    dsimp only [sZ, sS]
    refine wpSeq_call rfl (by kernel_rfl) (fun K hK => ?_)
    go_simp
    (with_reducible refine (ca1 _).mono ?_)
    rintro e w' ⟨rfl, rfl⟩
    refine hK.out _ _ hH fun hH => ?_
    clear hK
    refine wpSeq_take (d := 33) rfl rfl (by kernel_rfl) (fun w hS => by go_simp <;> with_reducible rfl) ?_
    dsimp only [sZ, sS]
    refine wpSeq_take (d := 34) rfl rfl (by kernel_rfl) (fun w hS => by go_simp <;> with_reducible rfl) ?_
    dsimp only [sZ, sS]
    refine wpSeq_take (d := 3) rfl rfl (by kernel_rfl) (fun w hS => by go_simp <;> with_reducible rfl) ?_
    dsimp only [sZ, sS]
    refine wpSeq_done ?_
    refine NoPanic.normal ?_
    have HZ := Lib.hid (HQ.out.trans hH.2.2.2.2.2.2)
    clear hH qd qe ch ca0 cb0 ca1 cb1
    go_wp2
    go_roundw
    case rel => exact ⟨i + 1, s7, by have := HL.out; omega, by go_num, rfl, by rw [HE.out, take_flat hF], by have := HZs.out; omega, HZ.out⟩
    case measure => have := HL.out; simp [intOf]; omega
  ·have hlB : decide ((i : Int) < (l.length : Int)) = false := decide_eq_false (by omega)
   have HS := Lib.hid (And.intro hs hQi)
   have ht : l.take i = l := List.take_of_length_le (by omega)
   rw [ht] at HS
   clear hs hQi h hn ht
   go_wp2
   go_ret
   exact ⟨by first | rfl | (rw [HS.out.1]; rfl), HS.out.2⟩
end Go.Proofs.YtalnfojaccfcjaaGreatDoor
namespace Go.Proofs.YtalnfojaccfcjaaGreatDoor
open Go.RowKit
theorem secOk_N {s : Sec} (h : secOk s = true) : secN s := by
 obtain ⟨h1, h2, h3, h4, h5, h6, h7, h8, h9, h10, h11⟩ := secOk_all h
 obtain ⟨r, hh, a0, b0, a1, b1⟩ := s
 simp only at h1 h2 h3 h4 h5 h6 h7 h8 h9 h10 h11
 refine ⟨hh.toNat, a0.toNat, b0.toNat, a1.toNat, b1.toNat, ?_, by omega, by omega, by omega, by omega, by omega⟩
 simp only [Sec.mk.injEq, true_and]
 refine ⟨?_, ?_, ?_, ?_, ?_⟩ <;> omega
structure RecN (r : Wr) (x y z : Nat) : Prop where
 ex : r.x = x
 ey : r.y = y
 ez : r.z = z
 bx : x ≤ 10000000000000
 by_ : y ≤ 10000000000000
 bz : z ≤ 10000000000000
 n : r.n.data.toList.length ≤ 16
 l : ∀ s ∈ r.l, secN s
 l4 : r.l.length ≤ 4
theorem nameS_16 {n : ByteArray} (hn : nameS n = true) : n.data.toList.length ≤ 16 := by
 have e : n.data.toList.length = n.size := Array.length_toList
 rw [e]
 unfold nameS at hn
 exact of_decide_eq_true (Bool.and_eq_true_iff.1 (Bool.and_eq_true_iff.1 (Bool.and_eq_true_iff.1 hn).1).1).2
theorem rightS_parts {l : List Sec} (h : rightS l = true) : (∀ s ∈ l, secN s) ∧ l.length ≤ 4 := by
 unfold rightS at h
 simp only [Bool.and_eq_true, decide_eq_true_eq, List.all_eq_true] at h
 exact ⟨fun s hs => secOk_N (h.1.2 s hs), h.1.1.2⟩
theorem wareOk_N {r : Wr} (h : wareOk r = true) : ∃ x y z, RecN r x y z := by
 unfold wareOk at h
 have h5 := (Bool.and_eq_true_iff.1 h).2
 have h4 := (Bool.and_eq_true_iff.1 (Bool.and_eq_true_iff.1 h).1).2
 have h3 := (Bool.and_eq_true_iff.1 (Bool.and_eq_true_iff.1 (Bool.and_eq_true_iff.1 h).1).1).2
 have h2 := (Bool.and_eq_true_iff.1 (Bool.and_eq_true_iff.1 (Bool.and_eq_true_iff.1 (Bool.and_eq_true_iff.1 h).1).1).1).2
 have h1 := (Bool.and_eq_true_iff.1 (Bool.and_eq_true_iff.1 (Bool.and_eq_true_iff.1 (Bool.and_eq_true_iff.1 h).1).1).1).1
 rw [inB_iff] at h2 h3 h4
 obtain ⟨s1, s2⟩ := rightS_parts h5
 exact ⟨r.x.toNat, r.y.toNat, r.z.toNat, by omega, by omega, by omega, by omega, by omega, by omega, nameS_16 h1, s1, s2⟩
theorem tipOk_N {r : Wr} (h : tipOk r = true) : ∃ x y z, RecN r x y z := by
 unfold tipOk at h
 have h5 := (Bool.and_eq_true_iff.1 h).2
 have h4 := (Bool.and_eq_true_iff.1 (Bool.and_eq_true_iff.1 h).1).2
 have h3 := (Bool.and_eq_true_iff.1 (Bool.and_eq_true_iff.1 (Bool.and_eq_true_iff.1 h).1).1).2
 have h2 := (Bool.and_eq_true_iff.1 (Bool.and_eq_true_iff.1 (Bool.and_eq_true_iff.1 (Bool.and_eq_true_iff.1 h).1).1).1).2
 have h1 := (Bool.and_eq_true_iff.1 (Bool.and_eq_true_iff.1 (Bool.and_eq_true_iff.1 (Bool.and_eq_true_iff.1 h).1).1).1).1
 rw [inB_iff] at h3 h4 h5
 obtain ⟨s1, s2⟩ := rightS_parts h2
 exact ⟨r.x.toNat, r.y.toNat, r.z.toNat, by omega, by omega, by omega, by omega, by omega, by omega, nameS_16 h1, s1, s2⟩
theorem right_parts {d : Dk} (h : rightD d = true) : d.ws.length ≤ 8 ∧ d.ts.length ≤ 4 ∧ (∀ r ∈ d.ws, ∃ x y z, RecN r x y z) ∧ (∀ r ∈ d.ts, ∃ x y z, RecN r x y z) ∧
  ∀ f ∈ d.fs, nameS f.n = true ∧ (0 ≤ f.r ∧ f.r < 8) ∧ (0 ≤ f.c ∧ f.c < 12) ∧ 0 ≤ f.v ∧ f.v ≤ 20000000 := by
 unfold rightD at h
 simp only [Bool.and_eq_true, decide_eq_true_eq] at h
 obtain ⟨⟨⟨⟨h1, h2⟩, h3⟩, h4⟩, h5⟩ := h
 rw [apartW_iff] at h3 h4
 have hwr : ∀ w ∈ d.ws, wareOk w = true := fun w hw => by
  obtain ⟨i, hi⟩ := List.getElem?_of_mem hw
  exact (h3 i w hi).1
 have htr : ∀ w ∈ d.ts, tipOk w = true := fun w hw => by
  obtain ⟨i, hi⟩ := List.getElem?_of_mem hw
  exact (h4 i w hi).1
 refine ⟨h1, h2, fun r hr => wareOk_N (hwr r hr), fun r hr => tipOk_N (htr r hr), fun f hf => ?_⟩
 obtain ⟨i, hi⟩ := List.getElem?_of_mem hf
 unfold fillsOk at h5
 rw [List.all_eq_true] at h5
 have h6 := h5 i (List.mem_range.2 (List.getElem?_eq_some_iff.1 hi).1)
 rw [hi] at h6
 simp only [Bool.and_eq_true, inB_iff, Bool.not_eq_true'] at h6
 obtain ⟨v, hv, e, r0, r1, c0, c1⟩ := has_ware d.ws 0 f.n f.r f.c h6.1.1
 have hv2 := hwr v hv
 unfold wareOk at hv2
 have k3 := (Bool.and_eq_true_iff.1 (Bool.and_eq_true_iff.1 (Bool.and_eq_true_iff.1 hv2).1).1).2
 have k2 := (Bool.and_eq_true_iff.1 (Bool.and_eq_true_iff.1 (Bool.and_eq_true_iff.1 (Bool.and_eq_true_iff.1 hv2).1).1).1).2
 have k1 := (Bool.and_eq_true_iff.1 (Bool.and_eq_true_iff.1 (Bool.and_eq_true_iff.1 (Bool.and_eq_true_iff.1 hv2).1).1).1).1
 rw [inB_iff] at k2 k3
 exact ⟨e ▸ k1, ⟨r0, by omega⟩, ⟨c0, by omega⟩, h6.1.2.1, h6.1.2.2⟩
def recT (k : List UInt8) (r : Wr) : List UInt8 := lineT (k :: r.n.data.toList :: [decI r.x, decI r.y, decI r.z]) ++ r.l.flatMap fun s => lineT (secL s)
theorem deck_text (d : Dk) : (deckL d).flatMap lineT = (d.ws.flatMap (recT kWare) ++ d.ts.flatMap (recT kTip)) ++ d.fs.flatMap fun f => lineT (fillL f) := by
 have e : ∀ k r, (recL k r).flatMap lineT = recT k r := fun k r => by unfold recL recT; rw [List.flatMap_cons, List.flatMap_map]
 unfold deckL
 rw [List.flatMap_append, List.flatMap_append, List.flatMap_assoc, List.flatMap_assoc, List.flatMap_map]
 simp only [e]
theorem sec_len {s : Sec} (h : secN s) : (lineT (secL s)).length ≤ 130 := by
 obtain ⟨hh, a0, b0, a1, b1, e, y1, y2, y3, y4, y5⟩ := h
 have dl : ∀ {x : Nat}, x ≤ 10000000000000 → (decI (x : Int)).length ≤ 20 := fun h => by
  have := decS_size h
  rw [decS_strB, strB_size] at this
  exact this
 have := dl y1
 have := dl y2
 have := dl y3
 have := dl y4
 have := dl y5
 rw [e]
 unfold secL
 split <;> simp [lineT, kRound, kBox] <;> omega
theorem flat_len9 {α : Type} (f : α → List UInt8) (m : Nat) : ∀ l : List α, (∀ x ∈ l, (f x).length ≤ m) → (l.flatMap f).length ≤ m * l.length
 | [], _ => by simp
 | x :: l, h => by
  have h1 := h x (List.mem_cons_self ..)
  have h2 := flat_len9 f m l fun y hy => h y (List.mem_cons_of_mem _ hy)
  rw [List.flatMap_cons, List.length_append, List.length_cons, Nat.mul_succ]
  omega
theorem recT_len {k : List UInt8} (hk : k.length ≤ 10) {r : Wr} {x y z : Nat} (h : RecN r x y z) : (recT k r).length ≤ 1000 := by
 have dl : ∀ {x : Nat}, x ≤ 10000000000000 → (decI (x : Int)).length ≤ 20 := fun h => by
  have := decS_size h
  rw [decS_strB, strB_size] at this
  exact this
 have d1 := dl h.bx
 have d2 := dl h.by_
 have d3 := dl h.bz
 have h1 := flat_len9 (fun s => lineT (secL s)) 130 r.l fun s hs => sec_len (h.l s hs)
 have h2 := h.l4
 have h3 := h.n
 have h4 : 130 * r.l.length ≤ 520 := by omega
 unfold recT
 rw [h.ex, h.ey, h.ez, List.length_append]
 simp only [lineT, List.length_append, List.length_cons, List.length_nil]
 omega
end Go.Proofs.YtalnfojaccfcjaaGreatDoor
namespace Go.Proofs.YtalnfojaccfcjaaGreatDoor
open Go.RowKit
set_option linter.unusedVariables false
theorem part_low {c : Nat} (h : lowN c = true) : partN c = true := by unfold partN; rw [h]; rfl
theorem part_dig {c : Nat} (h : digN c = true) : partN c = true := by unfold partN; rw [h]; simp
theorem part_cap {c : Nat} (h : 65 ≤ c ∧ c ≤ 90) : partN c = true := by unfold partN capN; simp; omega
theorem part_dec (x : Int) : partW (decI x) := by
 unfold decI
 refine ⟨fun e => ?_, fun c hc => ?_⟩
 ·have := dec_lng x.toNat
  rw [e] at this
  simp at this
 ·have := dec_dgs x.toNat x.toNat (Nat.le_refl _) c hc
  exact part_dig (by unfold digN; simp; omega)
theorem part_name {n : ByteArray} (h : nameS n = true) : partW n.data.toList := by
 unfold nameS at h
 simp only [Bool.and_eq_true, decide_eq_true_eq, List.all_eq_true, Bool.or_eq_true] at h
 obtain ⟨⟨⟨h1, _⟩, _⟩, h4⟩ := h
 have e : n.data.toList.length = n.size := Array.length_toList
 refine ⟨fun h0 => by rw [h0] at e; simp at e; omega, fun c hc => ?_⟩
 obtain ⟨i, hi, rfl⟩ := List.getElem_of_mem hc
 have hi' : i < n.size := by omega
 have h5 := h4 i (List.mem_range.2 hi')
 have hb : (n.data.toList[i]).toNat = byteAt n i := by
  rw [← byteAt_get n i hi']
  congr 1
 rw [hb]
 rcases h5 with h5 | h5
 ·exact part_low h5
 ·exact part_dig h5
theorem part_well {n : ByteArray} {r c : Int} (h : (wellT n r c).isEmpty = false) : partW (wellT n r c) := by
 unfold wellT at h ⊢
 split at h
 ·rename_i hk
  rw [if_pos hk]
  obtain ⟨hn, h0, h8, _, _⟩ := hk
  have k1 := part_name hn
  have k2 := part_dec (c + 1)
  refine ⟨by simp, fun x hx => ?_⟩
  simp only [List.mem_append, List.mem_cons, List.not_mem_nil, or_false] at hx
  rcases hx with (hx | rfl | rfl) | hx
  ·exact k1.2 x hx
  ·rfl
  ·refine part_cap ?_
   have e : (UInt8.ofNat (65 + r.toNat)).toNat = 65 + r.toNat := by rw [UInt8.toNat_ofNat']; omega
   rw [e]
   omega
  ·exact k2.2 x hx
 ·simp at h
theorem part_const {l : List UInt8} (h : (!l.isEmpty && l.all fun c => partN c.toNat) = true) : partW l := by
 simp only [Bool.and_eq_true, List.all_eq_true] at h
 refine ⟨fun e => by rw [e] at h; simp at h, h.2⟩
theorem sec_words (s : Sec) : secL s ≠ [] ∧ ∀ w ∈ secL s, partW w := by
 unfold secL
 split
 ·refine ⟨by simp, fun w hw => ?_⟩
  simp only [List.mem_cons, List.not_mem_nil, or_false] at hw
  rcases hw with rfl | rfl | rfl | rfl
  ·exact part_const (by decide)
  all_goals exact part_dec _
 ·refine ⟨by simp, fun w hw => ?_⟩
  simp only [List.mem_cons, List.not_mem_nil, or_false] at hw
  rcases hw with rfl | rfl | rfl | rfl | rfl | rfl
  ·exact part_const (by decide)
  all_goals exact part_dec _
theorem rec_words {k : List UInt8} (hk : partW k) {r : Wr} (hn : nameS r.n = true) : ∀ l ∈ recL k r, l ≠ [] ∧ ∀ w ∈ l, partW w := by
 intro l hl
 unfold recL at hl
 rcases List.mem_cons.1 hl with rfl | hl
 ·refine ⟨by simp, fun w hw => ?_⟩
  simp only [List.mem_cons, List.not_mem_nil, or_false] at hw
  rcases hw with rfl | rfl | rfl | rfl | rfl
  ·exact hk
  ·exact part_name hn
  all_goals exact part_dec _
 ·obtain ⟨s, _, rfl⟩ := List.mem_map.1 hl
  exact sec_words s
theorem deck_words {d : Dk} (h : rightD d = true) : ∀ l ∈ deckL d, l ≠ [] ∧ ∀ w ∈ l, partW w := by
 have hf := (right_parts h).2.2.2.2
 unfold rightD at h
 simp only [Bool.and_eq_true, decide_eq_true_eq] at h
 obtain ⟨⟨⟨⟨_, _⟩, h3⟩, h4⟩, _⟩ := h
 rw [apartW_iff] at h3 h4
 intro l hl
 unfold deckL at hl
 rcases List.mem_append.1 hl with hl | hl
 ·rcases List.mem_append.1 hl with hl | hl
  ·obtain ⟨r, hr, hl⟩ := List.mem_flatMap.1 hl
   obtain ⟨i, hi⟩ := List.getElem?_of_mem hr
   have hk := (h3 i r hi).1
   unfold wareOk at hk
   simp only [Bool.and_eq_true] at hk
   exact rec_words (part_const (by decide)) hk.1.1.1.1 l hl
  ·obtain ⟨r, hr, hl⟩ := List.mem_flatMap.1 hl
   obtain ⟨i, hi⟩ := List.getElem?_of_mem hr
   have hk := (h4 i r hi).1
   unfold tipOk at hk
   simp only [Bool.and_eq_true] at hk
   exact rec_words (part_const (by decide)) hk.1.1.1.1 l hl
 ·obtain ⟨f, hfm, rfl⟩ := List.mem_map.1 hl
  obtain ⟨n1, n2, n3, _, _⟩ := hf f hfm
  unfold fillL
  refine ⟨by simp, fun w hw => ?_⟩
  simp only [List.mem_cons, List.not_mem_nil, or_false] at hw
  rcases hw with rfl | rfl | rfl
  ·exact part_const (by decide)
  ·refine part_well ?_
   unfold wellT
   rw [if_pos ⟨n1, n2.1, n2.2, n3.1, n3.2⟩]
   simp
  ·exact part_dec _
theorem step_words {s : Sp} (h : stepOk s = true) : stepL s ≠ [] ∧ ∀ w ∈ stepL s, partW w := by
 unfold stepOk at h
 simp only [Bool.and_eq_true] at h
 obtain ⟨hw, hk⟩ := h
 have hws : ∀ p ∈ s.w, partW p.t := fun p hp => by
  unfold wellsOk at hw
  rw [List.all_eq_true] at hw
  have := hw p hp
  exact part_well (by simpa [Wp.t] using this)
 have hkind : partW (kindW s.k) := by
  unfold kindW
  repeat' split
  all_goals exact part_const (by decide)
 unfold stepL
 refine ⟨by simp, fun w hw => ?_⟩
 rcases List.mem_cons.1 hw with rfl | hw
 ·exact hkind
 unfold stepW at hw
 by_cases k0 : s.k = 0
 ·rw [if_pos k0] at hw
  obtain rfl := List.mem_singleton.1 hw
  unfold stepK at hk
  rw [if_pos k0] at hk
  simp only [Bool.and_eq_true] at hk
  exact part_name hk.1.1.1
 rw [if_neg k0] at hw
 have hm : ∀ (l : List Wp), (∀ p ∈ l, p ∈ s.w) → ∀ w ∈ l.map Wp.t, partW w := fun l hl w hw => by
  obtain ⟨p, hp, rfl⟩ := List.mem_map.1 hw
  exact hws p (hl p hp)
 by_cases k1 : s.k = 1
 ·rw [if_pos k1] at hw
  obtain rfl := List.mem_singleton.1 hw
  split <;> exact part_const (by decide)
 rw [if_neg k1] at hw
 by_cases k6 : s.k = 6
 ·rw [if_pos k6] at hw
  rcases List.mem_cons.1 hw with rfl | hw
  ·exact part_dec _
  ·exact hm s.w (fun _ h => h) w hw
 rw [if_neg k6] at hw
 by_cases k2 : s.k = 2
 ·rw [if_pos k2] at hw
  rcases List.mem_append.1 hw with hw | hw
  ·exact hm s.w (fun _ h => h) w hw
  ·obtain rfl := List.mem_singleton.1 hw
   exact part_dec _
 rw [if_neg k2] at hw
 by_cases k5 : s.k = 5
 ·rw [if_pos k5] at hw
  rcases List.mem_append.1 hw with hw | hw
  ·exact hm s.w (fun _ h => h) w hw
  ·simp only [List.mem_cons, List.not_mem_nil, or_false] at hw
   rcases hw with rfl | rfl <;> exact part_dec _
 rw [if_neg k5] at hw
 rcases List.mem_append.1 hw with hw | hw
 ·rcases List.mem_append.1 hw with hw | hw
  ·exact hm _ (fun p hp => List.mem_of_mem_take hp) w hw
  ·obtain rfl := List.mem_singleton.1 hw
   exact part_dec _
 ·exact hm _ (fun p hp => List.mem_of_mem_drop hp) w hw
theorem steps_behind (p : Nat) (l : List Sp) : BehindT (placeL p (l.map stepL)) := by
 cases l with
 | nil => exact .inl rfl
 | cons s l =>
  refine .inr ⟨(p, kindW s.k), _, _, rfl, ?_⟩
  simp only
  unfold kindW
  repeat' split
  all_goals decide
theorem deck_steps_said {d : Dk} (h : rightD d = true) {l : List Sp} (hl : ∀ s ∈ l, stepOk s = true) (hn : (textD d ++ l.flatMap fun s => lineT (stepL s)).length ≤ 65536) :
  ∃ R, linesB (textD d ++ l.flatMap fun s => lineT (stepL s)) = (placeL 0 (deckL d) ++ R, 0, 0) ∧ R.length = l.length ∧ parseD (placeL 0 (deckL d) ++ R) dk0 0 0 = (d, R, 0, 0) := by
 have e : textD d ++ (l.flatMap fun s => lineT (stepL s)) = (deckL d ++ l.map stepL).flatMap lineT := by
  unfold textD
  rw [if_pos h, List.flatMap_append, List.flatMap_map]
 have hlen : ∀ (p : Nat) (M : List (List (List UInt8))), (placeL p M).length = M.length := fun p M => by
  have := congrArg List.length (placeL_texts p M)
  simpa using this
 refine ⟨placeL (0 + ((deckL d).flatMap lineT).length) (l.map stepL), ?_, by rw [hlen]; simp, deck_said h 0 (steps_behind _ _)⟩
 rw [e] at hn ⊢
 rw [lines_said (fun x hx => ?_) hn, placeL_append]
 rcases List.mem_append.1 hx with hx | hx
 ·exact deck_words h x hx
 ·obtain ⟨s, hs, rfl⟩ := List.mem_map.1 hx
  exact step_words (hl s hs)
end Go.Proofs.YtalnfojaccfcjaaGreatDoor
namespace Go.Proofs.YtalnfojaccfcjaaGreatDoor
open Go.RowKit
set_option linter.unusedVariables false
def countW : List Wr → Int
 | [] => 0
 | w :: ws => w.x * w.y + countW ws
theorem count_take {ws : List Wr} {i : Nat} {F : Wr} (h : ws[i]? = some F) : countW (ws.take (i + 1)) = countW (ws.take i) + F.x * F.y := by
 have e : ∀ (l : List Wr) (r : Wr), countW (l ++ [r]) = countW l + r.x * r.y := fun l r => by
  induction l with
  | nil => simp [countW]
  | cons x l ih => show x.x * x.y + countW (l ++ [r]) = x.x * x.y + countW l + _; rw [ih]; omega
 rw [List.take_add_one, h]
 exact e _ _
set_option maxRecDepth 100000 in
set_option maxHeartbeats 2000000 in
theorem r8count_any (wv tv fv : Value) (d : Dk) (w : World) (h : IsDk w wv tv fv d) (hb : ∀ x ∈ d.ws, wareB x) (h100 : d.ws.length ≤ 100) : Calls Tryz.prog 76 #[.agg #[wv, tv, fv]] w fun e w' => e = .returned (.int .i64 (countW d.ws)) ∧ B w w' := by
 obtain ⟨ao, ac, bo, bc, co, cc, rfl, rfl, rfl⟩ := h.forms
 have hQ := (B.refl w).alloc #[.slice ao d.ws.length ac, .slice bo d.ts.length bc, .slice co d.fs.length cc] 26
 have hR := h.ws.keepB hQ
 have oD := obj_new w (.cells #[.slice ao d.ws.length ac, .slice bo d.ts.length bc, .slice co d.fs.length cc] 26)
 obtain ⟨W, hW⟩ : ∃ W, w.alloc (.cells #[.slice ao d.ws.length ac, .slice bo d.ts.length bc, .slice co d.fs.length cc] 26) = W := ⟨_, rfl⟩
 rw [hW] at hR hQ oD
 clear h
 go_enter Tryz.func76, Tryz.ntmps76
 go_wp2_with fail
 try rw [hW]
 clear hW
 generalize w.heap.size = H at *
 go_loopw [3, 4] (fun nv iv wr => ∃ (i : Nat) (K : Int), i ≤ d.ws.length ∧ iv = .int .i64 i ∧ nv = .int .i64 K ∧ 0 ≤ K ∧ K ≤ 96 * (i : Int) ∧ K = countW (d.ws.take i) ∧ Dr W wr) (fun _ iv _ => d.ws.length + 1 - (intOf iv).toNat)
 case atStart => exact ⟨0, 0, Nat.zero_le _, rfl, rfl, by omega, by omega, rfl, Dr.refl _⟩
 case round =>
  obtain ⟨i, K, hi, rfl, rfl, hK0, hK1, hKe, n, rfl⟩ := hrel
  have k0 : (W.drewN n).cell? ⟨H, 0, none⟩ = some (.slice ao d.ws.length ac) := obj_cell (w := W.drewN n) oD 0
  by_cases hl : i < d.ws.length
  ·have hlB : decide ((i : Int) < (d.ws.length : Int)) = true := decide_eq_true (by omega)
   have hlI : (i : Int) < (d.ws.length : Int) := by omega
   have hi0 : (0 : Int) ≤ (i : Int) := by omega
   have wk1 : IntKind.i64.wrap ((i : Int) + 1) = (i : Int) + 1 := by rw [IntKind.wrap_i64]; omega
   obtain ⟨a, cap, e1, _, _, hr⟩ := hR.at_ hl
   obtain ⟨rfl, _, rfl⟩ : ao = some a ∧ True ∧ ac = cap := by simpa using e1
   have hbi := hb _ (List.getElem_mem hl)
   have hT := count_take (ws := d.ws) (i := i) (List.getElem?_eq_getElem hl)
   obtain ⟨F, hF⟩ : ∃ F, d.ws[i] = F := ⟨_, rfl⟩
   rw [hF] at hr hbi hT
   obtain ⟨b1, b2, b3, b4⟩ := hbi
   obtain ⟨g1, g2, g3, _⟩ := hr
   obtain ⟨N, X, Y, Z, SL⟩ := F
   simp only at g2 g3 b1 b2 b3 b4 hT
   have g2' : ∀ m, (W.drewN m).cell? _ = _ := fun m => g2
   have g3' : ∀ m, (W.drewN m).cell? _ = _ := fun m => g3
   have hxy := mul_small (a := X) (b := Y) (by omega) b2 (by omega) b4
   rw [← hKe] at hT
   obtain ⟨P, hP⟩ : ∃ P, X * Y = P := ⟨_, rfl⟩
   rw [hP] at hxy hT
   have w1 : IntKind.i64.wrap (X * Y) = P := by rw [hP, IntKind.wrap_i64]; omega
   have w2 : IntKind.i64.wrap (K + P) = K + P := by rw [IntKind.wrap_i64]; omega
   have k0' : ∀ m, (W.drewN m).cell? ⟨H, 0, none⟩ = some (.slice (some a) d.ws.length ac) := fun m => k0
   have HX := Lib.hid (And.intro hT (And.intro (show 0 ≤ K + P ∧ K + P ≤ 96 * ((i : Int) + 1) by omega) hl))
   clear hT hKe hb hF e1 hP hxy hl hi
   go_wp2_with fail
   go_quiet (fail)
   go_wp2
   go_roundw
   case rel =>
    obtain ⟨h1, ⟨h2, h3⟩, h4⟩ := HX.out
    exact ⟨i + 1, K + P, by omega, by go_num, rfl, h2, by omega, h1.symm, _, rfl⟩
   case measure => have := HX.out; simp [intOf]; omega
  ·have hlB : decide ((i : Int) < (d.ws.length : Int)) = false := decide_eq_false (by omega)
   have hlN : decide (i < d.ws.length) = false := decide_eq_false hl
   rw [List.take_of_length_le (by omega)] at hKe
   have HX := Lib.hid (And.intro hKe (hQ.drewN n))
   clear hKe hl
   go_wp2
   go_ret
   exact ⟨by rw [← HX.out.1]; rfl, HX.out.2⟩
end Go.Proofs.YtalnfojaccfcjaaGreatDoor
namespace Go.Proofs.YtalnfojaccfcjaaGreatDoor
open Go.RowKit
set_option linter.unusedVariables false
structure Pz where
 k : Nat
 a : Nat
 b : Nat
 c : Nat
 v : Nat
def wpAt (ws : List Wr) (i : Nat) : Wp := match atW ws (i : Int) with
 | some (n, r, c) => ⟨n, r, c⟩
 | none => ⟨⟨#[]⟩, 0, 0⟩
def pieceV (p : Pz) : Int := if p.v % 7 = 0 then ((p.v % 90000 + 1 : Nat) : Int) else ((p.v % 9000 + 1 : Nat) : Int)
def pieceW (ws : List Wr) (p : Pz) : List Wp := [wpAt ws (p.a % (countW ws).toNat), wpAt ws (p.b % (countW ws).toNat), wpAt ws (p.c % (countW ws).toNat)]
def pieceS (d : Dk) (p : Pz) : Sp :=
 if p.k % 10 = 0 then ⟨0, if p.a % 2 = 1 ∧ 2 ≤ d.ts.length then nameT2 else nameT1, [], 0, 0⟩
 else if p.k % 10 = 1 then ⟨1, ⟨#[]⟩, [], 0, ((p.a % 2 : Nat) : Int)⟩
 else if p.k % 10 = 2 then ⟨3, ⟨#[]⟩, pieceW d.ws p, pieceV p, 0⟩
 else if p.k % 10 = 3 then ⟨4, ⟨#[]⟩, pieceW d.ws p, pieceV p, 0⟩
 else if p.k % 10 = 4 then ⟨5, ⟨#[]⟩, (pieceW d.ws p).take 1, pieceV p, ((p.b % 3 + 1 : Nat) : Int)⟩
 else if p.k % 10 = 5 then ⟨6, ⟨#[]⟩, pieceW d.ws p, pieceV p, 0⟩
 else ⟨2, ⟨#[]⟩, (pieceW d.ws p).take 2, pieceV p, 0⟩
def seatSteps (d : Dk) (ps : List Pz) : List Sp := ⟨0, nameT1, [], 0, 0⟩ :: ps.map (pieceS d)
theorem at_some : ∀ (ws : List Wr) (k : Int), (∀ x ∈ ws, wareB x) → 0 ≤ k → k < countW ws → ∃ v ∈ ws, ∃ r c : Int, atW ws k = some (v.n, r, c) ∧ 0 ≤ r ∧ r < 8 ∧ 0 ≤ c ∧ c < 12
 | [], k, _, h0, h1 => by simp [countW] at h1; omega
 | w :: ws, k, hb, h0, h1 => by
  obtain ⟨b1, b2, b3, b4⟩ := hb w (List.mem_cons_self ..)
  rw [atW, if_neg (by omega)]
  by_cases h2 : k < w.x * w.y
  ·rw [if_pos h2]
   have e1 := Int.emod_nonneg k (by omega : w.y ≠ 0)
   have e2 := Int.emod_lt_of_pos k (by omega : 0 < w.y)
   have e3 := Int.ediv_nonneg h0 (by omega : 0 ≤ w.y)
   have e4 : k / w.y < w.x := Int.ediv_lt_of_lt_mul (by omega) (by rw [Int.mul_comm] at h2; rw [Int.mul_comm]; exact h2)
   exact ⟨w, List.mem_cons_self .., _, _, rfl, e3, by omega, e1, by omega⟩
  ·rw [if_neg h2]
   have h3 : countW (w :: ws) = w.x * w.y + countW ws := rfl
   obtain ⟨v, hv, r, c, h4⟩ := at_some ws (k - w.x * w.y) (fun x hx => hb x (List.mem_cons_of_mem _ hx)) (by omega) (by omega)
   exact ⟨v, List.mem_cons_of_mem _ hv, r, c, h4⟩
theorem wp_right {ws : List Wr} (hb : ∀ x ∈ ws, wareB x) (hn : ∀ x ∈ ws, nameS x.n = true) {i : Nat} (hi : (i : Int) < countW ws) : (wpAt ws i).t.isEmpty = false := by
 obtain ⟨v, hv, r, c, e, r0, r8, c0, c12⟩ := at_some ws i hb (by omega) hi
 unfold wpAt Wp.t
 rw [e]
 simp only
 unfold wellT
 rw [if_pos ⟨hn v hv, r0, r8, c0, c12⟩]
 simp
theorem piece_ok {d : Dk} (hb : ∀ x ∈ d.ws, wareB x) (hn : ∀ x ∈ d.ws, nameS x.n = true) (hc : 0 < countW d.ws) (p : Pz) : stepOk (pieceS d p) = true := by
 have hm : ∀ i : Nat, ((i % (countW d.ws).toNat : Nat) : Int) < countW d.ws := fun i => by
  have := Nat.mod_lt i (show 0 < (countW d.ws).toNat by omega)
  omega
 have hw : ∀ q ∈ pieceW d.ws p, q.t.isEmpty = false := fun q hq => by
  unfold pieceW at hq
  simp only [List.mem_cons, List.not_mem_nil, or_false] at hq
  rcases hq with rfl | rfl | rfl <;> exact wp_right hb hn (hm _)
 have ok : ∀ l : List Wp, (∀ q ∈ l, q ∈ pieceW d.ws p) → wellsOk l = true := fun l hl => by
  unfold wellsOk
  rw [List.all_eq_true]
  intro q hq
  rw [hw q (hl q hq)]
  rfl
 have hV : inB (pieceV p) 1 20000000 = true := by
  rw [inB_iff]
  unfold pieceV
  split <;> omega
 have hlen : (pieceW d.ws p).length = 3 := rfl
 have t1 : ((pieceW d.ws p).take 1).length = 1 := rfl
 have t2 : ((pieceW d.ws p).take 2).length = 2 := rfl
 have hE : (({ data := #[] } : ByteArray).toList == []) = true := by rw [toList_data]; rfl
 unfold pieceS stepOk
 split
 ·simp only [wellsOk, List.all_nil, Bool.true_and]
  unfold stepK
  simp only [if_true]
  split <;> rfl
 split
 ·simp only [wellsOk, List.all_nil, Bool.true_and]
  unfold stepK
  have h2 : p.a % 2 = 0 ∨ p.a % 2 = 1 := by omega
  rcases h2 with h2 | h2 <;> rw [h2] <;> simp
 split
 ·rw [ok _ (fun _ h => h)]
  unfold stepK
  simp [hV, hlen]
 split
 ·rw [ok _ (fun _ h => h)]
  unfold stepK
  simp [hV, hlen]
 split
 ·rw [ok _ (fun _ h => List.mem_of_mem_take h)]
  unfold stepK
  have h3 : inB ((p.b % 3 + 1 : Nat) : Int) 1 20 = true := by rw [inB_iff]; omega
  simp only [hV, h3, t1, hE]
  simp
 split
 ·rw [ok _ (fun _ h => h)]
  unfold stepK
  simp [hV, hlen]
 ·rw [ok _ (fun _ h => List.mem_of_mem_take h)]
  unfold stepK
  simp only [hV, t2, hE]
  simp
end Go.Proofs.YtalnfojaccfcjaaGreatDoor
namespace Go.Proofs.YtalnfojaccfcjaaGreatDoor
open Go.RowKit
set_option linter.unusedVariables false
def Wp.val (p : Wp) : Value := .agg #[.string p.n, .int .i64 p.r, .int .i64 p.c]
set_option maxRecDepth 100000 in
set_option maxHeartbeats 2000000 in
theorem seatat_any (wv tv fv : Value) (d : Dk) (k : Nat) (hk : k ≤ 1000000) (w : World) (h : IsDk w wv tv fv d) (hb : ∀ x ∈ d.ws, wareB x) : Calls Tryz.prog 77 #[.agg #[wv, tv, fv], .int .i64 (k : Int)] w fun e w' => e = .returned (wpAt d.ws k).val ∧ B w w' := by
 obtain ⟨ao, ac, bo, bc, co, cc, rfl, rfl, rfl⟩ := h.forms
 have q1 := ((B.refl w).alloc #[.slice ao d.ws.length ac, .slice bo d.ts.length bc, .slice co d.fs.length cc] 26).alloc #[.string ⟨#[]⟩, .int .i64 0, .int .i64 0] 39
 have cA := r8at_any _ _ _ d (k : Int) (by unfold I64; omega) _ (h.keepB q1) hb
 have e1 : (w.alloc (.cells #[.slice ao d.ws.length ac, .slice bo d.ts.length bc, .slice co d.fs.length cc] 26)).heap.size = w.heap.size + 1 := by simp
 have oE := obj_new (w.alloc (.cells #[.slice ao d.ws.length ac, .slice bo d.ts.length bc, .slice co d.fs.length cc] 26)) (.cells #[.string ⟨#[]⟩, .int .i64 0, .int .i64 0] 39)
 rw [e1] at oE
 clear e1
 unfold wpAt
 cases hat : atW d.ws (k : Int) with
 | none =>
  rw [hat] at cA
  replace cA : Calls Tryz.prog 29 #[.agg #[.slice ao d.ws.length ac, .slice bo d.ts.length bc, .slice co d.fs.length cc], .int .i64 (k : Int)] _ fun e w' => e = .returned (.tuple #[.agg #[.string ⟨#[]⟩, .int .i64 0, .int .i64 0], .bool false]) ∧ B _ w' := cA
  clear hat h hb
  go_enter Tryz.func77, Tryz.ntmps77
  go_wp2_with fail
  refine cA.mono ?_
  rintro _ w2 ⟨rfl, q2⟩
  have oF := q2.obj oE
  have hlt := obj_lt (q2.obj oE)
  obtain ⟨E, hE⟩ : ∃ E, w.heap.size + 1 = E := ⟨_, rfl⟩
  have hEw : w.heap.size ≤ E := by omega
  rw [hE] at oF hlt ⊢
  clear hE
  have hB := q1.trans q2
  have oN := obj_new w2 (.cells #[.string ⟨#[]⟩, .int .i64 0, .int .i64 0] 39)
  have p0 : (w2.alloc (.cells #[.string ⟨#[]⟩, .int .i64 0, .int .i64 0] 39)).cell? ⟨w2.heap.size, 0, none⟩ = some (.string ⟨#[]⟩) := obj_cell oN 0
  have p1 : (w2.alloc (.cells #[.string ⟨#[]⟩, .int .i64 0, .int .i64 0] 39)).cell? ⟨w2.heap.size, 1, none⟩ = some (.int .i64 0) := obj_cell oN 1
  have p2 : (w2.alloc (.cells #[.string ⟨#[]⟩, .int .i64 0, .int .i64 0] 39)).cell? ⟨w2.heap.size, 2, none⟩ = some (.int .i64 0) := obj_cell oN 2
  have f0 := obj_free oF 0
  have f1 := obj_free oF 1
  have f2 := obj_free oF 2
  have r0 : w2.cell? ⟨E, 0, none⟩ = some (.string ⟨#[]⟩) := obj_cell oF 0
  have r1 : w2.cell? ⟨E, 1, none⟩ = some (.int .i64 0) := obj_cell oF 1
  have r2 : w2.cell? ⟨E, 2, none⟩ = some (.int .i64 0) := obj_cell oF 2
  have hne : ¬ w2.heap.size = E := by omega
  have hne2 : ¬ E = w2.heap.size := by omega
  have oG := ((B.refl _).alloc #[.string ⟨#[]⟩, .int .i64 0, .int .i64 0] 39).obj (obj_three oF (.string ⟨#[]⟩) (.int .i64 0) (.int .i64 0))
  have bG := (b_three hB (b := E) hEw (.string ⟨#[]⟩) (.int .i64 0) (.int .i64 0)).alloc #[.string ⟨#[]⟩, .int .i64 0, .int .i64 0] 39
  go_wp2
  have z0 := obj_cell oG 0
  have z1 := obj_cell oG 1
  have z2 := obj_cell oG 2
  exact bodyPost_ret (v := .agg #[.string ⟨#[]⟩, .int .i64 0, .int .i64 0]) (by simp [results, Tryz.results77, go_sem, z0, z1, z2]) rfl ⟨rfl, bG⟩
 | some nrc =>
  obtain ⟨N, R, C⟩ := nrc
  rw [hat] at cA
  replace cA : Calls Tryz.prog 29 #[.agg #[.slice ao d.ws.length ac, .slice bo d.ts.length bc, .slice co d.fs.length cc], .int .i64 (k : Int)] _ fun e w' => e = .returned (.tuple #[.agg #[.string N, .int .i64 R, .int .i64 C], .bool true]) ∧ B _ w' := cA
  clear hat h hb
  go_enter Tryz.func77, Tryz.ntmps77
  go_wp2_with fail
  refine cA.mono ?_
  rintro _ w2 ⟨rfl, q2⟩
  have oF := q2.obj oE
  have hlt := obj_lt (q2.obj oE)
  obtain ⟨E, hE⟩ : ∃ E, w.heap.size + 1 = E := ⟨_, rfl⟩
  have hEw : w.heap.size ≤ E := by omega
  rw [hE] at oF hlt ⊢
  clear hE
  have hB := q1.trans q2
  have oN := obj_new w2 (.cells #[.string N, .int .i64 R, .int .i64 C] 39)
  have p0 : (w2.alloc (.cells #[.string N, .int .i64 R, .int .i64 C] 39)).cell? ⟨w2.heap.size, 0, none⟩ = some (.string N) := obj_cell oN 0
  have p1 : (w2.alloc (.cells #[.string N, .int .i64 R, .int .i64 C] 39)).cell? ⟨w2.heap.size, 1, none⟩ = some (.int .i64 R) := obj_cell oN 1
  have p2 : (w2.alloc (.cells #[.string N, .int .i64 R, .int .i64 C] 39)).cell? ⟨w2.heap.size, 2, none⟩ = some (.int .i64 C) := obj_cell oN 2
  have f0 := obj_free oF 0
  have f1 := obj_free oF 1
  have f2 := obj_free oF 2
  have r0 : w2.cell? ⟨E, 0, none⟩ = some (.string ⟨#[]⟩) := obj_cell oF 0
  have r1 : w2.cell? ⟨E, 1, none⟩ = some (.int .i64 0) := obj_cell oF 1
  have r2 : w2.cell? ⟨E, 2, none⟩ = some (.int .i64 0) := obj_cell oF 2
  have hne : ¬ w2.heap.size = E := by omega
  have hne2 : ¬ E = w2.heap.size := by omega
  have oG := ((B.refl _).alloc #[.string N, .int .i64 R, .int .i64 C] 39).obj (obj_three oF (.string N) (.int .i64 R) (.int .i64 C))
  have bG := (b_three hB (b := E) hEw (.string N) (.int .i64 R) (.int .i64 C)).alloc #[.string N, .int .i64 R, .int .i64 C] 39
  go_wp2
  have z0 := obj_cell oG 0
  have z1 := obj_cell oG 1
  have z2 := obj_cell oG 2
  exact bodyPost_ret (v := .agg #[.string N, .int .i64 R, .int .i64 C]) (by simp [results, Tryz.results77, go_sem, z0, z1, z2]) rfl ⟨rfl, bG⟩
end Go.Proofs.YtalnfojaccfcjaaGreatDoor
namespace Go.Proofs.YtalnfojaccfcjaaGreatDoor
open Go.RowKit
theorem obj_five {w : World} {b : Nat} {a0 a1 a2 a3 a4 : Value} {t : TypeId} (h : w.heap[b]? = some (.cells #[a0, a1, a2, a3, a4] t (0, 0))) (x0 x1 x2 x3 x4 : Value) :
  (((((w.setCell ⟨b, 0, none⟩ x0).setCell ⟨b, 1, none⟩ x1).setCell ⟨b, 2, none⟩ x2).setCell ⟨b, 3, none⟩ x3).setCell ⟨b, 4, none⟩ x4).heap[b]? = some (.cells #[x0, x1, x2, x3, x4] t (0, 0)) := by
 have := obj_set (obj_set (obj_set (obj_set (obj_set h 0 x0) 1 x1) 2 x2) 3 x3) 4 x4
 simpa using this
theorem b_five {u w : World} (h : B u w) {b : Nat} (hb : u.heap.size ≤ b) (x0 x1 x2 x3 x4 : Value) :
  B u (((((w.setCell ⟨b, 0, none⟩ x0).setCell ⟨b, 1, none⟩ x1).setCell ⟨b, 2, none⟩ x2).setCell ⟨b, 3, none⟩ x3).setCell ⟨b, 4, none⟩ x4) :=
 B.setCell (p := ⟨b, 4, none⟩) (B.setCell (p := ⟨b, 3, none⟩) (B.setCell (p := ⟨b, 2, none⟩) (B.setCell (p := ⟨b, 1, none⟩) (B.setCell (p := ⟨b, 0, none⟩) h hb _) hb _) hb _) hb _) hb _
end Go.Proofs.YtalnfojaccfcjaaGreatDoor
