/-
 Contracts and what they rest on.
-/
import Derived.Test.YtglniapfnhedoaaGreatDoorY18
namespace Go.Proofs.YtglniapfnhedoaaGreatDoor
open Go.RowKit
set_option linter.unusedVariables false
set_option maxRecDepth 100000 in
set_option maxHeartbeats 1600000 in
theorem line_Ware (Wb w : World) (base S : Nat) (v : Value) (k : Wd) (l : List Wd) (p e : Int) (P : World → Prop) (P' : World → Prop) (hb : Wb.heap.size ≤ base) (hB : B Wb w) (hbw : base ≤ w.heap.size) (hv : IsWd Wb v (k :: l)) (hPs : ∀ w, P w → S < w.heap.size) (hr : ((strB k.2).toList == [114, 111, 117, 110, 100]) = false) (hbx : ((strB k.2).toList == [98, 111, 120]) = false) (hlen : ((l.length : Int) + 1 == lenS (strB k.2)) = true) (hkWare : ((strB k.2).toList == [119, 97, 114, 101]) = true)
  (hfin : ∀ w', B w w' → Calls Tryz.prog 46 #[.pointer (some ⟨S, 0, none⟩)] w' fun r w'' => r = .returned (.agg #[.int .i64 0, .int .i64 0]) ∧ P w'' ∧ Tn kS base w' w'')
  (hPB : ∀ w' w'', B w' w'' → P w' → P w'')
  (hfull : ∀ w', P w' → Calls Tryz.prog 63 #[.pointer (some ⟨S, 0, none⟩), .string (strB k.2)] w' fun e w'' => e = .returned (.bool false) ∧ w' = w'')
  (hl2 : 1 ≤ l.length) (hadd : ∀ w' R, B Wb w' → base ≤ w'.heap.size → base ≤ R → RdAt Wb w' R l 0 0 → P w' → Calls Tryz.prog 64 #[.pointer (some ⟨S, 0, none⟩), .int .i64 ((k.1 : Nat) : Int), .pointer (some ⟨R, 0, none⟩)] w' fun r w'' => r = .returned (.tuple #[]) ∧ (∃ vv, w''.heap[R]? = some (.cells #[vv, .int .i64 p, .int .i64 e] 121 (0, 0))) ∧ P' w'' ∧ Tn kS base w' w'')
  (hPF : ∀ (w : World) (H : Nat) (x y : Value), w.heap[H]? = some (.cells #[.int .i64 0, .int .i64 0] 98 (0, 0)) → P' w → P' ((w.setCell ⟨H, 0, none⟩ x).setCell ⟨H, 1, none⟩ y)) :
  Calls Tryz.prog 45 #[.pointer (some ⟨S, 0, none⟩), v] w fun r w' => r = .returned (.agg #[.int .i64 p, .int .i64 e]) ∧ P' w' ∧ Tn kS base w w' := by
 obtain ⟨g, o, cap, rfl, h2, h3, h4⟩ := hv
 obtain ⟨x0, x1⟩ : w.cell? ⟨g, o, none⟩ = some (.int .i64 ((k.1 : Nat) : Int)) ∧ w.cell? ⟨g, o + 1, none⟩ = some (.string (strB k.2)) := by
  have := h4 0 k rfl
  exact ⟨hB.keep (by simpa using this.1), hB.keep (by simpa using this.2)⟩
 have hgl := World.block_lt_of_cell? w _ x0
 have hl0 : (0 : Int) < ((l.length : Int) + 1) := by omega
 have hcap : (l.length : Int) + 1 ≤ (cap : Int) := by simp at h2; omega
 have q0 : B w ((w.alloc (.cells #[.int .i64 0, .int .i64 0] 98)).alloc (.cells #[.int .i64 ((k.1 : Nat) : Int), .string (strB k.2)] 95)) := ((B.refl w).alloc _ _).alloc _ _
 have oH := obj_past (obj_new w (.cells #[.int .i64 0, .int .i64 0] 98)) (.cells #[.int .i64 ((k.1 : Nat) : Int), .string (strB k.2)] 95)
 have oF := obj_new (w.alloc (.cells #[.int .i64 0, .int .i64 0] 98)) (.cells #[.int .i64 ((k.1 : Nat) : Int), .string (strB k.2)] 95)
 have hNew : ∀ (b : World), Tn kS base w b → ∀ x y, Tn kS base w ((b.setCell ⟨w.heap.size, 0, none⟩ x).setCell ⟨w.heap.size, 1, none⟩ y) := fun b h x y =>
  (h.setNew (p := ⟨w.heap.size, 0, none⟩) (Nat.le_refl _) x).setNew (p := ⟨w.heap.size, 1, none⟩) (Nat.le_refl _) y
 have hsz : (w.alloc (.cells #[.int .i64 0, .int .i64 0] 98)).heap.size = w.heap.size + 1 := by simp
 rw [hsz] at oF
 clear hsz
 replace hfin := hfin _ q0
 go_enter Tryz.func45, Tryz.ntmps45
 go_wp2_with fail
 refine (Calls.mono hfin ?_)
 rintro _ w1 ⟨rfl, hP1, t1⟩
 clear hfin
 replace oH := t1.objc oH (by decide)
 replace oF := t1.objc oF (by decide)
 have tw : Tn kS base w w1 := (q0.tn _ _).trans t1
 replace hNew := fun b h x y => hNew b h x y
 generalize hH : w.heap.size = H at *
 have n0 : w1.cell? ⟨H + 1, 0, none⟩ = some (.int .i64 ((k.1 : Nat) : Int)) := obj_cell oF 0
 have n1 : w1.cell? ⟨H + 1, 1, none⟩ = some (.string (strB k.2)) := obj_cell oF 1
 have r0 : w1.cell? ⟨H, 0, none⟩ = some (.int .i64 0) := obj_cell oH 0
 have r1 : w1.cell? ⟨H, 1, none⟩ = some (.int .i64 0) := obj_cell oH 1
 have e0 := obj_free oH 0
 have e1 := obj_free oH 1
 have hH1 := obj_lt oF
 have hHl := obj_lt oH
 clear x0 x1 q0 t1 hgl
 have hSl := hPs _ hP1
 have cl := fun w => length9_any (strB k.2) w
 generalize lenS (strB k.2) = LN at *
 have cf := hfull _ (hPB _ _ ((B.refl w1).alloc #[.int .i64 0, .int .i64 0] 98) hP1)
 have hln : ((l.length : Int) + 1 != LN) = false := by rw [bne, hlen]; rfl
 have hc1 : ¬ cap = 1 := by simp at h2; omega
 have qR : B w1 ((w1.alloc (.cells #[.int .i64 0, .int .i64 0] 98)).alloc (.cells #[.slice (some ⟨g, o + 2, none⟩) l.length (cap - 1), .int .i64 0, .int .i64 0] 121)) := ((B.refl w1).alloc _ _).alloc _ _
 have oR0 := obj_new (w1.alloc (.cells #[.int .i64 0, .int .i64 0] 98)) (.cells #[.slice (some ⟨g, o + 2, none⟩) l.length (cap - 1), .int .i64 0, .int .i64 0] 121)
 rw [show (w1.alloc (.cells #[.int .i64 0, .int .i64 0] 98)).heap.size = w1.heap.size + 1 by simp] at oR0
 have hWd : IsWd Wb (.slice (some ⟨g, o + 2, none⟩) l.length (cap - 1)) l := ⟨g, o + 2, cap - 1, rfl, by simp at h2; omega, by omega, fun i y hy => by
  have := h4 (i + 1) y (by simpa using hy)
  rw [show o + 2 + i * 2 = o + (i + 1) * 2 by omega]
  exact this⟩
 have hadd' := hadd ((w1.alloc (.cells #[.int .i64 0, .int .i64 0] 98)).alloc (.cells #[.slice (some ⟨g, o + 2, none⟩) l.length (cap - 1), .int .i64 0, .int .i64 0] 121)) (w1.heap.size + 1) ((tw.toB hB hb).trans qR) (by have := tw.size; have := qR.below.size; omega) (by have := tw.size; omega) ⟨_, oR0, hWd⟩ (hPB _ _ qR hP1)
 have oHR := qR.obj oH
 clear hadd hWd
 go_wp2_with (first | (go_at_call 44; refine (cl _).mono ?_; rintro _ _ ⟨rfl, rfl⟩) | (go_at_call 63; refine (Calls.mono cf ?_); rintro _ _ ⟨rfl, rfl⟩) | (go_at_call 64; refine (Calls.mono hadd' ?_); rintro _ w2 ⟨rfl, ⟨vv, oR2⟩, hP2, t2⟩; have oH2 := t2.objc oHR (by decide); have z0 : w2.cell? ⟨H, 0, none⟩ = some (.int .i64 0) := obj_cell oH2 0; have z1 : w2.cell? ⟨H, 1, none⟩ = some (.int .i64 0) := obj_cell oH2 1; have y0 := obj_free oH2 0; have y1 := obj_free oH2 1; have p1 : w2.cell? ⟨w1.heap.size + 1, 1, none⟩ = some (.int .i64 p) := obj_cell oR2 1; have p2 : w2.cell? ⟨w1.heap.size + 1, 2, none⟩ = some (.int .i64 e) := obj_cell oR2 2))
 have oE := obj_set (obj_set oH2 0 (.int .i64 p)) 1 (.int .i64 e)
 have c0 := obj_cell oE 0
 have c1 := obj_cell oE 1
 exact bodyPost_ret (v := .agg #[.int .i64 p, .int .i64 e]) (by simp [results, Tryz.results45, go_sem, c0, c1]) rfl ⟨rfl, hPF _ _ _ _ oH2 hP2, hNew _ ((tw.trans (qR.tn _ _)).trans t2) _ _⟩
set_option maxRecDepth 100000 in
set_option maxHeartbeats 1600000 in
theorem line_Tip (Wb w : World) (base S : Nat) (v : Value) (k : Wd) (l : List Wd) (p e : Int) (P : World → Prop) (P' : World → Prop) (hb : Wb.heap.size ≤ base) (hB : B Wb w) (hbw : base ≤ w.heap.size) (hv : IsWd Wb v (k :: l)) (hPs : ∀ w, P w → S < w.heap.size) (hr : ((strB k.2).toList == [114, 111, 117, 110, 100]) = false) (hbx : ((strB k.2).toList == [98, 111, 120]) = false) (hlen : ((l.length : Int) + 1 == lenS (strB k.2)) = true) (hkWare : ((strB k.2).toList == [119, 97, 114, 101]) = false) (hkTip : ((strB k.2).toList == [116, 105, 112]) = true)
  (hfin : ∀ w', B w w' → Calls Tryz.prog 46 #[.pointer (some ⟨S, 0, none⟩)] w' fun r w'' => r = .returned (.agg #[.int .i64 0, .int .i64 0]) ∧ P w'' ∧ Tn kS base w' w'')
  (hPB : ∀ w' w'', B w' w'' → P w' → P w'')
  (hfull : ∀ w', P w' → Calls Tryz.prog 63 #[.pointer (some ⟨S, 0, none⟩), .string (strB k.2)] w' fun e w'' => e = .returned (.bool false) ∧ w' = w'')
  (hl2 : 1 ≤ l.length) (hadd : ∀ w' R, B Wb w' → base ≤ w'.heap.size → base ≤ R → RdAt Wb w' R l 0 0 → P w' → Calls Tryz.prog 65 #[.pointer (some ⟨S, 0, none⟩), .int .i64 ((k.1 : Nat) : Int), .pointer (some ⟨R, 0, none⟩)] w' fun r w'' => r = .returned (.tuple #[]) ∧ (∃ vv, w''.heap[R]? = some (.cells #[vv, .int .i64 p, .int .i64 e] 121 (0, 0))) ∧ P' w'' ∧ Tn kS base w' w'')
  (hPF : ∀ (w : World) (H : Nat) (x y : Value), w.heap[H]? = some (.cells #[.int .i64 0, .int .i64 0] 98 (0, 0)) → P' w → P' ((w.setCell ⟨H, 0, none⟩ x).setCell ⟨H, 1, none⟩ y)) :
  Calls Tryz.prog 45 #[.pointer (some ⟨S, 0, none⟩), v] w fun r w' => r = .returned (.agg #[.int .i64 p, .int .i64 e]) ∧ P' w' ∧ Tn kS base w w' := by
 obtain ⟨g, o, cap, rfl, h2, h3, h4⟩ := hv
 obtain ⟨x0, x1⟩ : w.cell? ⟨g, o, none⟩ = some (.int .i64 ((k.1 : Nat) : Int)) ∧ w.cell? ⟨g, o + 1, none⟩ = some (.string (strB k.2)) := by
  have := h4 0 k rfl
  exact ⟨hB.keep (by simpa using this.1), hB.keep (by simpa using this.2)⟩
 have hgl := World.block_lt_of_cell? w _ x0
 have hl0 : (0 : Int) < ((l.length : Int) + 1) := by omega
 have hcap : (l.length : Int) + 1 ≤ (cap : Int) := by simp at h2; omega
 have q0 : B w ((w.alloc (.cells #[.int .i64 0, .int .i64 0] 98)).alloc (.cells #[.int .i64 ((k.1 : Nat) : Int), .string (strB k.2)] 95)) := ((B.refl w).alloc _ _).alloc _ _
 have oH := obj_past (obj_new w (.cells #[.int .i64 0, .int .i64 0] 98)) (.cells #[.int .i64 ((k.1 : Nat) : Int), .string (strB k.2)] 95)
 have oF := obj_new (w.alloc (.cells #[.int .i64 0, .int .i64 0] 98)) (.cells #[.int .i64 ((k.1 : Nat) : Int), .string (strB k.2)] 95)
 have hNew : ∀ (b : World), Tn kS base w b → ∀ x y, Tn kS base w ((b.setCell ⟨w.heap.size, 0, none⟩ x).setCell ⟨w.heap.size, 1, none⟩ y) := fun b h x y =>
  (h.setNew (p := ⟨w.heap.size, 0, none⟩) (Nat.le_refl _) x).setNew (p := ⟨w.heap.size, 1, none⟩) (Nat.le_refl _) y
 have hsz : (w.alloc (.cells #[.int .i64 0, .int .i64 0] 98)).heap.size = w.heap.size + 1 := by simp
 rw [hsz] at oF
 clear hsz
 replace hfin := hfin _ q0
 go_enter Tryz.func45, Tryz.ntmps45
 go_wp2_with fail
 refine (Calls.mono hfin ?_)
 rintro _ w1 ⟨rfl, hP1, t1⟩
 clear hfin
 replace oH := t1.objc oH (by decide)
 replace oF := t1.objc oF (by decide)
 have tw : Tn kS base w w1 := (q0.tn _ _).trans t1
 replace hNew := fun b h x y => hNew b h x y
 generalize hH : w.heap.size = H at *
 have n0 : w1.cell? ⟨H + 1, 0, none⟩ = some (.int .i64 ((k.1 : Nat) : Int)) := obj_cell oF 0
 have n1 : w1.cell? ⟨H + 1, 1, none⟩ = some (.string (strB k.2)) := obj_cell oF 1
 have r0 : w1.cell? ⟨H, 0, none⟩ = some (.int .i64 0) := obj_cell oH 0
 have r1 : w1.cell? ⟨H, 1, none⟩ = some (.int .i64 0) := obj_cell oH 1
 have e0 := obj_free oH 0
 have e1 := obj_free oH 1
 have hH1 := obj_lt oF
 have hHl := obj_lt oH
 clear x0 x1 q0 t1 hgl
 have hSl := hPs _ hP1
 have cl := fun w => length9_any (strB k.2) w
 generalize lenS (strB k.2) = LN at *
 have cf := hfull _ (hPB _ _ ((B.refl w1).alloc #[.int .i64 0, .int .i64 0] 98) hP1)
 have hln : ((l.length : Int) + 1 != LN) = false := by rw [bne, hlen]; rfl
 have hc1 : ¬ cap = 1 := by simp at h2; omega
 have qR : B w1 ((w1.alloc (.cells #[.int .i64 0, .int .i64 0] 98)).alloc (.cells #[.slice (some ⟨g, o + 2, none⟩) l.length (cap - 1), .int .i64 0, .int .i64 0] 121)) := ((B.refl w1).alloc _ _).alloc _ _
 have oR0 := obj_new (w1.alloc (.cells #[.int .i64 0, .int .i64 0] 98)) (.cells #[.slice (some ⟨g, o + 2, none⟩) l.length (cap - 1), .int .i64 0, .int .i64 0] 121)
 rw [show (w1.alloc (.cells #[.int .i64 0, .int .i64 0] 98)).heap.size = w1.heap.size + 1 by simp] at oR0
 have hWd : IsWd Wb (.slice (some ⟨g, o + 2, none⟩) l.length (cap - 1)) l := ⟨g, o + 2, cap - 1, rfl, by simp at h2; omega, by omega, fun i y hy => by
  have := h4 (i + 1) y (by simpa using hy)
  rw [show o + 2 + i * 2 = o + (i + 1) * 2 by omega]
  exact this⟩
 have hadd' := hadd ((w1.alloc (.cells #[.int .i64 0, .int .i64 0] 98)).alloc (.cells #[.slice (some ⟨g, o + 2, none⟩) l.length (cap - 1), .int .i64 0, .int .i64 0] 121)) (w1.heap.size + 1) ((tw.toB hB hb).trans qR) (by have := tw.size; have := qR.below.size; omega) (by have := tw.size; omega) ⟨_, oR0, hWd⟩ (hPB _ _ qR hP1)
 have oHR := qR.obj oH
 clear hadd hWd
 go_wp2_with (first | (go_at_call 44; refine (cl _).mono ?_; rintro _ _ ⟨rfl, rfl⟩) | (go_at_call 63; refine (Calls.mono cf ?_); rintro _ _ ⟨rfl, rfl⟩) | (go_at_call 65; refine (Calls.mono hadd' ?_); rintro _ w2 ⟨rfl, ⟨vv, oR2⟩, hP2, t2⟩; have oH2 := t2.objc oHR (by decide); have z0 : w2.cell? ⟨H, 0, none⟩ = some (.int .i64 0) := obj_cell oH2 0; have z1 : w2.cell? ⟨H, 1, none⟩ = some (.int .i64 0) := obj_cell oH2 1; have y0 := obj_free oH2 0; have y1 := obj_free oH2 1; have p1 : w2.cell? ⟨w1.heap.size + 1, 1, none⟩ = some (.int .i64 p) := obj_cell oR2 1; have p2 : w2.cell? ⟨w1.heap.size + 1, 2, none⟩ = some (.int .i64 e) := obj_cell oR2 2))
 have oE := obj_set (obj_set oH2 0 (.int .i64 p)) 1 (.int .i64 e)
 have c0 := obj_cell oE 0
 have c1 := obj_cell oE 1
 exact bodyPost_ret (v := .agg #[.int .i64 p, .int .i64 e]) (by simp [results, Tryz.results45, go_sem, c0, c1]) rfl ⟨rfl, hPF _ _ _ _ oH2 hP2, hNew _ ((tw.trans (qR.tn _ _)).trans t2) _ _⟩
set_option maxRecDepth 100000 in
set_option maxHeartbeats 1600000 in
theorem line_Fill (Wb w : World) (base S : Nat) (v : Value) (k : Wd) (l : List Wd) (p e : Int) (P : World → Prop) (P' : World → Prop) (hb : Wb.heap.size ≤ base) (hB : B Wb w) (hbw : base ≤ w.heap.size) (hv : IsWd Wb v (k :: l)) (hPs : ∀ w, P w → S < w.heap.size) (hr : ((strB k.2).toList == [114, 111, 117, 110, 100]) = false) (hbx : ((strB k.2).toList == [98, 111, 120]) = false) (hlen : ((l.length : Int) + 1 == lenS (strB k.2)) = true) (hkWare : ((strB k.2).toList == [119, 97, 114, 101]) = false) (hkTip : ((strB k.2).toList == [116, 105, 112]) = false) (hkFill : ((strB k.2).toList == [102, 105, 108, 108]) = true)
  (hfin : ∀ w', B w w' → Calls Tryz.prog 46 #[.pointer (some ⟨S, 0, none⟩)] w' fun r w'' => r = .returned (.agg #[.int .i64 0, .int .i64 0]) ∧ P w'' ∧ Tn kS base w' w'')
  (hPB : ∀ w' w'', B w' w'' → P w' → P w'')
  (hfull : ∀ w', P w' → Calls Tryz.prog 63 #[.pointer (some ⟨S, 0, none⟩), .string (strB k.2)] w' fun e w'' => e = .returned (.bool false) ∧ w' = w'')
  (hl2 : 1 ≤ l.length) (hadd : ∀ w' R, B Wb w' → base ≤ w'.heap.size → base ≤ R → RdAt Wb w' R l 0 0 → P w' → Calls Tryz.prog 66 #[.pointer (some ⟨S, 0, none⟩), .pointer (some ⟨R, 0, none⟩)] w' fun r w'' => r = .returned (.tuple #[]) ∧ (∃ vv, w''.heap[R]? = some (.cells #[vv, .int .i64 p, .int .i64 e] 121 (0, 0))) ∧ P' w'' ∧ Tn kS base w' w'')
  (hPF : ∀ (w : World) (H : Nat) (x y : Value), w.heap[H]? = some (.cells #[.int .i64 0, .int .i64 0] 98 (0, 0)) → P' w → P' ((w.setCell ⟨H, 0, none⟩ x).setCell ⟨H, 1, none⟩ y)) :
  Calls Tryz.prog 45 #[.pointer (some ⟨S, 0, none⟩), v] w fun r w' => r = .returned (.agg #[.int .i64 p, .int .i64 e]) ∧ P' w' ∧ Tn kS base w w' := by
 obtain ⟨g, o, cap, rfl, h2, h3, h4⟩ := hv
 obtain ⟨x0, x1⟩ : w.cell? ⟨g, o, none⟩ = some (.int .i64 ((k.1 : Nat) : Int)) ∧ w.cell? ⟨g, o + 1, none⟩ = some (.string (strB k.2)) := by
  have := h4 0 k rfl
  exact ⟨hB.keep (by simpa using this.1), hB.keep (by simpa using this.2)⟩
 have hgl := World.block_lt_of_cell? w _ x0
 have hl0 : (0 : Int) < ((l.length : Int) + 1) := by omega
 have hcap : (l.length : Int) + 1 ≤ (cap : Int) := by simp at h2; omega
 have q0 : B w ((w.alloc (.cells #[.int .i64 0, .int .i64 0] 98)).alloc (.cells #[.int .i64 ((k.1 : Nat) : Int), .string (strB k.2)] 95)) := ((B.refl w).alloc _ _).alloc _ _
 have oH := obj_past (obj_new w (.cells #[.int .i64 0, .int .i64 0] 98)) (.cells #[.int .i64 ((k.1 : Nat) : Int), .string (strB k.2)] 95)
 have oF := obj_new (w.alloc (.cells #[.int .i64 0, .int .i64 0] 98)) (.cells #[.int .i64 ((k.1 : Nat) : Int), .string (strB k.2)] 95)
 have hNew : ∀ (b : World), Tn kS base w b → ∀ x y, Tn kS base w ((b.setCell ⟨w.heap.size, 0, none⟩ x).setCell ⟨w.heap.size, 1, none⟩ y) := fun b h x y =>
  (h.setNew (p := ⟨w.heap.size, 0, none⟩) (Nat.le_refl _) x).setNew (p := ⟨w.heap.size, 1, none⟩) (Nat.le_refl _) y
 have hsz : (w.alloc (.cells #[.int .i64 0, .int .i64 0] 98)).heap.size = w.heap.size + 1 := by simp
 rw [hsz] at oF
 clear hsz
 replace hfin := hfin _ q0
 go_enter Tryz.func45, Tryz.ntmps45
 go_wp2_with fail
 refine (Calls.mono hfin ?_)
 rintro _ w1 ⟨rfl, hP1, t1⟩
 clear hfin
 replace oH := t1.objc oH (by decide)
 replace oF := t1.objc oF (by decide)
 have tw : Tn kS base w w1 := (q0.tn _ _).trans t1
 replace hNew := fun b h x y => hNew b h x y
 generalize hH : w.heap.size = H at *
 have n0 : w1.cell? ⟨H + 1, 0, none⟩ = some (.int .i64 ((k.1 : Nat) : Int)) := obj_cell oF 0
 have n1 : w1.cell? ⟨H + 1, 1, none⟩ = some (.string (strB k.2)) := obj_cell oF 1
 have r0 : w1.cell? ⟨H, 0, none⟩ = some (.int .i64 0) := obj_cell oH 0
 have r1 : w1.cell? ⟨H, 1, none⟩ = some (.int .i64 0) := obj_cell oH 1
 have e0 := obj_free oH 0
 have e1 := obj_free oH 1
 have hH1 := obj_lt oF
 have hHl := obj_lt oH
 clear x0 x1 q0 t1 hgl
 have hSl := hPs _ hP1
 have cl := fun w => length9_any (strB k.2) w
 generalize lenS (strB k.2) = LN at *
 have cf := hfull _ (hPB _ _ ((B.refl w1).alloc #[.int .i64 0, .int .i64 0] 98) hP1)
 have hln : ((l.length : Int) + 1 != LN) = false := by rw [bne, hlen]; rfl
 have hc1 : ¬ cap = 1 := by simp at h2; omega
 have qR : B w1 ((w1.alloc (.cells #[.int .i64 0, .int .i64 0] 98)).alloc (.cells #[.slice (some ⟨g, o + 2, none⟩) l.length (cap - 1), .int .i64 0, .int .i64 0] 121)) := ((B.refl w1).alloc _ _).alloc _ _
 have oR0 := obj_new (w1.alloc (.cells #[.int .i64 0, .int .i64 0] 98)) (.cells #[.slice (some ⟨g, o + 2, none⟩) l.length (cap - 1), .int .i64 0, .int .i64 0] 121)
 rw [show (w1.alloc (.cells #[.int .i64 0, .int .i64 0] 98)).heap.size = w1.heap.size + 1 by simp] at oR0
 have hWd : IsWd Wb (.slice (some ⟨g, o + 2, none⟩) l.length (cap - 1)) l := ⟨g, o + 2, cap - 1, rfl, by simp at h2; omega, by omega, fun i y hy => by
  have := h4 (i + 1) y (by simpa using hy)
  rw [show o + 2 + i * 2 = o + (i + 1) * 2 by omega]
  exact this⟩
 have hadd' := hadd ((w1.alloc (.cells #[.int .i64 0, .int .i64 0] 98)).alloc (.cells #[.slice (some ⟨g, o + 2, none⟩) l.length (cap - 1), .int .i64 0, .int .i64 0] 121)) (w1.heap.size + 1) ((tw.toB hB hb).trans qR) (by have := tw.size; have := qR.below.size; omega) (by have := tw.size; omega) ⟨_, oR0, hWd⟩ (hPB _ _ qR hP1)
 have oHR := qR.obj oH
 clear hadd hWd
 go_wp2_with (first | (go_at_call 44; refine (cl _).mono ?_; rintro _ _ ⟨rfl, rfl⟩) | (go_at_call 63; refine (Calls.mono cf ?_); rintro _ _ ⟨rfl, rfl⟩) | (go_at_call 66; refine (Calls.mono hadd' ?_); rintro _ w2 ⟨rfl, ⟨vv, oR2⟩, hP2, t2⟩; have oH2 := t2.objc oHR (by decide); have z0 : w2.cell? ⟨H, 0, none⟩ = some (.int .i64 0) := obj_cell oH2 0; have z1 : w2.cell? ⟨H, 1, none⟩ = some (.int .i64 0) := obj_cell oH2 1; have y0 := obj_free oH2 0; have y1 := obj_free oH2 1; have p1 : w2.cell? ⟨w1.heap.size + 1, 1, none⟩ = some (.int .i64 p) := obj_cell oR2 1; have p2 : w2.cell? ⟨w1.heap.size + 1, 2, none⟩ = some (.int .i64 e) := obj_cell oR2 2))
 have oE := obj_set (obj_set oH2 0 (.int .i64 p)) 1 (.int .i64 e)
 have c0 := obj_cell oE 0
 have c1 := obj_cell oE 1
 exact bodyPost_ret (v := .agg #[.int .i64 p, .int .i64 e]) (by simp [results, Tryz.results45, go_sem, c0, c1]) rfl ⟨rfl, hPF _ _ _ _ oH2 hP2, hNew _ ((tw.trans (qR.tn _ _)).trans t2) _ _⟩
end Go.Proofs.YtglniapfnhedoaaGreatDoor
namespace Go.Proofs.YtglniapfnhedoaaGreatDoor
open Go.RowKit
set_option linter.unusedVariables false
set_option maxRecDepth 100000 in
set_option maxHeartbeats 1600000 in
theorem line_Round (Wb w : World) (base S : Nat) (v : Value) (k : Wd) (l : List Wd) (p e : Int) (P : World → Prop) (P' : World → Prop) (hb : Wb.heap.size ≤ base) (hB : B Wb w) (hbw : base ≤ w.heap.size) (hv : IsWd Wb v (k :: l)) (hPs : ∀ w, P w → S < w.heap.size) (pv : Value) (hr : ((strB k.2).toList == [114, 111, 117, 110, 100]) = true) (hlen : ((l.length : Int) + 1 == lenS (strB k.2)) = true) (gp kp : Nat) (hsome : pv = .pointer (some ⟨gp, kp, none⟩)) (hkWare : ((strB k.2).toList == [119, 97, 114, 101]) = false) (hkTip : ((strB k.2).toList == [116, 105, 112]) = false) (hkFill : ((strB k.2).toList == [102, 105, 108, 108]) = false)
  (hP0 : P w) (hpv : ∀ w', P w' → w'.cell? ⟨S, 6, none⟩ = some pv)
  (hPB : ∀ w' w'', B w' w'' → P w' → P w'')
  (hfull : ∀ w', P w' → Calls Tryz.prog 63 #[.pointer (some ⟨S, 0, none⟩), .string (strB k.2)] w' fun e w'' => e = .returned (.bool false) ∧ w' = w'')
  (hl2 : 1 ≤ l.length) (hadd : ∀ w' R, B Wb w' → base ≤ w'.heap.size → base ≤ R → RdAt Wb w' R l 0 0 → P w' → Calls Tryz.prog 67 #[.pointer (some ⟨S, 0, none⟩), .bool true, .pointer (some ⟨R, 0, none⟩)] w' fun r w'' => r = .returned (.tuple #[]) ∧ (∃ vv, w''.heap[R]? = some (.cells #[vv, .int .i64 p, .int .i64 e] 121 (0, 0))) ∧ P' w'' ∧ Tn kS base w' w'')
  (hPF : ∀ (w : World) (H : Nat) (x y : Value), w.heap[H]? = some (.cells #[.int .i64 0, .int .i64 0] 98 (0, 0)) → P' w → P' ((w.setCell ⟨H, 0, none⟩ x).setCell ⟨H, 1, none⟩ y)) :
  Calls Tryz.prog 45 #[.pointer (some ⟨S, 0, none⟩), v] w fun r w' => r = .returned (.agg #[.int .i64 p, .int .i64 e]) ∧ P' w' ∧ Tn kS base w w' := by
 obtain ⟨g, o, cap, rfl, h2, h3, h4⟩ := hv
 obtain ⟨x0, x1⟩ : w.cell? ⟨g, o, none⟩ = some (.int .i64 ((k.1 : Nat) : Int)) ∧ w.cell? ⟨g, o + 1, none⟩ = some (.string (strB k.2)) := by
  have := h4 0 k rfl
  exact ⟨hB.keep (by simpa using this.1), hB.keep (by simpa using this.2)⟩
 have hgl := World.block_lt_of_cell? w _ x0
 have hl0 : (0 : Int) < ((l.length : Int) + 1) := by omega
 have hcap : (l.length : Int) + 1 ≤ (cap : Int) := by simp at h2; omega
 have q0 : B w ((w.alloc (.cells #[.int .i64 0, .int .i64 0] 98)).alloc (.cells #[.int .i64 ((k.1 : Nat) : Int), .string (strB k.2)] 95)) := ((B.refl w).alloc _ _).alloc _ _
 have oH := obj_past (obj_new w (.cells #[.int .i64 0, .int .i64 0] 98)) (.cells #[.int .i64 ((k.1 : Nat) : Int), .string (strB k.2)] 95)
 have oF := obj_new (w.alloc (.cells #[.int .i64 0, .int .i64 0] 98)) (.cells #[.int .i64 ((k.1 : Nat) : Int), .string (strB k.2)] 95)
 have hNew : ∀ (b : World), Tn kS base w b → ∀ x y, Tn kS base w ((b.setCell ⟨w.heap.size, 0, none⟩ x).setCell ⟨w.heap.size, 1, none⟩ y) := fun b h x y =>
  (h.setNew (p := ⟨w.heap.size, 0, none⟩) (Nat.le_refl _) x).setNew (p := ⟨w.heap.size, 1, none⟩) (Nat.le_refl _) y
 have hsz : (w.alloc (.cells #[.int .i64 0, .int .i64 0] 98)).heap.size = w.heap.size + 1 := by simp
 rw [hsz] at oF
 clear hsz
 have hP1 := hPB _ _ q0 hP0
 have s6 := hpv _ hP1
 subst hsome
 go_enter Tryz.func45, Tryz.ntmps45
 go_wp2_with fail
 have tw := q0.tn kS base
 have hP1' := hP1
 generalize hH : w.heap.size = H at *
 generalize hw1 : ((w.alloc (.cells #[.int .i64 0, .int .i64 0] 98)).alloc (.cells #[.int .i64 ((k.1 : Nat) : Int), .string (strB k.2)] 95)) = w1 at *
 have n0 : w1.cell? ⟨H + 1, 0, none⟩ = some (.int .i64 ((k.1 : Nat) : Int)) := obj_cell oF 0
 have n1 : w1.cell? ⟨H + 1, 1, none⟩ = some (.string (strB k.2)) := obj_cell oF 1
 have r0 : w1.cell? ⟨H, 0, none⟩ = some (.int .i64 0) := obj_cell oH 0
 have r1 : w1.cell? ⟨H, 1, none⟩ = some (.int .i64 0) := obj_cell oH 1
 have e0 := obj_free oH 0
 have e1 := obj_free oH 1
 have hH1 := obj_lt oF
 have hHl := obj_lt oH
 clear x0 x1 q0 hgl hw1
 have hSl := hPs _ hP1
 have cl := fun w => length9_any (strB k.2) w
 generalize lenS (strB k.2) = LN at *
 have cf := hfull _ (hPB _ _ (B.refl w1) hP1)
 have hln : ((l.length : Int) + 1 != LN) = false := by rw [bne, hlen]; rfl
 have hc1 : ¬ cap = 1 := by simp at h2; omega
 have qR : B w1 (w1.alloc (.cells #[.slice (some ⟨g, o + 2, none⟩) l.length (cap - 1), .int .i64 0, .int .i64 0] 121)) := (B.refl w1).alloc _ _
 have oR0 := obj_new w1 (.cells #[.slice (some ⟨g, o + 2, none⟩) l.length (cap - 1), .int .i64 0, .int .i64 0] 121)
 have hWd : IsWd Wb (.slice (some ⟨g, o + 2, none⟩) l.length (cap - 1)) l := ⟨g, o + 2, cap - 1, rfl, by simp at h2; omega, by omega, fun i y hy => by
  have := h4 (i + 1) y (by simpa using hy)
  rw [show o + 2 + i * 2 = o + (i + 1) * 2 by omega]
  exact this⟩
 have hadd' := hadd (w1.alloc (.cells #[.slice (some ⟨g, o + 2, none⟩) l.length (cap - 1), .int .i64 0, .int .i64 0] 121)) (w1.heap.size) ((tw.toB hB hb).trans qR) (by have := tw.size; have := qR.below.size; omega) (by have := tw.size; omega) ⟨_, oR0, hWd⟩ (hPB _ _ qR hP1)
 have oHR := qR.obj oH
 clear hadd hWd
 go_wp2_with (first | (go_at_call 44; refine (cl _).mono ?_; rintro _ _ ⟨rfl, rfl⟩) | (go_at_call 63; refine (Calls.mono cf ?_); rintro _ _ ⟨rfl, rfl⟩) | (go_at_call 67; refine (Calls.mono hadd' ?_); rintro _ w2 ⟨rfl, ⟨vv, oR2⟩, hP2, t2⟩; have oH2 := t2.objc oHR (by decide); have z0 : w2.cell? ⟨H, 0, none⟩ = some (.int .i64 0) := obj_cell oH2 0; have z1 : w2.cell? ⟨H, 1, none⟩ = some (.int .i64 0) := obj_cell oH2 1; have y0 := obj_free oH2 0; have y1 := obj_free oH2 1; have p1 : w2.cell? ⟨w1.heap.size, 1, none⟩ = some (.int .i64 p) := obj_cell oR2 1; have p2 : w2.cell? ⟨w1.heap.size, 2, none⟩ = some (.int .i64 e) := obj_cell oR2 2))
 have oE := obj_set (obj_set oH2 0 (.int .i64 p)) 1 (.int .i64 e)
 have c0 := obj_cell oE 0
 have c1 := obj_cell oE 1
 exact bodyPost_ret (v := .agg #[.int .i64 p, .int .i64 e]) (by simp [results, Tryz.results45, go_sem, c0, c1]) rfl ⟨rfl, hPF _ _ _ _ oH2 hP2, hNew _ ((tw.trans (qR.tn _ _)).trans t2) _ _⟩
set_option maxRecDepth 100000 in
set_option maxHeartbeats 1600000 in
theorem line_Box (Wb w : World) (base S : Nat) (v : Value) (k : Wd) (l : List Wd) (p e : Int) (P : World → Prop) (P' : World → Prop) (hb : Wb.heap.size ≤ base) (hB : B Wb w) (hbw : base ≤ w.heap.size) (hv : IsWd Wb v (k :: l)) (hPs : ∀ w, P w → S < w.heap.size) (pv : Value) (hr : ((strB k.2).toList == [114, 111, 117, 110, 100]) = false) (hbx : ((strB k.2).toList == [98, 111, 120]) = true) (hlen : ((l.length : Int) + 1 == lenS (strB k.2)) = true) (gp kp : Nat) (hsome : pv = .pointer (some ⟨gp, kp, none⟩)) (hkWare : ((strB k.2).toList == [119, 97, 114, 101]) = false) (hkTip : ((strB k.2).toList == [116, 105, 112]) = false) (hkFill : ((strB k.2).toList == [102, 105, 108, 108]) = false)
  (hP0 : P w) (hpv : ∀ w', P w' → w'.cell? ⟨S, 6, none⟩ = some pv)
  (hPB : ∀ w' w'', B w' w'' → P w' → P w'')
  (hfull : ∀ w', P w' → Calls Tryz.prog 63 #[.pointer (some ⟨S, 0, none⟩), .string (strB k.2)] w' fun e w'' => e = .returned (.bool false) ∧ w' = w'')
  (hl2 : 1 ≤ l.length) (hadd : ∀ w' R, B Wb w' → base ≤ w'.heap.size → base ≤ R → RdAt Wb w' R l 0 0 → P w' → Calls Tryz.prog 67 #[.pointer (some ⟨S, 0, none⟩), .bool false, .pointer (some ⟨R, 0, none⟩)] w' fun r w'' => r = .returned (.tuple #[]) ∧ (∃ vv, w''.heap[R]? = some (.cells #[vv, .int .i64 p, .int .i64 e] 121 (0, 0))) ∧ P' w'' ∧ Tn kS base w' w'')
  (hPF : ∀ (w : World) (H : Nat) (x y : Value), w.heap[H]? = some (.cells #[.int .i64 0, .int .i64 0] 98 (0, 0)) → P' w → P' ((w.setCell ⟨H, 0, none⟩ x).setCell ⟨H, 1, none⟩ y)) :
  Calls Tryz.prog 45 #[.pointer (some ⟨S, 0, none⟩), v] w fun r w' => r = .returned (.agg #[.int .i64 p, .int .i64 e]) ∧ P' w' ∧ Tn kS base w w' := by
 obtain ⟨g, o, cap, rfl, h2, h3, h4⟩ := hv
 obtain ⟨x0, x1⟩ : w.cell? ⟨g, o, none⟩ = some (.int .i64 ((k.1 : Nat) : Int)) ∧ w.cell? ⟨g, o + 1, none⟩ = some (.string (strB k.2)) := by
  have := h4 0 k rfl
  exact ⟨hB.keep (by simpa using this.1), hB.keep (by simpa using this.2)⟩
 have hgl := World.block_lt_of_cell? w _ x0
 have hl0 : (0 : Int) < ((l.length : Int) + 1) := by omega
 have hcap : (l.length : Int) + 1 ≤ (cap : Int) := by simp at h2; omega
 have q0 : B w ((w.alloc (.cells #[.int .i64 0, .int .i64 0] 98)).alloc (.cells #[.int .i64 ((k.1 : Nat) : Int), .string (strB k.2)] 95)) := ((B.refl w).alloc _ _).alloc _ _
 have oH := obj_past (obj_new w (.cells #[.int .i64 0, .int .i64 0] 98)) (.cells #[.int .i64 ((k.1 : Nat) : Int), .string (strB k.2)] 95)
 have oF := obj_new (w.alloc (.cells #[.int .i64 0, .int .i64 0] 98)) (.cells #[.int .i64 ((k.1 : Nat) : Int), .string (strB k.2)] 95)
 have hNew : ∀ (b : World), Tn kS base w b → ∀ x y, Tn kS base w ((b.setCell ⟨w.heap.size, 0, none⟩ x).setCell ⟨w.heap.size, 1, none⟩ y) := fun b h x y =>
  (h.setNew (p := ⟨w.heap.size, 0, none⟩) (Nat.le_refl _) x).setNew (p := ⟨w.heap.size, 1, none⟩) (Nat.le_refl _) y
 have hsz : (w.alloc (.cells #[.int .i64 0, .int .i64 0] 98)).heap.size = w.heap.size + 1 := by simp
 rw [hsz] at oF
 clear hsz
 have hP1 := hPB _ _ q0 hP0
 have s6 := hpv _ hP1
 subst hsome
 go_enter Tryz.func45, Tryz.ntmps45
 go_wp2_with fail
 have tw := q0.tn kS base
 have hP1' := hP1
 generalize hH : w.heap.size = H at *
 generalize hw1 : ((w.alloc (.cells #[.int .i64 0, .int .i64 0] 98)).alloc (.cells #[.int .i64 ((k.1 : Nat) : Int), .string (strB k.2)] 95)) = w1 at *
 have n0 : w1.cell? ⟨H + 1, 0, none⟩ = some (.int .i64 ((k.1 : Nat) : Int)) := obj_cell oF 0
 have n1 : w1.cell? ⟨H + 1, 1, none⟩ = some (.string (strB k.2)) := obj_cell oF 1
 have r0 : w1.cell? ⟨H, 0, none⟩ = some (.int .i64 0) := obj_cell oH 0
 have r1 : w1.cell? ⟨H, 1, none⟩ = some (.int .i64 0) := obj_cell oH 1
 have e0 := obj_free oH 0
 have e1 := obj_free oH 1
 have hH1 := obj_lt oF
 have hHl := obj_lt oH
 clear x0 x1 q0 hgl hw1
 have hSl := hPs _ hP1
 have cl := fun w => length9_any (strB k.2) w
 generalize lenS (strB k.2) = LN at *
 have cf := hfull _ (hPB _ _ (B.refl w1) hP1)
 have hln : ((l.length : Int) + 1 != LN) = false := by rw [bne, hlen]; rfl
 have hc1 : ¬ cap = 1 := by simp at h2; omega
 have qR : B w1 (w1.alloc (.cells #[.slice (some ⟨g, o + 2, none⟩) l.length (cap - 1), .int .i64 0, .int .i64 0] 121)) := (B.refl w1).alloc _ _
 have oR0 := obj_new w1 (.cells #[.slice (some ⟨g, o + 2, none⟩) l.length (cap - 1), .int .i64 0, .int .i64 0] 121)
 have hWd : IsWd Wb (.slice (some ⟨g, o + 2, none⟩) l.length (cap - 1)) l := ⟨g, o + 2, cap - 1, rfl, by simp at h2; omega, by omega, fun i y hy => by
  have := h4 (i + 1) y (by simpa using hy)
  rw [show o + 2 + i * 2 = o + (i + 1) * 2 by omega]
  exact this⟩
 have hadd' := hadd (w1.alloc (.cells #[.slice (some ⟨g, o + 2, none⟩) l.length (cap - 1), .int .i64 0, .int .i64 0] 121)) (w1.heap.size) ((tw.toB hB hb).trans qR) (by have := tw.size; have := qR.below.size; omega) (by have := tw.size; omega) ⟨_, oR0, hWd⟩ (hPB _ _ qR hP1)
 have oHR := qR.obj oH
 clear hadd hWd
 go_wp2_with (first | (go_at_call 44; refine (cl _).mono ?_; rintro _ _ ⟨rfl, rfl⟩) | (go_at_call 63; refine (Calls.mono cf ?_); rintro _ _ ⟨rfl, rfl⟩) | (go_at_call 67; refine (Calls.mono hadd' ?_); rintro _ w2 ⟨rfl, ⟨vv, oR2⟩, hP2, t2⟩; have oH2 := t2.objc oHR (by decide); have z0 : w2.cell? ⟨H, 0, none⟩ = some (.int .i64 0) := obj_cell oH2 0; have z1 : w2.cell? ⟨H, 1, none⟩ = some (.int .i64 0) := obj_cell oH2 1; have y0 := obj_free oH2 0; have y1 := obj_free oH2 1; have p1 : w2.cell? ⟨w1.heap.size, 1, none⟩ = some (.int .i64 p) := obj_cell oR2 1; have p2 : w2.cell? ⟨w1.heap.size, 2, none⟩ = some (.int .i64 e) := obj_cell oR2 2))
 have oE := obj_set (obj_set oH2 0 (.int .i64 p)) 1 (.int .i64 e)
 have c0 := obj_cell oE 0
 have c1 := obj_cell oE 1
 exact bodyPost_ret (v := .agg #[.int .i64 p, .int .i64 e]) (by simp [results, Tryz.results45, go_sem, c0, c1]) rfl ⟨rfl, hPF _ _ _ _ oH2 hP2, hNew _ ((tw.trans (qR.tn _ _)).trans t2) _ _⟩
end Go.Proofs.YtglniapfnhedoaaGreatDoor
namespace Go.Proofs.YtglniapfnhedoaaGreatDoor
open Go.RowKit
set_option linter.unusedVariables false
set_option maxRecDepth 100000 in
set_option maxHeartbeats 1600000 in
theorem addWare_any (Wb w : World) (base R S bw bt bf : Nat) (wv tv fv pv : Value) (head head' : Int) (d : Dk) (nw nt : List ByteArray) (fl : List Fl) (ss tt : List Value) (xn xa xb xc : Wd) (hb : Wb.heap.size ≤ base) (hB : B Wb w) (hbw : base ≤ w.heap.size) (hR : base ≤ R)
  (h : RdAt Wb w R [xn, xa, xb, xc] 0 0) (hS : StAt w base S bw bt bf wv tv fv pv head d nw nt fl ss tt) (hn : nw.length < 1000) (hd : d.ws.length < 1000) (hx : xn.2.length ≤ 65536) :
  Calls Tryz.prog 64 #[.pointer (some ⟨S, 0, none⟩), .int .i64 head', .pointer (some ⟨R, 0, none⟩)] w fun r w' => r = .returned (.tuple #[]) ∧
   ∃ g cap, RdAt Wb w' R [] (fa4 (nameS (strB xn.2) && !namedL nw (strB xn.2)) 25 xn 1 8 1 12 0 1000000 xa xb xc).1 (fa4 (nameS (strB xn.2) && !namedL nw (strB xn.2)) 25 xn 1 8 1 12 0 1000000 xa xb xc).2 ∧
    StAt w' base S bw bt bf (.slice (some ⟨g, 0, none⟩) (d.ws.length + 1) cap) tv fv (.pointer (some ⟨g, d.ws.length * 5 + 4, none⟩)) head' { d with ws := d.ws ++ [⟨strB xn.2, (numV (strB xa.2) : Nat), (numV (strB xb.2) : Nat), (numV (strB xc.2) : Nat), []⟩] } (addN nw (strB xn.2)) nt fl (ss ++ [.slice none 0 0]) tt ∧ Tn kS base w w' := by
 obtain ⟨i0, hi0, hz0, hz1, hz2⟩ := info_of wareInfo9
 have c0 := rname_any Wb w base R bw nw xn [xa, xb, xc] 0 0 hb hB hR h hS.mw hS.gw hn hx
 have s3 : w.cell? ⟨S, 3, none⟩ = some (.map (some bw)) := obj_cell hS.obj 3
 go_enter Tryz.func64, Tryz.ntmps64
 go_wp2_with fail
 refine (Calls.mono c0 ?_)
 rintro _ w1 ⟨rfl, h1, m1, t1, u1⟩
 clear c0
 have qB : B w1 (w1.alloc (.cells #[.string (strB xn.2), .int .i64 0, .int .i64 0, .int .i64 0, .slice none 0 0] 33)) := (B.refl w1).alloc _ _
 have oL := obj_new w1 (.cells #[.string (strB xn.2), .int .i64 0, .int .i64 0, .int .i64 0, .slice none 0 0] 33)
 have tL : Tn kRM base w (w1.alloc (.cells #[.string (strB xn.2), .int .i64 0, .int .i64 0, .int .i64 0, .slice none 0 0] 33)) := t1.alloc _ _
 have h1' := h1.tn (qB.tn [] base) (by simp)
 have m1' := m1.tn (qB.tn [] base) (by simp)
 have u1' := u1.trans (qB.tm bw)
 have hLn : ∀ (b : World), Tn kRM base w b → ∀ k v, Tn kRM base w (b.setCell ⟨w1.heap.size, k, none⟩ v) := fun b hb k v => hb.setNew (p := ⟨w1.heap.size, k, none⟩) t1.size v
 go_wp2_with fail
 generalize w1.alloc (.cells #[.string (strB xn.2), .int .i64 0, .int .i64 0, .int .i64 0, .slice none 0 0] 33) = w2 at *
 generalize w1.heap.size = L at *
 clear h1 m1 t1 u1 qB
 have hRL : R ≠ L := fun e => by
  obtain ⟨v, k, _⟩ := h1'
  rw [e, oL] at k
  injection k with k
  injection k with _ k
  exact absurd k (by decide)
 have c1 := number9_any Wb w2 base R xa _ _ _ 1 8 hb (tL.toB hB hb) hR h1'
 refine (Calls.mono c1 ?_)
 rintro _ w3 ⟨rfl, h3, t3⟩
 clear c1
 have oL3 := t3.objc oL (by decide)
 have d0 : w3.cell? ⟨L, 1, none⟩ = some (.int .i64 0) := obj_cell oL3 1
 have df := obj_free oL3 1
 go_wp2_with fail
 replace oL := obj_set oL3 1 (.int .i64 ((numV (strB xa.2) : Nat) : Int))
 replace tL := hLn _ (tL.trans (t3.mono (by decide) (Nat.le_refl _))) 1 (.int .i64 ((numV (strB xa.2) : Nat) : Int))
 replace u1' := u1'.trans ((t3.tm (by decide) bw).trans (set1_tm oL3 1 (.int .i64 ((numV (strB xa.2) : Nat) : Int)) bw))
 replace m1' := (m1'.tn t3 (by decide)).same (map_set1 (m1'.tn t3 (by decide)).obj oL3 1 (.int .i64 ((numV (strB xa.2) : Nat) : Int)))
 replace h1' := RdAt.same h3 (Below.heap_setCell w3 ⟨L, 1, none⟩ (.int .i64 ((numV (strB xa.2) : Nat) : Int)) R hRL)
 generalize w3.setCell ⟨L, 1, none⟩ (.int .i64 ((numV (strB xa.2) : Nat) : Int)) = w4 at *
 clear t3 h3 oL3 d0 df
 have c1 := number9_any Wb w4 base R xb _ _ _ 1 12 hb (tL.toB hB hb) hR h1'
 refine (Calls.mono c1 ?_)
 rintro _ w5 ⟨rfl, h3, t3⟩
 clear c1
 have oL3 := t3.objc oL (by decide)
 have d0 : w5.cell? ⟨L, 2, none⟩ = some (.int .i64 0) := obj_cell oL3 2
 have df := obj_free oL3 2
 go_wp2_with fail
 replace oL := obj_set oL3 2 (.int .i64 ((numV (strB xb.2) : Nat) : Int))
 replace tL := hLn _ (tL.trans (t3.mono (by decide) (Nat.le_refl _))) 2 (.int .i64 ((numV (strB xb.2) : Nat) : Int))
 replace u1' := u1'.trans ((t3.tm (by decide) bw).trans (set1_tm oL3 2 (.int .i64 ((numV (strB xb.2) : Nat) : Int)) bw))
 replace m1' := (m1'.tn t3 (by decide)).same (map_set1 (m1'.tn t3 (by decide)).obj oL3 2 (.int .i64 ((numV (strB xb.2) : Nat) : Int)))
 replace h1' := RdAt.same h3 (Below.heap_setCell w5 ⟨L, 2, none⟩ (.int .i64 ((numV (strB xb.2) : Nat) : Int)) R hRL)
 generalize w5.setCell ⟨L, 2, none⟩ (.int .i64 ((numV (strB xb.2) : Nat) : Int)) = w6 at *
 clear t3 h3 oL3 d0 df
 have c1 := number9_any Wb w6 base R xc _ _ _ 0 1000000 hb (tL.toB hB hb) hR h1'
 refine (Calls.mono c1 ?_)
 rintro _ w7 ⟨rfl, h3, t3⟩
 clear c1
 have oL3 := t3.objc oL (by decide)
 have d0 : w7.cell? ⟨L, 3, none⟩ = some (.int .i64 0) := obj_cell oL3 3
 have df := obj_free oL3 3
 go_wp2_with fail
 replace oL := obj_set oL3 3 (.int .i64 ((numV (strB xc.2) : Nat) : Int))
 replace tL := hLn _ (tL.trans (t3.mono (by decide) (Nat.le_refl _))) 3 (.int .i64 ((numV (strB xc.2) : Nat) : Int))
 replace u1' := u1'.trans ((t3.tm (by decide) bw).trans (set1_tm oL3 3 (.int .i64 ((numV (strB xc.2) : Nat) : Int)) bw))
 replace m1' := (m1'.tn t3 (by decide)).same (map_set1 (m1'.tn t3 (by decide)).obj oL3 3 (.int .i64 ((numV (strB xc.2) : Nat) : Int)))
 replace h1' := RdAt.same h3 (Below.heap_setCell w7 ⟨L, 3, none⟩ (.int .i64 ((numV (strB xc.2) : Nat) : Int)) R hRL)
 generalize w7.setCell ⟨L, 3, none⟩ (.int .i64 ((numV (strB xc.2) : Nat) : Int)) = w8 at *
 clear t3 h3 oL3 d0 df
 have oS8 := tL.objc hS.obj (by decide)
 have row8 := hS.rows.tn tL (by decide) (by decide) (by decide) (by decide)
 have qA : B w8 (w8.drew.alloc (.cells #[.string (strB xn.2), .int .i64 ((numV (strB xa.2) : Nat) : Int), .int .i64 ((numV (strB xb.2) : Nat) : Int), .int .i64 ((numV (strB xc.2) : Nat) : Int), .slice none 0 0] 33)) := (B.refl w8).drew.alloc _ _
 have hown := ownsRow_keepB row8.ws qA
 have hbase : base ≤ (w8.drew.alloc (.cells #[.string (strB xn.2), .int .i64 ((numV (strB xa.2) : Nat) : Int), .int .i64 ((numV (strB xb.2) : Nat) : Int), .int .i64 ((numV (strB xc.2) : Nat) : Int), .slice none 0 0] 33)).heap.size := Nat.le_trans hbw (Nat.le_trans tL.size qA.below.size)
 have s0 : w8.drew.cell? ⟨S, 0, none⟩ = some wv := obj_cell (w := w8.drew) oS8 0
 have l0 : w8.drew.cell? ⟨L, 0, none⟩ = some (.string (strB xn.2)) := obj_cell (w := w8.drew) oL 0
 have l1 : w8.drew.cell? ⟨L, 1, none⟩ = some (.int .i64 ((numV (strB xa.2) : Nat) : Int)) := obj_cell (w := w8.drew) oL 1
 have l2 : w8.drew.cell? ⟨L, 2, none⟩ = some (.int .i64 ((numV (strB xb.2) : Nat) : Int)) := obj_cell (w := w8.drew) oL 2
 have l3 : w8.drew.cell? ⟨L, 3, none⟩ = some (.int .i64 ((numV (strB xc.2) : Nat) : Int)) := obj_cell (w := w8.drew) oL 3
 have l4 : w8.drew.cell? ⟨L, 4, none⟩ = some (.slice none 0 0) := obj_cell (w := w8.drew) oL 4
 clear oL
 have HX := Lib.hid (And.intro tL (And.intro u1' (And.intro m1' (And.intro h1' (And.intro hLn row8)))))
 clear tL u1' m1' h1' hLn row8
 refine wp_region_noPanic ?_
 refine wp_region_gate (S := fun w' => w'.cell? ⟨S, 0, none⟩ = some (wv) ∧ w'.cell? ⟨L, 0, none⟩ = some (.string (strB xn.2)) ∧ w'.cell? ⟨L, 1, none⟩ = some (.int .i64 ((numV (strB xa.2) : Nat) : Int)) ∧ w'.cell? ⟨L, 2, none⟩ = some (.int .i64 ((numV (strB xb.2) : Nat) : Int)) ∧ w'.cell? ⟨L, 3, none⟩ = some (.int .i64 ((numV (strB xc.2) : Nat) : Int)) ∧ w'.cell? ⟨L, 4, none⟩ = some (.slice none 0 0)) 8 [(0, 3), (1, 3), (2, 3), (3, 3), (4, 3), (5, 0), (6, 0), (7, 2), (8, 4), (9, 3), (10, 3), (11, 3), (12, 4)] [0, 0, 2, 4, 8, 16, 0, 64, 160, 511, 1023, 1535, 2559] [0, 0, 2, 4, 8, 16, 0, 64, 160, 1, 512, 1024, 2304] [0, 0, 0, 0, 0, 7968, 8128, 0, 0, 0, 0, 0, 0] (by kernel_rfl) (by kernel_rfl) (fun _ _ _ _ _ h => h) ?_ (fun hH => ?_)
 ·exact ⟨s0, l0, l1, l2, l3, l4⟩
 refine wpSeqG_free (d := 23) (v := ?_) rfl rfl (by kernel_rfl) (fun w => ?_) ?_
 rotate_left
 ·go_simp <;> with_reducible rfl
 dsimp only [sZ, sS]
 refine wpSeqG_free (d := 24) (v := ?_) rfl rfl (by kernel_rfl) (fun w => ?_) ?_
 rotate_left
 ·go_simp <;> with_reducible rfl
 dsimp only [sZ, sS]
 refine wpSeqG_free (d := 25) (v := ?_) rfl rfl (by kernel_rfl) (fun w => ?_) ?_
 rotate_left
 ·go_simp <;> with_reducible rfl
 dsimp only [sZ, sS]
 refine wpSeqG_free (d := 26) (v := ?_) rfl rfl (by kernel_rfl) (fun w => ?_) ?_
 rotate_left
 ·go_simp <;> with_reducible rfl
 dsimp only [sZ, sS]
 refine wpSeqG_free (d := 27) (v := ?_) rfl rfl (by kernel_rfl) (fun w => ?_) ?_
 rotate_left
 ·go_simp <;> with_reducible rfl
 dsimp only [sZ, sS]
 refine wpSeqG_take (d := 28) (v := ?_) rfl rfl (by kernel_rfl) (fun w hS => ?_) ?_
 rotate_left
 ·go_simp <;> with_reducible rfl
 dsimp only [sZ, sS]
 refine wpSeqG_take (d := 29) (v := ?_) rfl rfl (by kernel_rfl) (fun w hS => ?_) ?_
 rotate_left
 ·go_simp <;> with_reducible rfl
 dsimp only [sZ, sS]
 refine wpSeqG_call rfl (by kernel_rfl) (fun K hK => ?_)
 go_simp
 refine hK.out _ _ ?_ (fun hH => ?_)
 ·exact ⟨((B.refl _).alloc _ _).keep hH.1, ((B.refl _).alloc _ _).keep hH.2.1, ((B.refl _).alloc _ _).keep hH.2.2.1, ((B.refl _).alloc _ _).keep hH.2.2.2.1, ((B.refl _).alloc _ _).keep hH.2.2.2.2.1, ((B.refl _).alloc _ _).keep hH.2.2.2.2.2⟩
 clear hK
 refine wpSeqG_gate rfl (by kernel_rfl) (fun K hK => ?_)
 refine wp_append_lies _ _ _ 22 rfl base 33 i0 (.agg #[.string ⟨#[]⟩, .int .i64 0, .int .i64 0, .int .i64 0, .slice none 0 0]) 5 64 (by kernel_rfl) hi0 hz0 hz1 hz2 rfl (by omega) _ _ _ rfl hown ⟨w8.heap.size, 0, none⟩ 1 1 [.string (strB xn.2), .int .i64 ((numV (strB xa.2) : Nat) : Int), .int .i64 ((numV (strB xb.2) : Nat) : Int), .int .i64 ((numV (strB xc.2) : Nat) : Int), .slice none 0 0] rfl rfl (news_plain rfl) (by intro u hu; simp only [List.mem_cons, List.not_mem_nil, or_false] at hu; rcases hu with rfl | rfl | rfl | rfl | rfl <;> rfl) (by omega) (by unfold maxLen; omega) (by omega) hbase _ rfl ?_
 intro gN cN w9 hownN hgrowN hatN hltN
 have oS9 := obj_grown hgrowN (qA.obj oS8) (far_own (qA.obj oS8) hown (by decide))
 have y0 : w9.cell? ⟨S, 0, none⟩ = some wv := obj_cell oS9 0
 have y1 := obj_free oS9 0
 try simp only [Act.put, List.setIfInBounds_toArray, List.set_cons_zero, List.set_cons_succ]
 refine hK.out _ _ ?_
 clear hK
 refine wpSeqG_free (d := 32) (v := ?_) rfl rfl (by kernel_rfl) (fun w => ?_) ?_
 rotate_left
 ·go_simp <;> with_reducible rfl
 dsimp only [sZ, sS]
 refine wpSeqG_free (d := 33) (v := ?_) rfl rfl (by kernel_rfl) (fun w => ?_) ?_
 rotate_left
 ·go_simp <;> with_reducible rfl
 dsimp only [sZ, sS]
 refine wpSeqG_free (d := 34) (v := ?_) rfl rfl (by kernel_rfl) (fun w => ?_) ?_
 rotate_left
 ·go_simp <;> with_reducible rfl
 dsimp only [sZ, sS]
 refine wpSeqG_gate rfl (by kernel_rfl) (fun K hK => ?_)
 go_simp
 refine hK.out _ _ ?_
 clear hK
 refine wpSeqG_done ?_
 refine NoPanic.normal ?_
 obtain ⟨tL, u1', m1', h1', hLn, row8⟩ := HX.out
 have rowA := row8.b qA
 have rS : wv.ownBlock ≠ some S := far_own (qA.obj oS8) hown (by decide)
 have row9 := rowA.addW (r := ⟨strB xn.2, ((numV (strB xa.2) : Nat) : Int), ((numV (strB xb.2) : Nat) : Int), ((numV (strB xc.2) : Nat) : Int), []⟩) rfl hgrowN hownN
 have row10 := row9.tn ((Tn.refl [some 80] base w9).set oS9 (by decide) hS.gS (.slice (some ⟨gN, 0, none⟩) (d.ws.length + 1) cN) (p := ⟨S, 0, none⟩)) (by decide) (by decide) (by decide) (by decide)
 have t10 : Tn kS base w (w9.setCell ⟨S, 0, none⟩ (.slice (some ⟨gN, 0, none⟩) (d.ws.length + 1) cN)) := Tn.set (p := ⟨S, 0, none⟩) (Tn.appended ((tL.mono (by decide) (Nat.le_refl _)).trans (qA.tn kS base)) hown hgrowN (Nat.le_refl _) (by decide)) oS9 (by decide) hS.gS _
 have m9 := nm_grown hgrowN (m1'.tn (qA.tn [] base) (by simp)) (far_map (m1'.tn (qA.tn [] base) (by simp)).obj hown)
 have m10 := m9.same (map_set1 m9.obj oS9 0 (.slice (some ⟨gN, 0, none⟩) (d.ws.length + 1) cN))
 have om8 := (hS.mt.tm u1' hS.n1.symm)
 have om9 := nm_grown hgrowN (om8.tn (qA.tn [] base) (by simp)) (far_map (om8.tn (qA.tn [] base) (by simp)).obj hown)
 have om10 := om9.same (map_set1 om9.obj oS9 0 (.slice (some ⟨gN, 0, none⟩) (d.ws.length + 1) cN))
 have f8 := (hS.mf.tm u1' hS.n2.symm)
 have f9 := fm_grown hgrowN (f8.tn (qA.tn [] base) (by simp)) (far_map (f8.tn (qA.tn [] base) (by simp)).obj hown)
 have f10 := f9.same (map_set1 f9.obj oS9 0 (.slice (some ⟨gN, 0, none⟩) (d.ws.length + 1) cN))
 have hA := h1'.tn (qA.tn [] base) (by simp)
 have hRr : wv.ownBlock ≠ some R := by obtain ⟨v, k, _⟩ := hA; exact far_own k hown (by decide)
 have h9 := rd_grown hgrowN hA hRr
 have hRS : R ≠ S := fun e => by
  obtain ⟨v, k, _⟩ := h9
  rw [e, oS9] at k
  injection k with k
  injection k with _ k
  exact absurd k (by decide)
 have h10 := RdAt.same h9 (Below.heap_setCell w9 ⟨S, 0, none⟩ (.slice (some ⟨gN, 0, none⟩) (d.ws.length + 1) cN) R hRS)
 have oS10 := obj_set oS9 0 (.slice (some ⟨gN, 0, none⟩) (d.ws.length + 1) cN)
 clear hH s0 l0 l1 l2 l3 l4 y0 y1 HX rowA row9 m9 om8 om9 f8 f9 hA h9 hRr tL u1' m1' h1' hLn row8 qA hown hownN hgrowN hatN hltN oS9 oS8 hbase
 generalize w9.setCell ⟨S, 0, none⟩ (.slice (some ⟨gN, 0, none⟩) (d.ws.length + 1) cN) = w10 at *
 have c0 : w10.drew.cell? ⟨S, 0, none⟩ = some (.slice (some ⟨gN, 0, none⟩) (d.ws.length + 1) cN) := obj_cell (w := w10.drew) oS10 0
 have c6 : w10.drew.cell? ⟨S, 6, none⟩ = some pv := obj_cell (w := w10.drew) oS10 6
 have c7 : w10.drew.cell? ⟨S, 7, none⟩ = some (.int .i64 head) := obj_cell (w := w10.drew) oS10 7
 have d6 : w10.drew.frozen? ⟨S, 6, none⟩ = false := obj_free (w := w10.drew) oS10 6
 have d7 : w10.drew.frozen? ⟨S, 7, none⟩ = false := obj_free (w := w10.drew) oS10 7
 have oS11 := obj_set oS10 6 (.pointer (some ⟨gN, d.ws.length * 5 + 4, none⟩))
 have e7 : (w10.setCell ⟨S, 6, none⟩ (.pointer (some ⟨gN, d.ws.length * 5 + 4, none⟩))).drew.cell? ⟨S, 7, none⟩ = some (.int .i64 head) := obj_cell (w := (w10.setCell ⟨S, 6, none⟩ (.pointer (some ⟨gN, d.ws.length * 5 + 4, none⟩))).drew) oS11 7
 have f7 : (w10.setCell ⟨S, 6, none⟩ (.pointer (some ⟨gN, d.ws.length * 5 + 4, none⟩))).drew.frozen? ⟨S, 7, none⟩ = false := obj_free (w := (w10.setCell ⟨S, 6, none⟩ (.pointer (some ⟨gN, d.ws.length * 5 + 4, none⟩))).drew) oS11 7
 have kw : IntKind.i64.wrap (d.ws.length : Int) = (d.ws.length : Int) := by rw [IntKind.wrap_i64]; omega
 have k1 : IntKind.i64.wrap (((d.ws.length + 1 : Nat) : Int) - 1) = (d.ws.length : Int) := by rw [IntKind.wrap_i64]; omega
 have k2 : (d.ws.length : Int) < ((d.ws.length + 1 : Nat) : Int) := by omega
 have k3 : (0 : Int) ≤ (d.ws.length : Int) := by omega
 have HX := Lib.hid (And.intro t10 (And.intro m10 (And.intro om10 (And.intro f10 (And.intro h10 row10)))))
 clear t10 m10 om10 f10 h10 row10
 go_wp2_with fail
 go_region
 all_goals
  first | go_end0 | refine bodyPost_ret (results_none rfl _ _ _) rfl ?_
  obtain ⟨t10, m10, om10, f10, h10, row10⟩ := HX.out
  have tl : ∀ (K : List (Option TypeId)), some 80 ∈ K → Tn K base w10 ((w10.setCell ⟨S, 6, none⟩ (.pointer (some ⟨gN, d.ws.length * 5 + 4, none⟩))).setCell ⟨S, 7, none⟩ (.int .i64 head')) := fun K hK =>
   Tn.set (p := ⟨S, 7, none⟩) (Tn.set (p := ⟨S, 6, none⟩) (Tn.refl K base w10) oS10 hK hS.gS _) oS11 hK hS.gS _
  have oth : ∀ i, i ≠ S → ((w10.setCell ⟨S, 6, none⟩ (.pointer (some ⟨gN, d.ws.length * 5 + 4, none⟩))).setCell ⟨S, 7, none⟩ (.int .i64 head')).heap[i]? = w10.heap[i]? := fun i hi =>
   (Below.heap_setCell _ ⟨S, 7, none⟩ _ i hi).trans (Below.heap_setCell _ ⟨S, 6, none⟩ _ i hi)
  have mapS : ∀ {b : Nat}, (∃ es c, w10.heap[b]? = some (.map es c)) → b ≠ S := fun {b} ⟨es, c, hb⟩ e => by
   rw [e, oS10] at hb
   cases hb
  refine ⟨rfl, gN, cN, RdAt.same h10 (oth R hRS), ⟨obj_set oS11 7 (.int .i64 head'), row10.tn (K := [some 80]) (b := base) (tl [some 80] (by decide)).drew (by decide) (by decide) (by decide) (by decide), ?_, ?_, f10.same (oth _ (mapS f10.obj)), hS.gS, hS.gw, hS.gt, hS.gf, hS.n1, hS.n2, hS.n3⟩, t10.trans (tl kS (by decide)).drew⟩
  ·exact m10.same (oth _ (mapS m10.obj))
  ·exact om10.same (oth _ (mapS om10.obj))
end Go.Proofs.YtglniapfnhedoaaGreatDoor
