/-
 Contracts and what they rest on.
-/
import Derived.Test.YtalnfojaccfcjaaGreatDoorChecked
import Derived.ProofKit
import Derived.OpenShut
import Derived.Deep.Slices
import Derived.ChangeArms
import Derived.Test.YtalnfojaccfcjaaGreatDoorZ28
import Derived.Test.YtalnfojaccfcjaaGreatDoorZ29
set_option maxHeartbeats 4000000
set_option maxRecDepth 100000
namespace Go.Proofs.YtalnfojaccfcjaaGreatDoor
open Go.RowKit
set_option linter.unusedVariables false
theorem t10_of {w w' : World} {BB : Nat} (h : Lib.TabIs Tryz.prog w "internal/strconv.uint64pow10" .u64 Lib.pow10Tab) (q : B w w') (hb : w.heap.size ≤ BB) : T10 BB w' :=
 fun w2 k => Lib.tabBelow_of_tabIs h w2 (q.below.trans (k.mono hb))
theorem T10.tab {w : World} {BB : Nat} (h : T10 BB w) (hs : BB ≤ w.heap.size) : ∀ w', B w w' → Lib.TabIs Tryz.prog w' "internal/strconv.uint64pow10" .u64 Lib.pow10Tab := fun w' q => Lib.TabBelow.here (h.b q hs)
theorem print9_any (wv tv fv : Value) (d : Dk) (w : World) (h : IsDk w wv tv fv d) (hzws : ∀ r ∈ d.ws, r.n.size ≤ maxLen) (hsI : ∀ r ∈ d.ws, I64 r.x ∧ I64 r.y) (hzts : ∀ r ∈ d.ts, r.n.size ≤ maxLen) (hzfs : ∀ f ∈ d.fs, f.n.size ≤ maxLen ∧ I64 f.r ∧ I64 f.c) (hfs : d.fs.length < 1000)
  (htab : Lib.TabIs Tryz.prog w "internal/strconv.uint64pow10" .u64 Lib.pow10Tab) :
  Calls Tryz.prog 12 #[.agg #[wv, tv, fv]] w fun e w' => e = .returned (.string (strB (textD d))) ∧ B w w' := by
 obtain ⟨ao, ac, bo, bc, co, cc, rfl, rfl, rfl⟩ := h.forms
 have q0 : B w (w.alloc (.cells #[.slice ao d.ws.length ac, .slice bo d.ts.length bc, .slice co d.fs.length cc] 26)) := (B.refl w).alloc _ _
 have oD0 := obj_new w (.cells #[.slice ao d.ws.length ac, .slice bo d.ts.length bc, .slice co d.fs.length cc] 26)
 have cR := right9_any _ _ _ d _ (h.keepB q0) hzws hsI hzts hzfs hfs
 clear hzws hsI hzts hzfs
 go_enter Tryz.func12, Tryz.ntmps12
 go_wp2_with fail
 refine cR.mono ?_
 clear cR
 rintro _ w2 ⟨rfl, q2⟩
 have oD := q2.obj oD0
 have q02 := q0.trans q2
 generalize w.heap.size = H at *
 clear oD0 q0 q2
 obtain ⟨RD, hRD⟩ : ∃ RD, rightD d = RD := ⟨_, rfl⟩
 rw [hRD]
 cases RD
 ·have hE : Hid (strB (textD d) = ⟨#[]⟩) := Lib.hid (by unfold textD; rw [hRD]; rfl)
  clear hRD
  go_wp2
  go_ret
  exact ⟨by rw [hE.out]; rfl, q02⟩
 obtain ⟨hw8, ht4, hNW, hNT, hNF⟩ := right_parts hRD
 have hE : Hid (strB (textD d) = strB ((d.ws.flatMap (recT kWare) ++ d.ts.flatMap (recT kTip)) ++ d.fs.flatMap fun f => lineT (fillL f))) := Lib.hid (by unfold textD; rw [hRD, if_pos rfl, deck_text])
 clear hRD
 have hB0 := bd_new w2
 obtain ⟨w3, hw3⟩ : ∃ w3, w2.alloc (.cells #[.pointer none, .slice none 0 0] 108) = w3 := ⟨_, rfl⟩
 have q23 := (B.refl w2).alloc #[.pointer none, .slice none 0 0] 108
 rw [hw3] at hB0 q23
 have hW3 := q02.trans q23
 have hBB : w.heap.size ≤ w2.heap.size := q02.below.size
 have hT3 : T10 w2.heap.size w3 := t10_of htab hW3 hBB
 have oD3 := q23.obj oD
 have hP0 : PSt w2.heap.size w2.heap.size [] w3 w3 := ⟨hB0, hT3, Tn.refl _ _ _⟩
 have d0 := obj_cell oD3 0
 clear hB0 oD q02 q23 htab hT3
 go_wp2_with fail
 try rw [hw3]
 clear hw3
 obtain ⟨BB, hb⟩ : ∃ BB, w2.heap.size = BB := ⟨_, rfl⟩
 rw [hb] at hP0 hBB
 try rw [hb]
 clear hb
 replace hP0 := hP0
 go_loopw [16] (fun iv wr => ∃ i : Nat, i ≤ d.ws.length ∧ iv = .int .i64 i ∧ PSt BB BB ((d.ws.take i).flatMap (recT kWare)) w3 wr) (fun iv _ => d.ws.length + 1 - (intOf iv).toNat)
 case atStart => exact ⟨0, Nat.zero_le _, rfl, by simpa using hP0⟩
 case round =>
  obtain ⟨i, hi, rfl, hP⟩ := hrel
  obtain ⟨wo, rfl⟩ : ∃ wo : World, wo = wr := ⟨_, rfl⟩
  by_cases hlt : i < d.ws.length
  ·have hlB : decide ((i : Int) < (d.ws.length : Int)) = true := decide_eq_true (by omega)
   have hlI : (i : Int) < (d.ws.length : Int) := by omega
   have hi0 : (0 : Int) ≤ (i : Int) := by omega
   have wk1 : IntKind.i64.wrap ((i : Int) + 1) = (i : Int) + 1 := by rw [IntKind.wrap_i64]; omega
   obtain ⟨g, cap, e1, _, _, hr⟩ := h.ws.at_ hlt
   obtain ⟨rfl, _, rfl⟩ : ao = some g ∧ True ∧ ac = cap := by simpa using e1
   obtain ⟨F, hF⟩ : ∃ F, d.ws[i]? = some F := ⟨_, List.getElem?_eq_getElem hlt⟩
   have hFe : d.ws[i] = F := by rw [List.getElem?_eq_getElem hlt] at hF; simpa using hF
   rw [hFe] at hr
   have qW := hP.tn.toB hW3 hBB
   obtain ⟨g0, g1, g2, g3, sv, g4, g5⟩ := hr
   replace g0 := qW.keep g0
   replace g1 := qW.keep g1
   replace g2 := qW.keep g2
   replace g3 := qW.keep g3
   replace g4 := qW.keep g4
   obtain ⟨x, y, z, hRN⟩ := hNW F (List.mem_of_getElem? hF)
   have hsz : ((d.ws.take i).flatMap (recT kWare)).length ≤ 20000 := by
    have h1 := flat_len9 (recT kWare) 1000 (d.ws.take i) (fun r hr => by obtain ⟨x, y, z, hR⟩ := hNW r (List.mem_of_mem_take hr); exact recT_len (by decide) hR)
    rw [List.length_take] at h1
    omega
   have hT1 : (d.ws.take (i + 1)).flatMap (recT kWare) = (d.ws.take i).flatMap (recT kWare) ++ recT kWare F := by rw [take_flat hF]; first | done | simp
   generalize (d.ws.take i).flatMap (recT kWare) = T at *
   obtain ⟨ex, ey, ez, bx, by0, bz, hn16, hls, hl4⟩ := hRN
   obtain ⟨N, X, Y, Z, SL⟩ := F
   simp only at g0 g1 g2 g3 g4 g5 ex ey ez hn16 hls hl4
   subst ex ey ez
   obtain ⟨so, sc, rfl⟩ := secs_form g5
   obtain ⟨W1, hW1⟩ : ∃ W1, wo.alloc (.cells #[.string N, .int .i64 (x : Nat), .int .i64 (y : Nat), .int .i64 (z : Nat), .slice so SL.length sc] 33) = W1 := ⟨_, rfl⟩
   have oS := obj_new wo (.cells #[.string N, .int .i64 (x : Nat), .int .i64 (y : Nat), .int .i64 (z : Nat), .slice so SL.length sc] 33)
   have hPa := hP.alloc #[.string N, .int .i64 (x : Nat), .int .i64 (y : Nat), .int .i64 (z : Nat), .slice so SL.length sc] 33
   rw [hW1] at oS hPa
   obtain ⟨G, hG⟩ : ∃ G, wo.heap.size = G := ⟨_, rfl⟩
   rw [hG] at oS
   have k0 := obj_cell oS 0
   have k1 := obj_cell oS 1
   have k2 := obj_cell oS 2
   have k3 := obj_cell oS 3
   have hns : ∀ v ∈ [x, y, z], v ≤ 10000000000000 := by
    intro v hv
    simp only [List.mem_cons, List.not_mem_nil, or_false] at hv
    rcases hv with rfl | rfl | rfl <;> assumption
   have cP : Calls Tryz.prog 47 #[.pointer (some ⟨BB, 0, none⟩), .string ({ data := #[119, 97, 114, 101] } : ByteArray), .string N, .slice (some ⟨W1.heap.size, 0, none⟩) 3 3] (W1.alloc (.cells #[.int .i64 (x : Int), .int .i64 (y : Int), .int .i64 (z : Int)] 2)) fun e w' => e = .returned (.tuple #[]) ∧ PSt BB BB (T ++ lineT (kWare :: N.data.toList :: [x, y, z].map fun (x : Nat) => decI (x : Int))) w3 w' ∧ PSt BB BB (T ++ lineT (kWare :: N.data.toList :: [x, y, z].map fun (x : Nat) => decI (x : Int))) W1 w' := by
    have hPb := hPa.alloc #[.int .i64 (x : Int), .int .i64 (y : Int), .int .i64 (z : Int)] 2
    refine (pline_any BB BB T kWare N.data.toList [x, y, z] _ _ hPb.bd (num_three W1 x y z) hPb.t10 (by omega) (by decide) (by omega) (by simp) hns).mono ?_
    rintro e w' ⟨he, k1, q⟩
    exact ⟨he, hPb.put k1 q, ((⟨hPa.bd, hPa.t10, Tn.refl _ _ _⟩ : PSt BB BB T W1 W1).alloc _ _).put k1 q⟩
   have hNs : N.size ≤ 16 := by
    have e : N.data.toList.length = N.size := Array.length_toList
    omega
   have hlen : (T ++ lineT (kWare :: N.data.toList :: [x, y, z].map fun (x : Nat) => decI (x : Int))).length ≤ 800000 := by
    have := decI_le bx
    have := decI_le by0
    have := decI_le bz
    rw [List.length_append, lineT_two]
    simp [kWare]
    omega
   have hrT : recT kWare ⟨N, (x : Int), (y : Int), (z : Int), SL⟩ = lineT (kWare :: N.data.toList :: [x, y, z].map fun (x : Nat) => decI (x : Int)) ++ SL.flatMap fun s => lineT (secL s) := rfl
   rw [hrT] at hT1
   generalize lineT (kWare :: N.data.toList :: [x, y, z].map fun (x : Nat) => decI (x : Int)) = LN at *
   have HU := Lib.hid (And.intro hT1 (And.intro hlen hlt))
   have HG := Lib.hid hG
   clear hT1 hF hFe e1 hns hrT bx by0 bz hn16 hsz hlt
   go_wp2_with fail
   try rw [HG.out]
   try rw [hW1]
   refine cP.mono ?_
   rintro _ w5 ⟨rfl, P5, P6⟩
   clear cP
   have oS5 := P6.tn.objc oS (by decide)
   have m4 := obj_cell oS5 4
   have cS := psecs_any BB BB (T ++ LN) (.slice so SL.length sc) SL w w5 P5.bd (P5.tn.toB hW3 hBB) hBB g5 P5.t10 HU.out.2.1 hls (by omega)
   go_wp2_with fail
   refine cS.mono ?_
   rintro _ w7 ⟨rfl, B7, t7⟩
   have HP7 := Lib.hid (P5.put B7 t7)
   clear cS B7 t7 m4 oS5 P5 P6 k0 k1 k2 k3 oS hPa hP hW1 g0 g1 g2 g3 g4 g5
   go_wp2
   go_roundw
   case rel =>
    obtain ⟨u1, u2, u3⟩ := HU.out
    refine ⟨i + 1, by omega, by go_num, ?_⟩
    rw [u1]
    simpa using HP7.out
   case measure => have := HU.out.2.2; simp [intOf]; omega
  ·have hlB : decide ((i : Int) < (d.ws.length : Int)) = false := decide_eq_false (by omega)
   obtain rfl : i = d.ws.length := by omega
   rw [List.take_length] at hP
   replace hP0 := hP
   have d1 := obj_cell (hP0.tn.objc oD3 (by decide)) 1
   clear hP
   go_wp2_with fail
   go_loopw [37] (fun iv wr => ∃ i : Nat, i ≤ d.ts.length ∧ iv = .int .i64 i ∧ PSt BB BB (d.ws.flatMap (recT kWare) ++ (d.ts.take i).flatMap (recT kTip)) w3 wr) (fun iv _ => d.ts.length + 1 - (intOf iv).toNat)
   case atStart => exact ⟨0, Nat.zero_le _, rfl, by simpa using hP0⟩
   case round =>
    obtain ⟨i, hi, rfl, hP⟩ := hrel
    obtain ⟨wo, rfl⟩ : ∃ wo : World, wo = wr := ⟨_, rfl⟩
    by_cases hlt : i < d.ts.length
    ·have hlB : decide ((i : Int) < (d.ts.length : Int)) = true := decide_eq_true (by omega)
     have hlI : (i : Int) < (d.ts.length : Int) := by omega
     have hi0 : (0 : Int) ≤ (i : Int) := by omega
     have wk1 : IntKind.i64.wrap ((i : Int) + 1) = (i : Int) + 1 := by rw [IntKind.wrap_i64]; omega
     obtain ⟨g, cap, e1, _, _, hr⟩ := h.ts.at_ hlt
     obtain ⟨rfl, _, rfl⟩ : bo = some g ∧ True ∧ bc = cap := by simpa using e1
     obtain ⟨F, hF⟩ : ∃ F, d.ts[i]? = some F := ⟨_, List.getElem?_eq_getElem hlt⟩
     have hFe : d.ts[i] = F := by rw [List.getElem?_eq_getElem hlt] at hF; simpa using hF
     rw [hFe] at hr
     have qW := hP.tn.toB hW3 hBB
     obtain ⟨g0, g1, g2, g3, sv, g4, g5⟩ := hr
     replace g0 := qW.keep g0
     replace g1 := qW.keep g1
     replace g2 := qW.keep g2
     replace g3 := qW.keep g3
     replace g4 := qW.keep g4
     obtain ⟨x, y, z, hRN⟩ := hNT F (List.mem_of_getElem? hF)
     have hsz : (d.ws.flatMap (recT kWare) ++ (d.ts.take i).flatMap (recT kTip)).length ≤ 20000 := by
      have h1 := flat_len9 (recT kTip) 1000 (d.ts.take i) (fun r hr => by obtain ⟨x, y, z, hR⟩ := hNT r (List.mem_of_mem_take hr); exact recT_len (by decide) hR)
      rw [List.length_take] at h1
      have h2 := flat_len9 (recT kWare) 1000 d.ws (fun r hr => by obtain ⟨x, y, z, hR⟩ := hNW r hr; exact recT_len (by decide) hR)
      rw [List.length_append]
      omega
     have hT1 : d.ws.flatMap (recT kWare) ++ (d.ts.take (i + 1)).flatMap (recT kTip) = d.ws.flatMap (recT kWare) ++ (d.ts.take i).flatMap (recT kTip) ++ recT kTip F := by rw [take_flat hF]; first | done | simp
     generalize d.ws.flatMap (recT kWare) ++ (d.ts.take i).flatMap (recT kTip) = T at *
     obtain ⟨ex, ey, ez, bx, by0, bz, hn16, hls, hl4⟩ := hRN
     obtain ⟨N, X, Y, Z, SL⟩ := F
     simp only at g0 g1 g2 g3 g4 g5 ex ey ez hn16 hls hl4
     subst ex ey ez
     obtain ⟨so, sc, rfl⟩ := secs_form g5
     obtain ⟨W1, hW1⟩ : ∃ W1, wo.alloc (.cells #[.string N, .int .i64 (x : Nat), .int .i64 (y : Nat), .int .i64 (z : Nat), .slice so SL.length sc] 35) = W1 := ⟨_, rfl⟩
     have oS := obj_new wo (.cells #[.string N, .int .i64 (x : Nat), .int .i64 (y : Nat), .int .i64 (z : Nat), .slice so SL.length sc] 35)
     have hPa := hP.alloc #[.string N, .int .i64 (x : Nat), .int .i64 (y : Nat), .int .i64 (z : Nat), .slice so SL.length sc] 35
     rw [hW1] at oS hPa
     obtain ⟨G, hG⟩ : ∃ G, wo.heap.size = G := ⟨_, rfl⟩
     rw [hG] at oS
     have k0 := obj_cell oS 0
     have k1 := obj_cell oS 1
     have k2 := obj_cell oS 2
     have k3 := obj_cell oS 3
     have hns : ∀ v ∈ [x, y, z], v ≤ 10000000000000 := by
      intro v hv
      simp only [List.mem_cons, List.not_mem_nil, or_false] at hv
      rcases hv with rfl | rfl | rfl <;> assumption
     have cP : Calls Tryz.prog 47 #[.pointer (some ⟨BB, 0, none⟩), .string ({ data := #[116, 105, 112] } : ByteArray), .string N, .slice (some ⟨W1.heap.size, 0, none⟩) 3 3] (W1.alloc (.cells #[.int .i64 (x : Int), .int .i64 (y : Int), .int .i64 (z : Int)] 2)) fun e w' => e = .returned (.tuple #[]) ∧ PSt BB BB (T ++ lineT (kTip :: N.data.toList :: [x, y, z].map fun (x : Nat) => decI (x : Int))) w3 w' ∧ PSt BB BB (T ++ lineT (kTip :: N.data.toList :: [x, y, z].map fun (x : Nat) => decI (x : Int))) W1 w' := by
      have hPb := hPa.alloc #[.int .i64 (x : Int), .int .i64 (y : Int), .int .i64 (z : Int)] 2
      refine (pline_any BB BB T kTip N.data.toList [x, y, z] _ _ hPb.bd (num_three W1 x y z) hPb.t10 (by omega) (by decide) (by omega) (by simp) hns).mono ?_
      rintro e w' ⟨he, k1, q⟩
      exact ⟨he, hPb.put k1 q, ((⟨hPa.bd, hPa.t10, Tn.refl _ _ _⟩ : PSt BB BB T W1 W1).alloc _ _).put k1 q⟩
     have hNs : N.size ≤ 16 := by
      have e : N.data.toList.length = N.size := Array.length_toList
      omega
     have hlen : (T ++ lineT (kTip :: N.data.toList :: [x, y, z].map fun (x : Nat) => decI (x : Int))).length ≤ 800000 := by
      have := decI_le bx
      have := decI_le by0
      have := decI_le bz
      rw [List.length_append, lineT_two]
      simp [kTip]
      omega
     have hrT : recT kTip ⟨N, (x : Int), (y : Int), (z : Int), SL⟩ = lineT (kTip :: N.data.toList :: [x, y, z].map fun (x : Nat) => decI (x : Int)) ++ SL.flatMap fun s => lineT (secL s) := rfl
     rw [hrT] at hT1
     generalize lineT (kTip :: N.data.toList :: [x, y, z].map fun (x : Nat) => decI (x : Int)) = LN at *
     have HU := Lib.hid (And.intro hT1 (And.intro hlen hlt))
     have HG := Lib.hid hG
     clear hT1 hF hFe e1 hns hrT bx by0 bz hn16 hsz hlt
     go_wp2_with fail
     try rw [HG.out]
     try rw [hW1]
     refine cP.mono ?_
     rintro _ w5 ⟨rfl, P5, P6⟩
     clear cP
     have oS5 := P6.tn.objc oS (by decide)
     have m4 := obj_cell oS5 4
     have cS := psecs_any BB BB (T ++ LN) (.slice so SL.length sc) SL w w5 P5.bd (P5.tn.toB hW3 hBB) hBB g5 P5.t10 HU.out.2.1 hls (by omega)
     go_wp2_with fail
     refine cS.mono ?_
     rintro _ w7 ⟨rfl, B7, t7⟩
     have HP7 := Lib.hid (P5.put B7 t7)
     clear cS B7 t7 m4 oS5 P5 P6 k0 k1 k2 k3 oS hPa hP hW1 g0 g1 g2 g3 g4 g5
     go_wp2
     go_roundw
     case rel =>
      obtain ⟨u1, u2, u3⟩ := HU.out
      refine ⟨i + 1, by omega, by go_num, ?_⟩
      rw [u1]
      simpa using HP7.out
     case measure => have := HU.out.2.2; simp [intOf]; omega
    ·have hlB : decide ((i : Int) < (d.ts.length : Int)) = false := decide_eq_false (by omega)
     obtain rfl : i = d.ts.length := by omega
     rw [List.take_length] at hP
     replace hP0 := hP
     have d1 := obj_cell (hP0.tn.objc oD3 (by decide)) 2
     clear hP
     go_wp2_with fail
     go_loopw [58] (fun iv wr => ∃ i : Nat, i ≤ d.fs.length ∧ iv = .int .i64 i ∧ PSt BB BB (d.ws.flatMap (recT kWare) ++ d.ts.flatMap (recT kTip) ++ (d.fs.take i).flatMap fun f => lineT (fillL f)) w3 wr) (fun iv _ => d.fs.length + 1 - (intOf iv).toNat)
     case atStart => exact ⟨0, Nat.zero_le _, rfl, by simpa using hP0⟩
     case round =>
      obtain ⟨i, hi, rfl, hP⟩ := hrel
      obtain ⟨wo, rfl⟩ : ∃ wo : World, wo = wr := ⟨_, rfl⟩
      have hFl : ∀ f ∈ d.fs, (lineT (fillL f)).length ≤ 100 := by
       intro f hf
       obtain ⟨n1, n2, n3, n4, n5⟩ := hNF f hf
       have h1 := wellT_len n1 n2.1 n2.2 n3.1 n3.2
       obtain ⟨v0, hv⟩ := Int.eq_ofNat_of_zero_le n4
       have h2 := decI_le (x := v0) (by omega)
       rw [← hv] at h2
       simp [fillL, lineT, kFill]
       omega
      have hsz : ∀ l : List Fl, (∀ f ∈ l, f ∈ d.fs) → l.length < 1000 → (d.ws.flatMap (recT kWare) ++ d.ts.flatMap (recT kTip) ++ l.flatMap fun f => lineT (fillL f)).length ≤ 200000 := by
       intro l hl hl2
       have h1 := flat_len9 (fun f => lineT (fillL f)) 100 l (fun f hf => hFl f (hl f hf))
       have h2 := flat_len9 (recT kWare) 1000 d.ws (fun r hr => by obtain ⟨x, y, z, hR⟩ := hNW r hr; exact recT_len (by decide) hR)
       have h3 := flat_len9 (recT kTip) 1000 d.ts (fun r hr => by obtain ⟨x, y, z, hR⟩ := hNT r hr; exact recT_len (by decide) hR)
       rw [List.length_append, List.length_append]
       omega
      by_cases hlt : i < d.fs.length
      ·have hlB : decide ((i : Int) < (d.fs.length : Int)) = true := decide_eq_true (by omega)
       have hlI : (i : Int) < (d.fs.length : Int) := by omega
       have hi0 : (0 : Int) ≤ (i : Int) := by omega
       have wk1 : IntKind.i64.wrap ((i : Int) + 1) = (i : Int) + 1 := by rw [IntKind.wrap_i64]; omega
       obtain ⟨g, cap, e1, _, _, hr⟩ := h.fs.at_ hlt
       obtain ⟨rfl, _, rfl⟩ : co = some g ∧ True ∧ cc = cap := by simpa using e1
       obtain ⟨F, hF⟩ : ∃ F, d.fs[i]? = some F := ⟨_, List.getElem?_eq_getElem hlt⟩
       have hFe : d.fs[i] = F := by rw [List.getElem?_eq_getElem hlt] at hF; simpa using hF
       rw [hFe] at hr
       have qW := hP.tn.toB hW3 hBB
       obtain ⟨g0, g1, g2, g3⟩ := hr.keepB qW
       obtain ⟨n1, n2, n3, n4, n5⟩ := hNF F (List.mem_of_getElem? hF)
       have hsz1 := hsz (d.fs.take i) (fun f hf => List.mem_of_mem_take hf) (by rw [List.length_take]; omega)
       have hT1 : (d.ws.flatMap (recT kWare) ++ d.ts.flatMap (recT kTip) ++ (d.fs.take (i + 1)).flatMap fun f => lineT (fillL f)) = (d.ws.flatMap (recT kWare) ++ d.ts.flatMap (recT kTip) ++ (d.fs.take i).flatMap fun f => lineT (fillL f)) ++ lineT (fillL F) := by rw [take_flat hF]; first | done | simp
       generalize (d.ws.flatMap (recT kWare) ++ d.ts.flatMap (recT kTip) ++ (d.fs.take i).flatMap fun f => lineT (fillL f)) = T at *
       have hwl := wellT_len n1 n2.1 n2.2 n3.1 n3.2
       obtain ⟨v0, hv⟩ := Int.eq_ofNat_of_zero_le n4
       obtain ⟨N, R, C, VV⟩ := F
       simp only at g0 g1 g2 g3 n1 n2 n3 n4 n5 hwl hv
       subst hv
       obtain ⟨W1, hW1⟩ : ∃ W1, wo.alloc (.cells #[.string N, .int .i64 R, .int .i64 C, .int .i64 (v0 : Int)] 41) = W1 := ⟨_, rfl⟩
       have oS := obj_new wo (.cells #[.string N, .int .i64 R, .int .i64 C, .int .i64 (v0 : Int)] 41)
       have hPa := hP.alloc #[.string N, .int .i64 R, .int .i64 C, .int .i64 (v0 : Int)] 41
       rw [hW1] at oS hPa
       have kA : ∀ (w' : World) (G : Nat), w'.heap[G]? = some (.cells #[.string N, .int .i64 R, .int .i64 C, .int .i64 (v0 : Int)] 41 (0, 0)) → w'.cell? ⟨G, 0, none⟩ = some (.string N) ∧ w'.cell? ⟨G, 1, none⟩ = some (.int .i64 R) ∧ w'.cell? ⟨G, 2, none⟩ = some (.int .i64 C) ∧ w'.cell? ⟨G, 3, none⟩ = some (.int .i64 (v0 : Int)) :=
        fun w' G oS' => ⟨obj_cell oS' 0, obj_cell oS' 1, obj_cell oS' 2, obj_cell oS' 3⟩
       have cW : ∀ w', B W1 w' → Calls Tryz.prog 49 #[.agg #[.string N, .int .i64 R, .int .i64 C]] w' fun e w'' => e = .returned (.string (strB (wellT N R C))) ∧ B w' w'' :=
        fun w' q => wtx_any N R C n1 n2.1 n2.2 n3.1 n3.2 w' ((hPa.b q).t10.tab (bd_size (hPa.b q).bd))
       have cP : ∀ w6 g, B W1 w6 → w6.heap[g]? = some (.cells ([v0].map fun (x : Nat) => Value.int .i64 (x : Int)).toArray 2 (0, 0)) → Calls Tryz.prog 47 #[.pointer (some ⟨BB, 0, none⟩), .string ({ data := #[102, 105, 108, 108] } : ByteArray), .string (strB (wellT N R C)), .slice (some ⟨g, 0, none⟩) ([v0] : List Nat).length ([v0] : List Nat).length] w6 fun e w' => e = .returned (.tuple #[]) ∧ PSt BB BB (T ++ lineT (kFill :: wellT N R C :: [v0].map fun (x : Nat) => decI (x : Int))) w3 w' :=
        fun w6 g q6 o6 => pl_any kFill (wellT N R C) [v0] (by omega) (by decide) (by omega) (by simp) (by intro x hx; simp only [List.mem_cons, List.not_mem_nil, or_false] at hx; rw [hx]; omega) _ _ (hPa.b q6) ⟨g, rfl, o6⟩
       have hrT : lineT (fillL ⟨N, R, C, (v0 : Int)⟩) = lineT (kFill :: wellT N R C :: [v0].map fun (x : Nat) => decI (x : Int)) := rfl
       rw [hrT] at hT1
       generalize lineT (kFill :: wellT N R C :: [v0].map fun (x : Nat) => decI (x : Int)) = LN at *
       generalize strB (wellT N R C) = WT at *
       have HU := Lib.hid (And.intro hT1 (And.intro trivial hlt))
       clear hT1 hF hFe e1 hrT hsz1 hlt hsz hFl
       go_wp2_with fail
       try rw [hW1]
       obtain ⟨G, hG⟩ : ∃ G, wo.heap.size = G := ⟨_, rfl⟩
       rw [hG] at oS
       try rw [hG]
       have kB : ∀ w', B W1 w' → w'.cell? ⟨G, 0, none⟩ = some (.string N) ∧ w'.cell? ⟨G, 1, none⟩ = some (.int .i64 R) ∧ w'.cell? ⟨G, 2, none⟩ = some (.int .i64 C) ∧ w'.cell? ⟨G, 3, none⟩ = some (.int .i64 (v0 : Int)) := fun w' q => kA w' G (q.obj oS)
       clear kA oS hPa hP hW1 g0 g1 g2 g3 hr n1 n2 n3 n4 n5 hG
       refine wp_region_noPanic ?_
       refine wp_region_slots [(0, 62), (1, 63), (2, 64), (3, 65), (4, 66), (5, 67)] [(6, 2)] [0, 1, 2, 0, 8, 16, 36] [0, 1, 2, 0, 8, 16, 36] [0, 1, 3, 0, 8, 24, 63] 63 [(fun v _ => v = .pointer (some ⟨G, 0, none⟩)), (fun v _ => v = .agg #[.string N, .int .i64 R, .int .i64 C]), (fun v _ => v = .string WT), (fun v _ => v = .pointer (some ⟨G, 3, none⟩)), (fun v _ => v = (.int .i64 (v0 : Int))), (fun v w => NumRow w v [v0])] (by kernel_rfl) (by kernel_rfl) (fun _ _ _ _ h => h) ⟨slot_val _, slot_val _, slot_val _, slot_val _, slot_val _, slot_num _, trivial⟩ ⟨?_, ?_, ?_, ?_, ?_, ?_, trivial⟩ ?_
       ·intro f w' hf hB
        clear hf
        refine slot_op rfl (fun _ => rfl) (fun T hT K hK => ?_)
        simp only [putsL, List.set_cons_zero, List.set_cons_succ] at hT
        subst hT
        go_simp
        exact hK.out _ _ rfl (B.refl _)
       ·intro f w' hf hB
        have h0 := hf (0, 62) (by simp) (by rfl)
        clear hf
        have e0 : f 0 = .pointer (some ⟨G, 0, none⟩) := h0
        obtain ⟨k0, k1, k2, k3⟩ := kB _ hB
        refine slot_op rfl (fun _ => rfl) (fun T hT K hK => ?_)
        simp only [putsL, List.set_cons_zero, List.set_cons_succ, e0] at hT
        subst hT
        go_simp
        exact hK.out _ _ rfl (B.refl _)
       ·intro f w' hf hB
        have h1 := hf (1, 63) (by simp) (by rfl)
        clear hf
        have e1 : f 1 = .agg #[.string N, .int .i64 R, .int .i64 C] := h1
        refine slot_op rfl (fun _ => rfl) (fun T hT K hK => ?_)
        simp only [putsL, List.set_cons_zero, List.set_cons_succ, e1] at hT
        subst hT
        go_simp
        (with_reducible refine (cW _ hB).mono ?_)
        rintro e w2 ⟨rfl, q⟩
        exact hK.out _ _ rfl q
       ·intro f w' hf hB
        clear hf
        refine slot_op rfl (fun _ => rfl) (fun T hT K hK => ?_)
        simp only [putsL, List.set_cons_zero, List.set_cons_succ] at hT
        subst hT
        go_simp
        exact hK.out _ _ rfl (B.refl _)
       ·intro f w' hf hB
        have h3 := hf (3, 65) (by simp) (by rfl)
        clear hf
        have e3 : f 3 = .pointer (some ⟨G, 3, none⟩) := h3
        obtain ⟨k0, k1, k2, k3⟩ := kB _ hB
        refine slot_op rfl (fun _ => rfl) (fun T hT K hK => ?_)
        simp only [putsL, List.set_cons_zero, List.set_cons_succ, e3] at hT
        subst hT
        go_simp
        exact hK.out _ _ rfl (B.refl _)
       ·intro f w' hf hB
        have h4 := hf (4, 66) (by simp) (by rfl)
        clear hf
        have e4 : f 4 = (.int .i64 (v0 : Int)) := h4
        refine slot_op rfl (fun _ => rfl) (fun T hT K hK => ?_)
        simp only [putsL, List.set_cons_zero, List.set_cons_succ, e4] at hT
        subst hT
        go_simp
        exact hK.out _ _ ⟨_, rfl, obj_new _ _⟩ ((B.refl _).alloc _ _)
       ·intro f w' hf hB T hT
        have h2 : f 2 = _ := hf (2, 64) (by simp)
        have h8 := hf (5, 67) (by simp)
        obtain ⟨g, e8, o8⟩ := h8
        clear hf
        simp only [putsL, List.set_cons_zero, List.set_cons_succ, h2, e8] at hT
        subst hT
        have cP1 := cP w' g hB o8
        clear cP cW kB o8 e8 h2 hB
        refine wpSeq_call rfl (by kernel_rfl) (fun K hK => ?_)
        go_simp
        (with_reducible refine (Calls.mono cP1 ?_))
        rintro _ w7 ⟨rfl, P7⟩
        refine hK.out _ _ trivial (fun _ => ?_)
        clear hK cP1
        refine wpSeq_done ?_
        refine NoPanic.normal ?_
        have HP7 := Lib.hid P7
        clear P7
        go_wp2
        go_roundw
        case rel =>
         obtain ⟨u1, u2, u3⟩ := HU.out
         refine ⟨i + 1, by omega, by go_num, ?_⟩
         rw [u1]
         simpa using HP7.out
        case measure => have := HU.out.2.2; simp [intOf]; omega
      ·have hlB : decide ((i : Int) < (d.fs.length : Int)) = false := decide_eq_false (by omega)
       obtain rfl : i = d.fs.length := by omega
       rw [List.take_length] at hP
       have hs := hsz d.fs (fun f hf => hf) hfs
       have qW := hP.tn.toB hW3 hBB
       have cS := str_of_any BB BB _ wo hP.bd (bd_size hP.bd)
       have hE2 := hE.out
       generalize (d.ws.flatMap (recT kWare) ++ d.ts.flatMap (recT kTip) ++ d.fs.flatMap fun f => lineT (fillL f)) = TX at cS hE2
       have hE3 := Lib.hid hE2
       clear hsz hFl hP hE2
       go_wp2_with fail
       refine cS.mono ?_
       rintro _ w7 ⟨rfl, k7⟩
       go_wp2
       go_ret
       exact ⟨by rw [hE3.out]; rfl, ⟨qW.below.trans (k7.mono hBB)⟩⟩
end Go.Proofs.YtalnfojaccfcjaaGreatDoor
namespace Go.Proofs.YtalnfojaccfcjaaGreatDoor
open Go.RowKit
set_option linter.unusedVariables false
def k9T : List UInt8 := [119, 97, 114, 101, 32, 112, 32, 49, 32, 50, 32, 53, 10, 114, 111, 117, 110, 100, 32, 49, 48, 48, 32, 53, 32, 53, 10, 102, 105, 108, 108, 32, 112, 46, 65, 50, 32, 55, 10, 117, 115, 101, 32, 116]
def k9D : Dk := ⟨[⟨strB [112], 1, 2, 5, [⟨true, 100, 5, 0, 5, 0⟩]⟩], [], [⟨strB [112], 0, 1, 7⟩]⟩
def k9R : List (List Wd) := [[(39, [117, 115, 101]), (43, [116])]]
def k9L : List (List Wd) := (linesB k9T).1
theorem k9_lines : linesB k9T = (k9L, 0, 0) := by kernel_rfl
theorem k9_parse : parseD k9L dk0 0 0 = (k9D, k9R, 0, 0) := by kernel_rfl
theorem k9_all : (k9L.all fun ws => decide (0 < ws.length) && decide (ws.length ≤ 65536) && ws.all (fun x => decide (x.2.length ≤ 65536))) = true := by kernel_rfl
theorem k9_len : decide (k9L.length ≤ 65536) = true := by kernel_rfl
def k9B : List (List Wd) := [[(3, [114, 111, 117, 110, 100])]]
theorem k9_parseB : parseD k9B dk0 0 0 = (dk0, [], 3, 24) := by kernel_rfl
theorem k9_right : rightD k9D = true := by kernel_rfl
def k9P : List UInt8 := [119, 97, 114, 101, 32, 112, 32, 49, 32, 50, 32, 53, 10, 114, 111, 117, 110, 100, 32, 49, 48, 48, 32, 53, 32, 53, 10, 102, 105, 108, 108, 32, 112, 46, 65, 50, 32, 55, 10]
theorem dec_one {n : Nat} (h : n < 10) : Lib.decDigits n = [UInt8.ofNat (48 + n)] := by rw [Lib.decDigits, dif_pos h]
theorem k9_text : textD k9D = k9P := by
 unfold textD
 rw [k9_right, if_pos rfl]
 have d1 : decI 1 = [49] := dec_one (by decide)
 have d2 : decI 2 = [50] := dec_one (by decide)
 have d5 : decI 5 = [53] := dec_one (by decide)
 have d7 : decI 7 = [55] := dec_one (by decide)
 have d100 : decI 100 = [49, 48, 48] := by
  show Lib.decDigits 100 = _
  rw [Lib.decDigits, dif_neg (by decide), show 100 / 10 = 10 from rfl, Lib.decDigits, dif_neg (by decide), show 10 / 10 = 1 from rfl, dec_one (by decide)]
  rfl
 have hw : wellT ({ data := #[112] } : ByteArray) 0 1 = [112, 46, 65, 50] := by
  rw [wellT_ok (by kernel_rfl) (by decide) (by decide) (by decide) (by decide), show (1 : Int) + 1 = 2 from rfl, d2]
  rfl
 simp only [deckL, k9D, recL, secL, fillL, List.flatMap_cons, List.flatMap_nil, List.map_cons, List.map_nil, List.append_nil, if_true, d1, d2, d5, d7, d100, hw, List.cons_append, List.nil_append, lineT, kWare, kRound, kFill, k9P, strB]
end Go.Proofs.YtalnfojaccfcjaaGreatDoor
namespace Go.Proofs.YtalnfojaccfcjaaGreatDoor
open Go.RowKit
set_option linter.unusedVariables false
def ck9 : Array Value := #[.int .u8 119, .int .u8 97, .int .u8 114, .int .u8 101, .int .u8 32, .int .u8 112, .int .u8 32, .int .u8 49, .int .u8 32, .int .u8 50, .int .u8 32, .int .u8 53, .int .u8 10, .int .u8 114, .int .u8 111, .int .u8 117, .int .u8 110, .int .u8 100, .int .u8 32, .int .u8 49, .int .u8 48, .int .u8 48, .int .u8 32, .int .u8 53, .int .u8 32, .int .u8 53, .int .u8 10, .int .u8 102, .int .u8 105, .int .u8 108, .int .u8 108, .int .u8 32, .int .u8 112, .int .u8 46, .int .u8 65, .int .u8 50, .int .u8 32, .int .u8 55, .int .u8 10, .int .u8 117, .int .u8 115, .int .u8 101, .int .u8 32, .int .u8 116]
theorem ck9_eq : cellsB k9T = ck9 := rfl
theorem isLn_lit (w : World) (N M : Nat) (hN : w.heap.size = N) (hM : N + 1 = M) : IsLnO ((w.alloc (.cells #[.int .i64 3, .string ⟨#[114, 111, 117, 110, 100]⟩] 102)).alloc (.cells #[.slice (some ⟨N, 0, none⟩) 1 1] 103)) (.slice (some ⟨M, 0, none⟩) 1 1) k9B := by
 subst hN hM
 have o1 := obj_past (obj_new w (.cells #[.int .i64 3, .string ⟨#[114, 111, 117, 110, 100]⟩] 102)) (.cells #[.slice (some ⟨w.heap.size, 0, none⟩) 1 1] 103)
 have o2 := obj_new (w.alloc (.cells #[.int .i64 3, .string ⟨#[114, 111, 117, 110, 100]⟩] 102)) (.cells #[.slice (some ⟨w.heap.size, 0, none⟩) 1 1] 103)
 rw [show (w.alloc (.cells #[.int .i64 3, .string ⟨#[114, 111, 117, 110, 100]⟩] 102)).heap.size = w.heap.size + 1 by simp] at o2
 refine .inr ⟨_, 0, 1, rfl, by decide, by decide, fun i L hL => ?_⟩
 match i, hL with
 | 0, hL =>
  obtain rfl := Option.some.inj hL
  refine ⟨.slice (some ⟨w.heap.size, 0, none⟩) 1 1, obj_cell o2 0, .inr ⟨w.heap.size, 1, rfl, by decide, by decide, fun k x hx => ?_⟩⟩
  match k, hx with
  | 0, hx =>
   obtain rfl := Option.some.inj hx
   exact ⟨obj_cell o1 0, obj_cell o1 1⟩
  | n + 1, hx => simp at hx
 | n + 1, hL => simp [k9B] at hL
theorem known9_any (w : World) (htab : Lib.TabIs Tryz.prog w "internal/strconv.uint64pow10" .u64 Lib.pow10Tab) : Calls Tryz.prog 9 #[] w fun e w' => e = .returned (.bool true) ∧ B w w' := by
 have hk1 := Lib.run_convert_bytes_const (P := Tryz.prog) w 47 5 (cellsB k9T) 44 44 Tryz.underlying47 Tryz.underlying5
 have hB1 := (B.refl w).allocM (.cells (cellsB k9T) 5 (44, 45))
 have c1 : Calls Tryz.prog 44 #[.slice (some ⟨w.heap.size, 0, none⟩) 44 44] (w.alloc (.cells (cellsB k9T) 5 (44, 45))) (LinesRes k9T (w.alloc (.cells (cellsB k9T) 5 (44, 45)))) :=
  lines_any (some ⟨w.heap.size, 0, none⟩) w.heap.size 0 44 k9T _ (isB_const w k9T _ _ (by decide))
 rw [ck9_eq] at hk1 hB1 c1
 unfold ck9 at hk1 hB1 c1
 go_enter Tryz.func9, Tryz.ntmps9
 go_wp2_with fail
 refine c1.mono ?_
 unfold LinesRes
 rw [k9_lines]
 rintro e w1 ⟨v, rfl, hv, q1⟩
 clear hk1 c1
 have B1 := hB1.trans q1
 clear hB1 q1
 have hall := k9_all
 rw [List.all_eq_true] at hall
 simp only [Bool.and_eq_true, decide_eq_true_eq, List.all_eq_true] at hall
 have c2 := parse_any v k9L w1 hv.lnO (fun ws h => (hall ws h).1.1) (of_decide_eq_true k9_len) (fun ws h => (hall ws h).1.2) (fun ws h x hx => (hall ws h).2 x hx)
 unfold ParseRes at c2
 rw [k9_parse] at c2
 clear hall
 go_wp2_with fail
 refine c2.mono ?_
 rintro e w2 ⟨wv, tv, fv, rv, rfl, hD, hR, q2⟩
 clear c2
 have B2 := B1.trans q2
 clear B1 q2
 obtain ⟨ao, ac, bo, bc, co, cc, e1, e2, e3⟩ := hD.forms
 obtain rfl : wv = .slice ao 1 ac := e1
 obtain rfl : tv = .slice bo 0 bc := e2
 obtain rfl : fv = .slice co 1 cc := e3
 obtain ⟨ro, rc, e4⟩ := hR.form
 obtain rfl : rv = .slice ro 1 rc := e4
 clear hv
 obtain ⟨N, hN⟩ : ∃ N, w2.heap.size = N := ⟨_, rfl⟩
 have oD := obj_new w2 (.cells #[.slice ao 1 ac, .slice bo 0 bc, .slice co 1 cc] 26)
 have B3 := (B.refl w2).alloc #[.slice ao 1 ac, .slice bo 0 bc, .slice co 1 cc] 26
 have hz3 : (w2.alloc (.cells #[.slice ao 1 ac, .slice bo 0 bc, .slice co 1 cc] 26)).heap.size = N + 1 := by rw [← hN]; simp
 rw [hN] at oD
 obtain ⟨W3, hW3⟩ : ∃ W3, w2.alloc (.cells #[.slice ao 1 ac, .slice bo 0 bc, .slice co 1 cc] 26) = W3 := ⟨_, rfl⟩
 rw [hW3] at oD B3 hz3
 have c3 := words9_any _ k9B _ (isLn_lit W3 (N + 1) (N + 1 + 1) hz3 rfl) (by intro L hL; rw [List.mem_singleton.1 hL]; decide) (by decide) (by intro L hL; rw [List.mem_singleton.1 hL]; decide)
 have B5 := ((B.refl W3).alloc #[.int .i64 3, .string ⟨#[114, 111, 117, 110, 100]⟩] 102).alloc #[.slice (some ⟨N + 1, 0, none⟩) 1 1] 103
 go_wp2_with fail
 try rw [hN]
 try rw [hW3]
 refine c3.mono ?_
 rintro e w6 ⟨u, vs, rfl, hO, q6⟩
 clear c3 hz3
 have c4 := parse_any u k9B w6 hO.is.lnO (by intro L hL; rw [List.mem_singleton.1 hL]; decide) (by decide) (by intro L hL; rw [List.mem_singleton.1 hL]; decide) (by intro L hL; rw [List.mem_singleton.1 hL]; decide)
 unfold ParseRes at c4
 rw [k9_parseB] at c4
 go_wp2_with fail
 refine c4.mono ?_
 rintro e w7 ⟨wv2, tv2, fv2, rv2, rfl, hD2, _, q7⟩
 clear c4 hO hW3
 have hro := hR.form
 obtain ⟨x1, y1, x2, y2, x3, y3, z1, z2, z3⟩ := hD2.forms
 obtain rfl : wv2 = .slice x1 0 y1 := z1
 obtain rfl : tv2 = .slice x2 0 y2 := z2
 obtain rfl : fv2 = .slice x3 0 y3 := z3
 have B7 := (B5.trans q6).trans q7
 have B8 := B7.alloc #[.slice x1 0 y1, .slice x2 0 y2, .slice x3 0 y3] 26
 have oD8 := B8.obj oD
 have hD8 := hD.keepB (B3.trans B8)
 have B08 := (B2.trans B3).trans B8
 obtain ⟨a, cp, e5, _, _, f0, f1, f2, f3⟩ := hD8.fs.at_ (i := 0) (by decide)
 obtain rfl : co = some a := by
  simp only [Value.slice.injEq] at e5
  exact e5.1
 clear q6 q7 B5 B7 B2 B3 oD hD hD2 B8
 have d0 := obj_cell oD8 0
 have d1 := obj_cell oD8 1
 have d2 := obj_cell oD8 2
 have f2' : (w7.alloc (.cells #[.slice x1 0 y1, .slice x2 0 y2, .slice x3 0 y3] 26)).cell? ⟨a.block, a.off + 2, none⟩ = some (.int .i64 1) := by
  have e := f2
  rw [show a.add (0 * 4) = a.add 0 from rfl, show (k9D.fs[0]).c = 1 from rfl] at e
  unfold Addr.add at e
  simpa using e
 clear f0 f1 f2 f3
 obtain ⟨W8, hW8⟩ : ∃ W8, w7.alloc (.cells #[.slice x1 0 y1, .slice x2 0 y2, .slice x3 0 y3] 26) = W8 := ⟨_, rfl⟩
 rw [hW8] at d0 d1 d2 f2' oD8 hD8 B08
 have cR := right9_any _ _ _ k9D _ hD8 (by intro r hr; rw [List.mem_singleton.1 hr]; decide) (by intro r hr; rw [List.mem_singleton.1 hr]; exact ⟨by decide, by decide⟩) (by intro r hr; cases hr) (by intro r hr; rw [List.mem_singleton.1 hr]; exact ⟨by decide, by decide, by decide⟩) (by decide)
 rw [k9_right] at cR
 clear hro
 go_wp2_with fail
 try rw [hW8]
 refine cR.mono ?_
 rintro _ w9 ⟨rfl, q9⟩
 have hD9 := hD8.keepB q9
 have oD9 := q9.obj oD8
 have cP := print9_any _ _ _ k9D w9 hD9 (by intro r hr; rw [List.mem_singleton.1 hr]; decide) (by intro r hr; rw [List.mem_singleton.1 hr]; exact ⟨by decide, by decide⟩) (by intro r hr; cases hr) (by intro r hr; rw [List.mem_singleton.1 hr]; exact ⟨by decide, by decide, by decide⟩) (by decide) (Lib.TabBelow.here ((Lib.tabBelow_of_tabIs htab).on (B08.trans q9).below))
 rw [k9_text] at cP
 have m0 := obj_cell oD9 0
 have m1 := obj_cell oD9 1
 have m2 := obj_cell oD9 2
 have B09 := B08.trans q9
 clear cR hD8 hD9 oD8 oD9 q9 d0 d1 d2 f2' hW8
 go_wp2_with fail
 refine cP.mono ?_
 rintro _ w10 ⟨rfl, q10⟩
 clear cP
 have HB := Lib.hid (B09.trans q10)
 have hstr : ((strB k9P).toList == [119, 97, 114, 101, 32, 112, 32, 49, 32, 50, 32, 53, 10, 114, 111, 117, 110, 100, 32, 49, 48, 48, 32, 53, 32, 53, 10, 102, 105, 108, 108, 32, 112, 46, 65, 50, 32, 55, 10]) = true := by
  rw [toList_data]
  rfl
 clear B09 B08 q10
 go_wp2
 go_ret
 exact ⟨rfl, HB.out⟩
end Go.Proofs.YtalnfojaccfcjaaGreatDoor
namespace Go.Proofs.YtalnfojaccfcjaaGreatDoor
open Go.RowKit
set_option linter.unusedVariables false
theorem IsU32s.keepQ {w w' : World} {v : Value} {l : List Nat} (h : IsU32s w v l) (q : B w w') : IsU32s w' v l := by
 obtain ⟨ao, cap, h1, h2, h3⟩ := h
 exact ⟨ao, cap, h1, h2, fun i x hx => by
  obtain ⟨k1, b, o, k2, k3⟩ := h3 i x hx
  exact ⟨k1, b, o, k2, q.keep k3⟩⟩
theorem fills_le (ws : List Wr) : ∀ (l : List Nat) (i : Nat), (fillsF ws i l).length ≤ l.length
 | [], i => by simp [fillsF]
 | x :: l, i => by
  have := fills_le ws l (i + 1)
  rw [fillsF]
  split
  ·rw [List.length_cons]; omega
  ·split
   ·rw [List.length_cons, List.length_cons]; omega
   ·rw [List.length_cons]; omega
theorem rest9_any (a b c d : Int) (lv pv : Value) (ll : List Nat) (ps : List Pz) (ha : 0 ≤ a ∧ a ≤ 255) (hb : 0 ≤ b ∧ b ≤ 255) (hc : 0 ≤ c ∧ c ≤ 255) (hd : 0 ≤ d ∧ d ≤ 255) (w : World) (hU : IsU32s w lv ll) (hP : IsPzs w pv ps)
  (htab : Lib.TabIs Tryz.prog w "internal/strconv.uint64pow10" .u64 Lib.pow10Tab) :
  Calls Tryz.prog 4 #[.int .u8 a, .int .u8 b, .int .u8 c, .int .u8 d, lv, pv] w fun e w' => e = .returned (.bool true) ∧ B w w' := by
 have ck := known9_any w htab
 have hlv : ∃ ao cap, lv = .slice ao ll.length cap := by
  obtain ⟨ao, cap, h1, _⟩ := hU
  exact ⟨ao, cap, h1⟩
 obtain ⟨lo, lc, rfl⟩ := hlv
 obtain ⟨po, pc, rfl⟩ := hP.form
 by_cases hbig : 20 < ll.length ∨ 10 < ps.length
 ·have hor : (decide ((20 : Int) < (ll.length : Int)) = true ∧ decide (20 < ll.length) = true) ∨ (decide ((20 : Int) < (ll.length : Int)) = false ∧ decide (20 < ll.length) = false ∧ decide ((10 : Int) < (ps.length : Int)) = true ∧ decide (10 < ps.length) = true) := by
   by_cases h1 : 20 < ll.length
   ·exact .inl ⟨decide_eq_true (by omega), decide_eq_true h1⟩
   ·exact .inr ⟨decide_eq_false (by omega), decide_eq_false h1, decide_eq_true (by omega), decide_eq_true (by omega)⟩
  clear hbig hU hP
  rcases hor with ⟨g1, g2⟩ | ⟨g1, g2, g3, g4⟩
  all_goals
   go_enter Tryz.func4, Tryz.ntmps4
   go_wp2_with fail
   refine ck.mono ?_
   rintro _ w1 ⟨rfl, q1⟩
   go_wp2
   go_ret
   exact ⟨rfl, q1⟩
 have g1 : decide ((20 : Int) < (ll.length : Int)) = false := decide_eq_false (by omega)
 have g2 : decide (20 < ll.length) = false := decide_eq_false (by omega)
 have g3 : decide ((10 : Int) < (ps.length : Int)) = false := decide_eq_false (by omega)
 have g4 : decide (10 < ps.length) = false := decide_eq_false (by omega)
 have h20 : ll.length ≤ 20 := by omega
 have h10 : ps.length ≤ 10 := by omega
 have hwb := seat_wares ha hb hc hd
 have hrt := seat_right ha hb hc hd ll
 have hws2 : (wares7 a b c d).length = 2 := rfl
 have hnm : ∀ x ∈ wares7 a b c d, nameS x.n = true := fun x hx => by
  unfold wares7 at hx
  simp only [List.mem_cons, List.not_mem_nil, or_false] at hx
  rcases hx with rfl | rfl
  ·exact nameS_plate
  ·exact nameS_tube
 have hcnt : 0 < countW (wares7 a b c d) ∧ countW (wares7 a b c d) ≤ 192 := by
  obtain ⟨p1, p2, p3, p4⟩ := hwb _ (List.mem_cons_self ..)
  obtain ⟨t1, t2, t3, t4⟩ := hwb _ (List.mem_cons_of_mem _ (List.mem_cons_self ..))
  have m1 := mul_small (by omega) p2 (by omega) p4
  have m2 := mul_small (by omega) t2 (by omega) t4
  have m3 := Int.mul_le_mul p1 p3 (by omega) (by omega : (0 : Int) ≤ (a / 6 % 3 + 1))
  show 0 < _ * _ + (_ * _ + 0) ∧ _ * _ + (_ * _ + 0) ≤ 192
  omega
 have hst := seat_steps_ok (d := seatD a b c d ll) hwb hnm hcnt.1 (ps := ps) (by omega)
 have hfl : (seatD a b c d ll).fs.length ≤ 20 := Nat.le_trans (fills_le _ ll 0) h20
 have htl := textD_len hrt hfl
 have hsl := seat_steps_len (seatD a b c d ll) h10
 have hTS : stepsT (seatSteps (seatD a b c d ll) ps) = (seatSteps (seatD a b c d ll) ps).flatMap fun s => lineT (stepL s) := by unfold stepsT; rw [if_pos hst.1]
 rw [← hTS] at hsl
 clear hTS
 obtain ⟨LL, R, s1, s2, s3, ⟨k9, s4, s5⟩, f1, f2, f3, f4⟩ := source_said hrt hst.1 hst.2 (by rw [List.length_append]; omega)
 have cD := fun w1 (q : B w w1) => deck_any a b c d _ ll h20 ha hb hc hd w1 (hU.keepQ q)
 have cS := fun w1 (q : B w w1) wv tv fv (hD : IsDk w1 wv tv fv (seatD a b c d ll)) => steps_any wv tv fv _ (seatD a b c d ll) ps w1 hD (hP.keepB q) hwb (by show (wares7 a b c d).length ≤ 100; omega) hcnt.1 (by have := hcnt.2; show countW (wares7 a b c d) ≤ 9600; omega) (by omega)
 have cO := fun w1 wv tv fv sv (hD : IsDk w1 wv tv fv (seatD a b c d ll)) (hS : IsSps w1 sv (seatSteps (seatD a b c d ll) ps)) => source_any wv tv fv sv (seatD a b c d ll) _ w1 hD hS (by omega) (by omega)
 have hSl : (seatSteps (seatD a b c d ll) ps).length = R.length := s2.symm
 have hS1 : 1 ≤ (seatSteps (seatD a b c d ll) ps).length := by unfold seatSteps; simp
 generalize seatSteps (seatD a b c d ll) ps = SS at *
 generalize seatD a b c d ll = SD at *
 obtain ⟨T, hT⟩ : ∃ T, textD SD ++ stepsT SS = T := ⟨_, rfl⟩
 simp only [hT] at cO s1
 replace hSl := Lib.hid hSl
 have HF := Lib.hid (And.intro f1 (And.intro f2 (And.intro f3 (And.intro f4 (And.intro s4 s5)))))
 clear hT htl hsl hfl hst hcnt hnm hws2 hrt hwb hU hP hbig htab f1 f3 f4 s2
 go_enter Tryz.func4, Tryz.ntmps4
 go_wp2_with fail
 refine ck.mono ?_
 rintro _ w1 ⟨rfl, q1⟩
 go_wp2_with fail
 refine (cD _ q1).mono ?_
 rintro _ w2 ⟨wv, tv, fv, rfl, hD, q2⟩
 have q12 := q1.trans q2
 clear cD ck
 obtain ⟨ao, ac, bo, bc, co, cc, rfl, rfl, rfl⟩ := hD.forms
 have bD := (B.refl w2).alloc #[.slice ao SD.ws.length ac, .slice bo SD.ts.length bc, .slice co SD.fs.length cc] 26
 have oD := obj_new w2 (.cells #[.slice ao SD.ws.length ac, .slice bo SD.ts.length bc, .slice co SD.fs.length cc] 26)
 obtain ⟨W2, hW2⟩ : ∃ W2, w2.alloc (.cells #[.slice ao SD.ws.length ac, .slice bo SD.ts.length bc, .slice co SD.fs.length cc] 26) = W2 := ⟨_, rfl⟩
 rw [hW2] at bD oD
 have HW := Lib.hid hW2
 clear hW2
 go_upto_region 6 with fail
 rw [HW.out]
 generalize w2.heap.size = H at *
 have d0 : W2.cell? ⟨H, 0, none⟩ = some (.slice ao SD.ws.length ac) := obj_cell oD 0
 have d1 : W2.cell? ⟨H, 1, none⟩ = some (.slice bo SD.ts.length bc) := obj_cell oD 1
 have d2 : W2.cell? ⟨H, 2, none⟩ = some (.slice co SD.fs.length cc) := obj_cell oD 2
 replace hD := hD.keepB bD
 have q02 := q12.trans bD
 go_wp2_with fail
 refine (cS _ q02 _ _ _ hD).mono ?_
 rintro _ w3 ⟨sv, rfl, hS, q3⟩
 clear cS
 replace d0 := q3.keep d0
 replace d1 := q3.keep d1
 replace d2 := q3.keep d2
 replace hD := hD.keepB q3
 have q03 := q02.trans q3
 go_wp2_with fail
 refine (cO _ _ _ _ _ hD hS).mono ?_
 rintro _ w4 ⟨bl, bcap, rfl, IB, q4⟩
 clear cO
 replace hD := hD.keepB q4
 have q04 := q03.trans q4
 have cL := r8lines_any _ _ _ _ T w4 IB
 unfold LinesRes at cL
 rw [s1] at cL
 simp only at cL
 go_wp2_with fail
 refine cL.mono ?_
 rintro _ w5 ⟨v5, rfl, hv5, q5⟩
 replace hD := hD.keepB q5
 have q05 := q04.trans q5
 have cW := words9_any _ LL w5 hv5.lnO HF.out.1 HF.out.2.1 HF.out.2.2.1
 go_wp2_with fail
 refine cW.mono ?_
 rintro _ w6 ⟨u, vs, rfl, hO, q6⟩
 replace hD := hD.keepB q6
 have q06 := q05.trans q6
 have cP := parse_any u LL w6 hO.is.lnO HF.out.1 HF.out.2.1 HF.out.2.2.1 HF.out.2.2.2.1
 unfold ParseRes at cP
 rw [s3] at cP
 simp only at cP
 go_wp2_with fail
 refine cP.mono ?_
 rintro _ w7 ⟨wv2, tv2, fv2, rv, rfl, hD2, hR, q7⟩
 replace hD := hD.keepB q7
 have q07 := q06.trans q7
 obtain ⟨ao2, ac2, bo2, bc2, co2, cc2, rfl, rfl, rfl⟩ := hD2.forms
 obtain ⟨ro, rc, rfl⟩ := hR.form
 obtain ⟨so, sc, rfl⟩ := hS.form
 have hRl : 1 ≤ R.length := by have := hSl.out; omega
 obtain ⟨g5, c5, rfl, hc5, hc5m⟩ : ∃ g5 c5, v5 = .slice (some ⟨g5, 0, none⟩) LL.length c5 ∧ LL.length ≤ c5 ∧ c5 ≤ maxLen := by
  rcases hv5 with ⟨_, h⟩ | ⟨g5, c5, h1, h2, h3, _⟩
  ·have := HF.out.2.2.2.2.1
   rw [h, List.length_nil] at this
   omega
  ·exact ⟨g5, c5, h1, h2, h3⟩
 have k9e := HF.out.2.2.2.2.1
 have hLn : LL.length ≤ 65536 := HF.out.2.1
 have t1 : (((R.length : Int)) != (SS.length : Int)) = false := by rw [hSl.out]; simp
 have t2 : decide ((LL.length : Int) < (R.length : Int)) = false := decide_eq_false (by omega)
 have t2' : decide (LL.length < R.length) = false := decide_eq_false (by omega)
 have t3 : IntKind.i64.wrap ((LL.length : Int) - (R.length : Int)) = (k9 : Int) := by rw [IntKind.wrap_i64]; omega
 have t4 : (k9 : Int) ≤ (LL.length : Int) := by omega
 have t4' : k9 ≤ LL.length := by omega
 have t5 : ¬ c5 = k9 := by omega
 have t6 : (k9 : Int) ≤ (c5 : Int) := by omega
 have elen : LL.length - k9 = R.length := by omega
 have t7 : (LL.length : Int) ≤ (c5 : Int) := by omega
 have t8 : (0 : Int) ≤ (k9 : Int) := by omega
 have hLx := (hv5.lnO.keep (q6.trans q7))
 have hdrop := hLx.drop t4'
 rw [HF.out.2.2.2.2.2, Nat.zero_add, elen] at hdrop
 have b8 := (B.refl w7).alloc #[.slice ao2 SD.ws.length ac2, .slice bo2 SD.ts.length bc2, .slice co2 SD.fs.length cc2] 26
 have q58 := ((q4.trans q5).trans q6).trans q7
 replace d0 := b8.keep (q58.keep d0)
 replace d1 := b8.keep (q58.keep d1)
 replace d2 := b8.keep (q58.keep d2)
 have cH := fun w' (q : B _ w') => helpdeck_any _ _ _ _ _ _ SD w' ((hD2.keepB b8).keepB q) ((hD.keepB b8).keepB q)
 have cM := fun w' (q : B _ w') => same9_any _ _ R w' ((hR.keep b8).keep q) ((hdrop.keep b8).keep q) (by unfold maxLen; omega) (fun ws hws => by
  have hm : ws ∈ LL := by
   rw [← HF.out.2.2.2.2.2] at hws
   exact List.mem_of_mem_drop hws
  have := HF.out.2.2.1 ws hm
  unfold maxLen
  omega)
 have q08 := q07.trans b8
 clear hD hD2 hR hv5 hO hLx hdrop cW cP cL q1 q2 q3 q4 q5 q6 q7 q58 q12 q02 q03 q04 q05 q06 q07 IB b8
 go_wp2_with fail
 refine (cH _ (B.refl _)).mono ?_
 rintro _ w8 ⟨rfl, q8⟩
 go_wp2_with fail
 refine (cM _ q8.b).mono ?_
 rintro _ w9 ⟨rfl, ⟨m9, rfl⟩⟩
 have HB := Lib.hid ((q08.trans q8.b).drewN m9)
 clear cM cH q8 q08
 go_wp2
 go_ret
 exact ⟨rfl, HB.out⟩
end Go.Proofs.YtalnfojaccfcjaaGreatDoor
namespace Go.Proofs.YtalnfojaccfcjaaGreatDoor
open Go.RowKit Go.ChangeShapes Go.WideShapes Go.ChangeAt Go.Deep
instance : Inhabited Pz := ⟨⟨0, 0, 0, 0, 0⟩⟩
def Pz.cells (z : Pz) : List Value := [.int .u8 (z.k : Int), .int .u8 (z.a : Int), .int .u8 (z.b : Int), .int .u8 (z.c : Int), .int .u32 (z.v : Int)]
def Pz.ok (z : Pz) : Prop := z.k < 256 ∧ z.a < 256 ∧ z.b < 256 ∧ z.c < 256 ∧ z.v < 4294967296
theorem u8_n {a : Int} (w : (Lit.int .u8 a).wf = true) : 0 ≤ a ∧ a < 256 := by
 simp [Lit.wf, IntKind.min, IntKind.max, IntKind.signed, IntKind.bits] at w
 omega
theorem u32_n {a : Int} (w : (Lit.int .u32 a).wf = true) : 0 ≤ a ∧ a < 4294967296 := by
 simp [Lit.wf, IntKind.min, IntKind.max, IntKind.signed, IntKind.bits] at w
 omega
theorem pz_open {H : Type} {enc : TypeId × Value → H} {W : World} {base : Nat} {sp : Nat → Bool} {held : Bool} {fuel : Nat} {cs : List Value} {x : DataW H × List MemPlace}
  (h : DataW.trod enc Tryz.prog W base sp held fuel 147 cs = some x) : ∃ s : Pz, s.ok ∧ cs = s.cells := by
 obtain ⟨xs, n, _, _, hl, hlen, hf⟩ := DataW.trod_struct Tryz.underlying147 h
 rw [show Tryz.prog.cellsOf 147 = 5 by kernel_rfl] at hl
 have c1 : Tryz.prog.cellsOf 5 = 1 := by kernel_rfl
 have c0 : Tryz.prog.cellsOf 95 = 1 := by kernel_rfl
 match xs, hlen, cs, hl with
 | [x0, x1, x2, x3, x4], _, [v0, v1, v2, v3, v4], _ =>
  have f0 : DataW.trod enc Tryz.prog W base sp held n 5 (([v0, v1, v2, v3, v4].drop 0).take (Tryz.prog.cellsOf 5)) = some x0 := hf 0 _ rfl
  have f1 : DataW.trod enc Tryz.prog W base sp held n 5 (([v0, v1, v2, v3, v4].drop 1).take (Tryz.prog.cellsOf 5)) = some x1 := hf 1 _ rfl
  have f2 : DataW.trod enc Tryz.prog W base sp held n 5 (([v0, v1, v2, v3, v4].drop 2).take (Tryz.prog.cellsOf 5)) = some x2 := hf 2 _ rfl
  have f3 : DataW.trod enc Tryz.prog W base sp held n 5 (([v0, v1, v2, v3, v4].drop 3).take (Tryz.prog.cellsOf 5)) = some x3 := hf 3 _ rfl
  have f4 : DataW.trod enc Tryz.prog W base sp held n 95 (([v0, v1, v2, v3, v4].drop 4).take (Tryz.prog.cellsOf 95)) = some x4 := hf 4 _ rfl
  rw [c1] at f0 f1 f2 f3
  rw [c0] at f4
  obtain ⟨a0, e0, _, w0⟩ := DataW.trod_int Tryz.underlying5 f0
  obtain ⟨a1, e1, _, w1⟩ := DataW.trod_int Tryz.underlying5 f1
  obtain ⟨a2, e2, _, w2⟩ := DataW.trod_int Tryz.underlying5 f2
  obtain ⟨a3, e3, _, w3⟩ := DataW.trod_int Tryz.underlying5 f3
  obtain ⟨a4, e4, _, w4⟩ := DataW.trod_int Tryz.underlying95 f4
  simp at e0 e1 e2 e3 e4
  subst e0 e1 e2 e3 e4
  obtain ⟨l0, m0⟩ := u8_n w0
  obtain ⟨l1, m1⟩ := u8_n w1
  obtain ⟨l2, m2⟩ := u8_n w2
  obtain ⟨l3, m3⟩ := u8_n w3
  obtain ⟨l4, m4⟩ := u32_n w4
  obtain ⟨n0, rfl⟩ := Int.eq_ofNat_of_zero_le l0
  obtain ⟨n1, rfl⟩ := Int.eq_ofNat_of_zero_le l1
  obtain ⟨n2, rfl⟩ := Int.eq_ofNat_of_zero_le l2
  obtain ⟨n3, rfl⟩ := Int.eq_ofNat_of_zero_le l3
  obtain ⟨n4, rfl⟩ := Int.eq_ofNat_of_zero_le l4
  exact ⟨⟨n0, n1, n2, n3, n4⟩, ⟨by show n0 < 256; omega, by show n1 < 256; omega, by show n2 < 256; omega, by show n3 < 256; omega, by show n4 < 4294967296; omega⟩, rfl⟩
theorem open_pzs {H : Type} {enc : TypeId × Value → H} {W : World} {base b0 : Nat} {sp : Nat → Bool} {held : Bool} {r : Reach} {v : Value} {d : DataW H} {p : List MemPlace}
  (hv : Value.okWide Tryz.prog W r b0 55 v) (h : DataW.Trod enc Tryz.prog W base sp held 55 v d p) : ∃ l, IsPzs W v l := by
 obtain ⟨o, len, cap, rfl⟩ := okWide_slice Tryz.underlying55 hv
 obtain ⟨fuel, hf⟩ := h
 rcases open_slice Tryz.underlying55 hf with ⟨hcs, _⟩ | ⟨a, ln, cp, m, n, D, Pl, hcs, _, hl, hm, hmm, _, hx⟩
 ·simp [Value.cells] at hcs
  obtain ⟨rfl, rfl, rfl⟩ := hcs
  exact ⟨[], .inl ⟨rfl, rfl⟩⟩
 ·simp [Value.cells] at hcs
  obtain ⟨rfl, rfl, rfl⟩ := hcs
  rw [show Tryz.prog.cellsOf 147 = 5 by kernel_rfl] at hx
  have hle : len ≤ m := by rw [hmm]; split <;> omega
  obtain ⟨S, hS⟩ := choose_lt (α := Pz) (n := len) (p := fun i s => s.ok ∧ ∀ j, j < 5 → W.cell? ((a.add (i * 5)).add j) = s.cells[j]?) (fun i hi => by
   obtain ⟨cs', h1, h2⟩ := hx i (by omega)
   obtain ⟨s, hI, rfl⟩ := pz_open h2
   obtain ⟨_, _, h3⟩ := World.cells?_some h1
   exact ⟨s, hI, h3⟩)
  refine ⟨(List.range len).map S, .inr ⟨a, cap, by simp, by simpa using hl, hm, fun i s hs => ?_⟩⟩
  have hi : i < len := by
   have := (List.getElem?_eq_some_iff.1 hs).1
   simpa using this
  have e : s = S i := by
   rw [List.getElem?_map, List.getElem?_range hi] at hs
   simpa using hs.symm
  subst e
  obtain ⟨hI, hc⟩ := hS i hi
  generalize a.add (i * 5) = q at *
  have g0 := hc 0 (by omega)
  have g1 := hc 1 (by omega)
  have g2 := hc 2 (by omega)
  have g3 := hc 3 (by omega)
  have g4 := hc 4 (by omega)
  simp [Addr.add, Pz.cells] at g0 g1 g2 g3 g4
  exact ⟨g0, g1, g2, g3, g4, hI⟩
end Go.Proofs.YtalnfojaccfcjaaGreatDoor
namespace Go.Proofs.YtalnfojaccfcjaaGreatDoor
open Go.RowKit
set_option linter.unusedVariables false
theorem rest9_ok (a b c d : Int) (lv : Value) (ll : List Nat) (pv : Value) (ps : List Pz) (wa : (Lit.int .u8 a).wf = true) (wb : (Lit.int .u8 b).wf = true) (wc : (Lit.int .u8 c).wf = true) (wd : (Lit.int .u8 d).wf = true) (w : World) (hU : IsU32s w lv ll) (hP : IsPzs w pv ps)
  (htab : Lib.TabIs Tryz.prog w "internal/strconv.uint64pow10" .u64 Lib.pow10Tab) :
  Calls Tryz.prog 4 #[.int .u8 a, .int .u8 b, .int .u8 c, .int .u8 d, lv, pv] w fun e w' => e = .returned (.bool true) ∧ B w w' :=
 rest9_any a b c d lv pv ll ps (u8_wf wa) (u8_wf wb) (u8_wf wc) (u8_wf wd) w hU hP htab
end Go.Proofs.YtalnfojaccfcjaaGreatDoor
