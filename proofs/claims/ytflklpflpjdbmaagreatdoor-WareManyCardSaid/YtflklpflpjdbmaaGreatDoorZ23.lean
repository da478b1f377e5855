/-
  The code's Print is the document's; The bytes of a constant, in a block of their own; The statements' known: its constants; The statements' known, walked; WareErrors' texts: each is told an error, by the document. No program is named here; []byte(s): the bytes of a text, in a block of their own.
-/
import Derived.KernelRfl
import Derived.Lib.SlBytesConst
import Derived.Lib.ConvBytes
import Derived.Lib.Strings
import Derived.Lib.UnsafeStr
import Derived.Test.YtflklpflpjdbmaaGreatDoorChecked
import Derived.Test.YtflklpflpjdbmaaGreatDoorZ1
import Derived.Test.YtflklpflpjdbmaaGreatDoorZ2
import Derived.Test.YtflklpflpjdbmaaGreatDoorZ3
import Derived.Test.YtflklpflpjdbmaaGreatDoorZ4
import Derived.Test.YtflklpflpjdbmaaGreatDoorZ5
import Derived.Test.YtflklpflpjdbmaaGreatDoorZ6
import Derived.Test.YtflklpflpjdbmaaGreatDoorZ7
import Derived.Test.YtflklpflpjdbmaaGreatDoorZ8
import Derived.Test.YtflklpflpjdbmaaGreatDoorZ9
import Derived.Test.YtflklpflpjdbmaaGreatDoorZ10
import Derived.Test.YtflklpflpjdbmaaGreatDoorZ11
import Derived.Test.YtflklpflpjdbmaaGreatDoorZ12
import Derived.Test.YtflklpflpjdbmaaGreatDoorZ13
import Derived.Test.YtflklpflpjdbmaaGreatDoorZ14
import Derived.Test.YtflklpflpjdbmaaGreatDoorZ15
import Derived.Test.YtflklpflpjdbmaaGreatDoorZ16
import Derived.Test.YtflklpflpjdbmaaGreatDoorZ17
import Derived.Test.YtflklpflpjdbmaaGreatDoorZ18
import Derived.Test.YtflklpflpjdbmaaGreatDoorZ19
import Derived.Test.YtflklpflpjdbmaaGreatDoorZ20
import Derived.Test.YtflklpflpjdbmaaGreatDoorZ21
import Derived.Test.YtflklpflpjdbmaaGreatDoorZ22
namespace Go.Proofs.YtflklpflpjdbmaaGreatDoor
open Go.RowKit
set_option linter.unusedVariables false
theorem t10_of {w w' : World} {BB : Nat} (h : Lib.TabIs Tryz.prog w "internal/strconv.uint64pow10" .u64 Lib.pow10Tab) (q : B w w') (hb : w.heap.size ≤ BB) : T10 BB w' :=
  fun w2 k => Lib.tabBelow_of_tabIs h w2 (q.below.trans (k.mono hb))
theorem T10.tab {w : World} {BB : Nat} (h : T10 BB w) (hs : BB ≤ w.heap.size) : ∀ w', B w w' → Lib.TabIs Tryz.prog w' "internal/strconv.uint64pow10" .u64 Lib.pow10Tab := fun w' q => Lib.TabBelow.here (h.b q hs)
set_option maxRecDepth 100000 in
set_option maxHeartbeats 4000000 in
theorem print9_any (wv tv fv : Value) (d : Dk) (w : World) (h : IsDk w wv tv fv d) (hzws : ∀ r ∈ d.ws, r.n.size ≤ maxLen) (hsI : ∀ r ∈ d.ws, I64 r.x ∧ I64 r.y) (hzts : ∀ r ∈ d.ts, r.n.size ≤ maxLen) (hzfs : ∀ f ∈ d.fs, f.n.size ≤ maxLen ∧ I64 f.r ∧ I64 f.c) (hfs : d.fs.length < 1000)
    (htab : Lib.TabIs Tryz.prog w "internal/strconv.uint64pow10" .u64 Lib.pow10Tab) :
    Calls Tryz.prog 10 #[.agg #[wv, tv, fv]] w fun e w' => e = .returned (.string (strB (textD d))) ∧ B w w' := by
  obtain ⟨ao, ac, bo, bc, co, cc, rfl, rfl, rfl⟩ := h.forms
  have q0 : B w (w.alloc (.cells #[.slice ao d.ws.length ac, .slice bo d.ts.length bc, .slice co d.fs.length cc] 26)) := (B.refl w).alloc _ _
  have oD0 := obj_new w (.cells #[.slice ao d.ws.length ac, .slice bo d.ts.length bc, .slice co d.fs.length cc] 26)
  have cR := right9_any _ _ _ d _ (h.keepB q0) hzws hsI hzts hzfs hfs
  clear hzws hsI hzts hzfs
  go_enter Tryz.func10, Tryz.ntmps10
  go_wp2_with fail
  refine cR.mono ?_
  clear cR
  rintro _ w2 ⟨rfl, q2⟩
  have oD := q2.obj oD0
  have q02 := q0.trans q2
  generalize w.heap.size = H at *
  clear oD0 q0 q2
  obtain ⟨RD, hRD⟩ : ∃ RD, rightD d = RD := ⟨_, rfl⟩
  rw [hRD]
  cases RD
  · have hE : Hid (strB (textD d) = ⟨#[]⟩) := Lib.hid (by unfold textD; rw [hRD]; rfl)
    clear hRD
    go_wp2
    go_ret
    exact ⟨by rw [hE.out]; rfl, q02⟩
  obtain ⟨hw8, ht4, hNW, hNT, hNF⟩ := right_parts hRD
  have hE : Hid (strB (textD d) = strB ((d.ws.flatMap (recT kWare) ++ d.ts.flatMap (recT kTip)) ++ d.fs.flatMap fun f => lineT (fillL f))) := Lib.hid (by unfold textD; rw [hRD, if_pos rfl, deck_text])
  clear hRD
  have hB0 := bd_new w2
  obtain ⟨w3, hw3⟩ : ∃ w3, w2.alloc (.cells #[.pointer none, .slice none 0 0] 81) = w3 := ⟨_, rfl⟩
  have q23 := (B.refl w2).alloc #[.pointer none, .slice none 0 0] 81
  rw [hw3] at hB0 q23
  have hW3 := q02.trans q23
  have hBB : w.heap.size ≤ w2.heap.size := q02.below.size
  have hT3 : T10 w2.heap.size w3 := t10_of htab hW3 hBB
  have oD3 := q23.obj oD
  have hP0 : PSt w2.heap.size w2.heap.size [] w3 w3 := ⟨hB0, hT3, Tn.refl _ _ _⟩
  have d0 := obj_cell oD3 0
  clear hB0 oD q02 q23 htab hT3
  go_wp2_with fail
  try rw [hw3]
  clear hw3
  obtain ⟨BB, hb⟩ : ∃ BB, w2.heap.size = BB := ⟨_, rfl⟩
  rw [hb] at hP0 hBB
  try rw [hb]
  clear hb
  replace hP0 := hP0
  go_loopw [16] (fun iv wr => ∃ i : Nat, i ≤ d.ws.length ∧ iv = .int .i64 i ∧ PSt BB BB ((d.ws.take i).flatMap (recT kWare)) w3 wr) (fun iv _ => d.ws.length + 1 - (intOf iv).toNat)
  case atStart => exact ⟨0, Nat.zero_le _, rfl, by simpa using hP0⟩
  case round =>
    obtain ⟨i, hi, rfl, hP⟩ := hrel
    obtain ⟨wo, rfl⟩ : ∃ wo : World, wo = wr := ⟨_, rfl⟩
    by_cases hlt : i < d.ws.length
    · have hlB : decide ((i : Int) < (d.ws.length : Int)) = true := decide_eq_true (by omega)
      have hlI : (i : Int) < (d.ws.length : Int) := by omega
      have hi0 : (0 : Int) ≤ (i : Int) := by omega
      have wk1 : IntKind.i64.wrap ((i : Int) + 1) = (i : Int) + 1 := by rw [IntKind.wrap_i64]; omega
      obtain ⟨g, cap, e1, _, _, hr⟩ := h.ws.at_ hlt
      obtain ⟨rfl, _, rfl⟩ : ao = some g ∧ True ∧ ac = cap := by simpa using e1
      obtain ⟨F, hF⟩ : ∃ F, d.ws[i]? = some F := ⟨_, List.getElem?_eq_getElem hlt⟩
      have hFe : d.ws[i] = F := by rw [List.getElem?_eq_getElem hlt] at hF; simpa using hF
      rw [hFe] at hr
      have qW := hP.tn.toB hW3 hBB
      obtain ⟨g0, g1, g2, g3, sv, g4, g5⟩ := hr
      replace g0 := qW.keep g0
      replace g1 := qW.keep g1
      replace g2 := qW.keep g2
      replace g3 := qW.keep g3
      replace g4 := qW.keep g4
      obtain ⟨x, y, z, hRN⟩ := hNW F (List.mem_of_getElem? hF)
      have hsz : ((d.ws.take i).flatMap (recT kWare)).length ≤ 20000 := by
        have h1 := flat_len9 (recT kWare) 1000 (d.ws.take i) (fun r hr => by obtain ⟨x, y, z, hR⟩ := hNW r (List.mem_of_mem_take hr); exact recT_len (by decide) hR)
        rw [List.length_take] at h1
        omega
      have hT1 : (d.ws.take (i + 1)).flatMap (recT kWare) = (d.ws.take i).flatMap (recT kWare) ++ recT kWare F := by rw [take_flat hF]; first | done | simp
      generalize (d.ws.take i).flatMap (recT kWare) = T at *
      obtain ⟨ex, ey, ez, bx, by0, bz, hn16, hls, hl4⟩ := hRN
      obtain ⟨N, X, Y, Z, SL⟩ := F
      simp only at g0 g1 g2 g3 g4 g5 ex ey ez hn16 hls hl4
      subst ex ey ez
      obtain ⟨so, sc, rfl⟩ := secs_form g5
      obtain ⟨W1, hW1⟩ : ∃ W1, wo.alloc (.cells #[.string N, .int .i64 (x : Nat), .int .i64 (y : Nat), .int .i64 (z : Nat), .slice so SL.length sc] 33) = W1 := ⟨_, rfl⟩
      have oS := obj_new wo (.cells #[.string N, .int .i64 (x : Nat), .int .i64 (y : Nat), .int .i64 (z : Nat), .slice so SL.length sc] 33)
      have hPa := hP.alloc #[.string N, .int .i64 (x : Nat), .int .i64 (y : Nat), .int .i64 (z : Nat), .slice so SL.length sc] 33
      rw [hW1] at oS hPa
      obtain ⟨G, hG⟩ : ∃ G, wo.heap.size = G := ⟨_, rfl⟩
      rw [hG] at oS
      have k0 := obj_cell oS 0
      have k1 := obj_cell oS 1
      have k2 := obj_cell oS 2
      have k3 := obj_cell oS 3
      have hns : ∀ v ∈ [x, y, z], v ≤ 10000000000000 := by
        intro v hv
        simp only [List.mem_cons, List.not_mem_nil, or_false] at hv
        rcases hv with rfl | rfl | rfl <;> assumption
      have cP : Calls Tryz.prog 29 #[.pointer (some ⟨BB, 0, none⟩), .string ({ data := #[119, 97, 114, 101] } : ByteArray), .string N, .slice (some ⟨W1.heap.size, 0, none⟩) 3 3] (W1.alloc (.cells #[.int .i64 (x : Int), .int .i64 (y : Int), .int .i64 (z : Int)] 2)) fun e w' => e = .returned (.tuple #[]) ∧ PSt BB BB (T ++ lineT (kWare :: N.data.toList :: [x, y, z].map fun (x : Nat) => decI (x : Int))) w3 w' ∧ PSt BB BB (T ++ lineT (kWare :: N.data.toList :: [x, y, z].map fun (x : Nat) => decI (x : Int))) W1 w' := by
        have hPb := hPa.alloc #[.int .i64 (x : Int), .int .i64 (y : Int), .int .i64 (z : Int)] 2
        refine (pline_any BB BB T kWare N.data.toList [x, y, z] _ _ hPb.bd (num_three W1 x y z) hPb.t10 (by omega) (by decide) (by omega) (by simp) hns).mono ?_
        rintro e w' ⟨he, k1, q⟩
        exact ⟨he, hPb.put k1 q, ((⟨hPa.bd, hPa.t10, Tn.refl _ _ _⟩ : PSt BB BB T W1 W1).alloc _ _).put k1 q⟩
      have hNs : N.size ≤ 16 := by
        have e : N.data.toList.length = N.size := Array.length_toList
        omega
      have hlen : (T ++ lineT (kWare :: N.data.toList :: [x, y, z].map fun (x : Nat) => decI (x : Int))).length ≤ 800000 := by
        have := decI_le bx
        have := decI_le by0
        have := decI_le bz
        rw [List.length_append, lineT_two]
        simp [kWare]
        omega
      have hrT : recT kWare ⟨N, (x : Int), (y : Int), (z : Int), SL⟩ = lineT (kWare :: N.data.toList :: [x, y, z].map fun (x : Nat) => decI (x : Int)) ++ SL.flatMap fun s => lineT (secL s) := rfl
      rw [hrT] at hT1
      generalize lineT (kWare :: N.data.toList :: [x, y, z].map fun (x : Nat) => decI (x : Int)) = LN at *
      have HU := Lib.hid (And.intro hT1 (And.intro hlen hlt))
      have HG := Lib.hid hG
      clear hT1 hF hFe e1 hns hrT bx by0 bz hn16 hsz hlt
      go_wp2_with fail
      try rw [HG.out]
      try rw [hW1]
      refine cP.mono ?_
      rintro _ w5 ⟨rfl, P5, P6⟩
      clear cP
      have oS5 := P6.tn.objc oS (by decide)
      have m4 := obj_cell oS5 4
      have cS := psecs_any BB BB (T ++ LN) (.slice so SL.length sc) SL w w5 P5.bd (P5.tn.toB hW3 hBB) hBB g5 P5.t10 HU.out.2.1 hls (by omega)
      go_wp2_with fail
      refine cS.mono ?_
      rintro _ w7 ⟨rfl, B7, t7⟩
      have HP7 := Lib.hid (P5.put B7 t7)
      clear cS B7 t7 m4 oS5 P5 P6 k0 k1 k2 k3 oS hPa hP hW1 g0 g1 g2 g3 g4 g5
      go_wp2
      go_roundw
      case rel =>
        obtain ⟨u1, u2, u3⟩ := HU.out
        refine ⟨i + 1, by omega, by go_num, ?_⟩
        rw [u1]
        simpa using HP7.out
      case measure => have := HU.out.2.2; simp [intOf]; omega
    · have hlB : decide ((i : Int) < (d.ws.length : Int)) = false := decide_eq_false (by omega)
      obtain rfl : i = d.ws.length := by omega
      rw [List.take_length] at hP
      replace hP0 := hP
      have d1 := obj_cell (hP0.tn.objc oD3 (by decide)) 1
      clear hP
      go_wp2_with fail
      go_loopw [37] (fun iv wr => ∃ i : Nat, i ≤ d.ts.length ∧ iv = .int .i64 i ∧ PSt BB BB (d.ws.flatMap (recT kWare) ++ (d.ts.take i).flatMap (recT kTip)) w3 wr) (fun iv _ => d.ts.length + 1 - (intOf iv).toNat)
      case atStart => exact ⟨0, Nat.zero_le _, rfl, by simpa using hP0⟩
      case round =>
        obtain ⟨i, hi, rfl, hP⟩ := hrel
        obtain ⟨wo, rfl⟩ : ∃ wo : World, wo = wr := ⟨_, rfl⟩
        by_cases hlt : i < d.ts.length
        · have hlB : decide ((i : Int) < (d.ts.length : Int)) = true := decide_eq_true (by omega)
          have hlI : (i : Int) < (d.ts.length : Int) := by omega
          have hi0 : (0 : Int) ≤ (i : Int) := by omega
          have wk1 : IntKind.i64.wrap ((i : Int) + 1) = (i : Int) + 1 := by rw [IntKind.wrap_i64]; omega
          obtain ⟨g, cap, e1, _, _, hr⟩ := h.ts.at_ hlt
          obtain ⟨rfl, _, rfl⟩ : bo = some g ∧ True ∧ bc = cap := by simpa using e1
          obtain ⟨F, hF⟩ : ∃ F, d.ts[i]? = some F := ⟨_, List.getElem?_eq_getElem hlt⟩
          have hFe : d.ts[i] = F := by rw [List.getElem?_eq_getElem hlt] at hF; simpa using hF
          rw [hFe] at hr
          have qW := hP.tn.toB hW3 hBB
          obtain ⟨g0, g1, g2, g3, sv, g4, g5⟩ := hr
          replace g0 := qW.keep g0
          replace g1 := qW.keep g1
          replace g2 := qW.keep g2
          replace g3 := qW.keep g3
          replace g4 := qW.keep g4
          obtain ⟨x, y, z, hRN⟩ := hNT F (List.mem_of_getElem? hF)
          have hsz : (d.ws.flatMap (recT kWare) ++ (d.ts.take i).flatMap (recT kTip)).length ≤ 20000 := by
            have h1 := flat_len9 (recT kTip) 1000 (d.ts.take i) (fun r hr => by obtain ⟨x, y, z, hR⟩ := hNT r (List.mem_of_mem_take hr); exact recT_len (by decide) hR)
            rw [List.length_take] at h1
            have h2 := flat_len9 (recT kWare) 1000 d.ws (fun r hr => by obtain ⟨x, y, z, hR⟩ := hNW r hr; exact recT_len (by decide) hR)
            rw [List.length_append]
            omega
          have hT1 : d.ws.flatMap (recT kWare) ++ (d.ts.take (i + 1)).flatMap (recT kTip) = d.ws.flatMap (recT kWare) ++ (d.ts.take i).flatMap (recT kTip) ++ recT kTip F := by rw [take_flat hF]; first | done | simp
          generalize d.ws.flatMap (recT kWare) ++ (d.ts.take i).flatMap (recT kTip) = T at *
          obtain ⟨ex, ey, ez, bx, by0, bz, hn16, hls, hl4⟩ := hRN
          obtain ⟨N, X, Y, Z, SL⟩ := F
          simp only at g0 g1 g2 g3 g4 g5 ex ey ez hn16 hls hl4
          subst ex ey ez
          obtain ⟨so, sc, rfl⟩ := secs_form g5
          obtain ⟨W1, hW1⟩ : ∃ W1, wo.alloc (.cells #[.string N, .int .i64 (x : Nat), .int .i64 (y : Nat), .int .i64 (z : Nat), .slice so SL.length sc] 35) = W1 := ⟨_, rfl⟩
          have oS := obj_new wo (.cells #[.string N, .int .i64 (x : Nat), .int .i64 (y : Nat), .int .i64 (z : Nat), .slice so SL.length sc] 35)
          have hPa := hP.alloc #[.string N, .int .i64 (x : Nat), .int .i64 (y : Nat), .int .i64 (z : Nat), .slice so SL.length sc] 35
          rw [hW1] at oS hPa
          obtain ⟨G, hG⟩ : ∃ G, wo.heap.size = G := ⟨_, rfl⟩
          rw [hG] at oS
          have k0 := obj_cell oS 0
          have k1 := obj_cell oS 1
          have k2 := obj_cell oS 2
          have k3 := obj_cell oS 3
          have hns : ∀ v ∈ [x, y, z], v ≤ 10000000000000 := by
            intro v hv
            simp only [List.mem_cons, List.not_mem_nil, or_false] at hv
            rcases hv with rfl | rfl | rfl <;> assumption
          have cP : Calls Tryz.prog 29 #[.pointer (some ⟨BB, 0, none⟩), .string ({ data := #[116, 105, 112] } : ByteArray), .string N, .slice (some ⟨W1.heap.size, 0, none⟩) 3 3] (W1.alloc (.cells #[.int .i64 (x : Int), .int .i64 (y : Int), .int .i64 (z : Int)] 2)) fun e w' => e = .returned (.tuple #[]) ∧ PSt BB BB (T ++ lineT (kTip :: N.data.toList :: [x, y, z].map fun (x : Nat) => decI (x : Int))) w3 w' ∧ PSt BB BB (T ++ lineT (kTip :: N.data.toList :: [x, y, z].map fun (x : Nat) => decI (x : Int))) W1 w' := by
            have hPb := hPa.alloc #[.int .i64 (x : Int), .int .i64 (y : Int), .int .i64 (z : Int)] 2
            refine (pline_any BB BB T kTip N.data.toList [x, y, z] _ _ hPb.bd (num_three W1 x y z) hPb.t10 (by omega) (by decide) (by omega) (by simp) hns).mono ?_
            rintro e w' ⟨he, k1, q⟩
            exact ⟨he, hPb.put k1 q, ((⟨hPa.bd, hPa.t10, Tn.refl _ _ _⟩ : PSt BB BB T W1 W1).alloc _ _).put k1 q⟩
          have hNs : N.size ≤ 16 := by
            have e : N.data.toList.length = N.size := Array.length_toList
            omega
          have hlen : (T ++ lineT (kTip :: N.data.toList :: [x, y, z].map fun (x : Nat) => decI (x : Int))).length ≤ 800000 := by
            have := decI_le bx
            have := decI_le by0
            have := decI_le bz
            rw [List.length_append, lineT_two]
            simp [kTip]
            omega
          have hrT : recT kTip ⟨N, (x : Int), (y : Int), (z : Int), SL⟩ = lineT (kTip :: N.data.toList :: [x, y, z].map fun (x : Nat) => decI (x : Int)) ++ SL.flatMap fun s => lineT (secL s) := rfl
          rw [hrT] at hT1
          generalize lineT (kTip :: N.data.toList :: [x, y, z].map fun (x : Nat) => decI (x : Int)) = LN at *
          have HU := Lib.hid (And.intro hT1 (And.intro hlen hlt))
          have HG := Lib.hid hG
          clear hT1 hF hFe e1 hns hrT bx by0 bz hn16 hsz hlt
          go_wp2_with fail
          try rw [HG.out]
          try rw [hW1]
          refine cP.mono ?_
          rintro _ w5 ⟨rfl, P5, P6⟩
          clear cP
          have oS5 := P6.tn.objc oS (by decide)
          have m4 := obj_cell oS5 4
          have cS := psecs_any BB BB (T ++ LN) (.slice so SL.length sc) SL w w5 P5.bd (P5.tn.toB hW3 hBB) hBB g5 P5.t10 HU.out.2.1 hls (by omega)
          go_wp2_with fail
          refine cS.mono ?_
          rintro _ w7 ⟨rfl, B7, t7⟩
          have HP7 := Lib.hid (P5.put B7 t7)
          clear cS B7 t7 m4 oS5 P5 P6 k0 k1 k2 k3 oS hPa hP hW1 g0 g1 g2 g3 g4 g5
          go_wp2
          go_roundw
          case rel =>
            obtain ⟨u1, u2, u3⟩ := HU.out
            refine ⟨i + 1, by omega, by go_num, ?_⟩
            rw [u1]
            simpa using HP7.out
          case measure => have := HU.out.2.2; simp [intOf]; omega
        · have hlB : decide ((i : Int) < (d.ts.length : Int)) = false := decide_eq_false (by omega)
          obtain rfl : i = d.ts.length := by omega
          rw [List.take_length] at hP
          replace hP0 := hP
          have d1 := obj_cell (hP0.tn.objc oD3 (by decide)) 2
          clear hP
          go_wp2_with fail
          go_loopw [58] (fun iv wr => ∃ i : Nat, i ≤ d.fs.length ∧ iv = .int .i64 i ∧ PSt BB BB (d.ws.flatMap (recT kWare) ++ d.ts.flatMap (recT kTip) ++ (d.fs.take i).flatMap fun f => lineT (fillL f)) w3 wr) (fun iv _ => d.fs.length + 1 - (intOf iv).toNat)
          case atStart => exact ⟨0, Nat.zero_le _, rfl, by simpa using hP0⟩
          case round =>
            obtain ⟨i, hi, rfl, hP⟩ := hrel
            obtain ⟨wo, rfl⟩ : ∃ wo : World, wo = wr := ⟨_, rfl⟩
            have hFl : ∀ f ∈ d.fs, (lineT (fillL f)).length ≤ 100 := by
              intro f hf
              obtain ⟨n1, n2, n3, n4, n5⟩ := hNF f hf
              have h1 := wellT_len n1 n2.1 n2.2 n3.1 n3.2
              obtain ⟨v0, hv⟩ := Int.eq_ofNat_of_zero_le n4
              have h2 := decI_le (x := v0) (by omega)
              rw [← hv] at h2
              simp [fillL, lineT, kFill]
              omega
            have hsz : ∀ l : List Fl, (∀ f ∈ l, f ∈ d.fs) → l.length < 1000 → (d.ws.flatMap (recT kWare) ++ d.ts.flatMap (recT kTip) ++ l.flatMap fun f => lineT (fillL f)).length ≤ 200000 := by
              intro l hl hl2
              have h1 := flat_len9 (fun f => lineT (fillL f)) 100 l (fun f hf => hFl f (hl f hf))
              have h2 := flat_len9 (recT kWare) 1000 d.ws (fun r hr => by obtain ⟨x, y, z, hR⟩ := hNW r hr; exact recT_len (by decide) hR)
              have h3 := flat_len9 (recT kTip) 1000 d.ts (fun r hr => by obtain ⟨x, y, z, hR⟩ := hNT r hr; exact recT_len (by decide) hR)
              rw [List.length_append, List.length_append]
              omega
            by_cases hlt : i < d.fs.length
            · have hlB : decide ((i : Int) < (d.fs.length : Int)) = true := decide_eq_true (by omega)
              have hlI : (i : Int) < (d.fs.length : Int) := by omega
              have hi0 : (0 : Int) ≤ (i : Int) := by omega
              have wk1 : IntKind.i64.wrap ((i : Int) + 1) = (i : Int) + 1 := by rw [IntKind.wrap_i64]; omega
              obtain ⟨g, cap, e1, _, _, hr⟩ := h.fs.at_ hlt
              obtain ⟨rfl, _, rfl⟩ : co = some g ∧ True ∧ cc = cap := by simpa using e1
              obtain ⟨F, hF⟩ : ∃ F, d.fs[i]? = some F := ⟨_, List.getElem?_eq_getElem hlt⟩
              have hFe : d.fs[i] = F := by rw [List.getElem?_eq_getElem hlt] at hF; simpa using hF
              rw [hFe] at hr
              have qW := hP.tn.toB hW3 hBB
              obtain ⟨g0, g1, g2, g3⟩ := hr.keepB qW
              obtain ⟨n1, n2, n3, n4, n5⟩ := hNF F (List.mem_of_getElem? hF)
              have hsz1 := hsz (d.fs.take i) (fun f hf => List.mem_of_mem_take hf) (by rw [List.length_take]; omega)
              have hT1 : (d.ws.flatMap (recT kWare) ++ d.ts.flatMap (recT kTip) ++ (d.fs.take (i + 1)).flatMap fun f => lineT (fillL f)) = (d.ws.flatMap (recT kWare) ++ d.ts.flatMap (recT kTip) ++ (d.fs.take i).flatMap fun f => lineT (fillL f)) ++ lineT (fillL F) := by rw [take_flat hF]; first | done | simp
              generalize (d.ws.flatMap (recT kWare) ++ d.ts.flatMap (recT kTip) ++ (d.fs.take i).flatMap fun f => lineT (fillL f)) = T at *
              have hwl := wellT_len n1 n2.1 n2.2 n3.1 n3.2
              obtain ⟨v0, hv⟩ := Int.eq_ofNat_of_zero_le n4
              obtain ⟨N, R, C, VV⟩ := F
              simp only at g0 g1 g2 g3 n1 n2 n3 n4 n5 hwl hv
              subst hv
              obtain ⟨W1, hW1⟩ : ∃ W1, wo.alloc (.cells #[.string N, .int .i64 R, .int .i64 C, .int .i64 (v0 : Int)] 41) = W1 := ⟨_, rfl⟩
              have oS := obj_new wo (.cells #[.string N, .int .i64 R, .int .i64 C, .int .i64 (v0 : Int)] 41)
              have hPa := hP.alloc #[.string N, .int .i64 R, .int .i64 C, .int .i64 (v0 : Int)] 41
              rw [hW1] at oS hPa
              have kA : ∀ (w' : World) (G : Nat), w'.heap[G]? = some (.cells #[.string N, .int .i64 R, .int .i64 C, .int .i64 (v0 : Int)] 41 (0, 0)) → w'.cell? ⟨G, 0, none⟩ = some (.string N) ∧ w'.cell? ⟨G, 1, none⟩ = some (.int .i64 R) ∧ w'.cell? ⟨G, 2, none⟩ = some (.int .i64 C) ∧ w'.cell? ⟨G, 3, none⟩ = some (.int .i64 (v0 : Int)) :=
                fun w' G oS' => ⟨obj_cell oS' 0, obj_cell oS' 1, obj_cell oS' 2, obj_cell oS' 3⟩
              have cW : ∀ w', B W1 w' → Calls Tryz.prog 31 #[.agg #[.string N, .int .i64 R, .int .i64 C]] w' fun e w'' => e = .returned (.string (strB (wellT N R C))) ∧ B w' w'' :=
                fun w' q => wtx_any N R C n1 n2.1 n2.2 n3.1 n3.2 w' ((hPa.b q).t10.tab (bd_size (hPa.b q).bd))
              have cP : ∀ w6 g, B W1 w6 → w6.heap[g]? = some (.cells ([v0].map fun (x : Nat) => Value.int .i64 (x : Int)).toArray 2 (0, 0)) → Calls Tryz.prog 29 #[.pointer (some ⟨BB, 0, none⟩), .string ({ data := #[102, 105, 108, 108] } : ByteArray), .string (strB (wellT N R C)), .slice (some ⟨g, 0, none⟩) ([v0] : List Nat).length ([v0] : List Nat).length] w6 fun e w' => e = .returned (.tuple #[]) ∧ PSt BB BB (T ++ lineT (kFill :: wellT N R C :: [v0].map fun (x : Nat) => decI (x : Int))) w3 w' :=
                fun w6 g q6 o6 => pl_any kFill (wellT N R C) [v0] (by omega) (by decide) (by omega) (by simp) (by intro x hx; simp only [List.mem_cons, List.not_mem_nil, or_false] at hx; rw [hx]; omega) _ _ (hPa.b q6) ⟨g, rfl, o6⟩
              have hrT : lineT (fillL ⟨N, R, C, (v0 : Int)⟩) = lineT (kFill :: wellT N R C :: [v0].map fun (x : Nat) => decI (x : Int)) := rfl
              rw [hrT] at hT1
              generalize lineT (kFill :: wellT N R C :: [v0].map fun (x : Nat) => decI (x : Int)) = LN at *
              generalize strB (wellT N R C) = WT at *
              have HU := Lib.hid (And.intro hT1 (And.intro trivial hlt))
              clear hT1 hF hFe e1 hrT hsz1 hlt hsz hFl
              go_wp2_with fail
              try rw [hW1]
              obtain ⟨G, hG⟩ : ∃ G, wo.heap.size = G := ⟨_, rfl⟩
              rw [hG] at oS
              try rw [hG]
              have kB : ∀ w', B W1 w' → w'.cell? ⟨G, 0, none⟩ = some (.string N) ∧ w'.cell? ⟨G, 1, none⟩ = some (.int .i64 R) ∧ w'.cell? ⟨G, 2, none⟩ = some (.int .i64 C) ∧ w'.cell? ⟨G, 3, none⟩ = some (.int .i64 (v0 : Int)) := fun w' q => kA w' G (q.obj oS)
              clear kA oS hPa hP hW1 g0 g1 g2 g3 hr n1 n2 n3 n4 n5 hG
              refine wp_region_noPanic ?_
              refine wp_region_slots [(0, 62), (1, 63), (2, 64), (3, 65), (4, 66), (5, 67)] [(6, 2)] [0, 1, 2, 0, 8, 16, 36] [0, 1, 2, 0, 8, 16, 36] [0, 1, 3, 0, 8, 24, 63] 63 [(fun v _ => v = .pointer (some ⟨G, 0, none⟩)), (fun v _ => v = .agg #[.string N, .int .i64 R, .int .i64 C]), (fun v _ => v = .string WT), (fun v _ => v = .pointer (some ⟨G, 3, none⟩)), (fun v _ => v = (.int .i64 (v0 : Int))), (fun v w => NumRow w v [v0])] (by kernel_rfl) (by kernel_rfl) (fun _ _ _ _ h => h) ⟨slot_val _, slot_val _, slot_val _, slot_val _, slot_val _, slot_num _, trivial⟩ ⟨?_, ?_, ?_, ?_, ?_, ?_, trivial⟩ ?_
              · intro f w' hf hB
                clear hf
                refine slot_op rfl (fun _ => rfl) (fun T hT K hK => ?_)
                simp only [putsL, List.set_cons_zero, List.set_cons_succ] at hT
                subst hT
                go_simp
                exact hK.out _ _ rfl (B.refl _)
              · intro f w' hf hB
                have h0 : slotOf [(fun v _ => v = .pointer (some ⟨G, 0, none⟩)), (fun v _ => v = .agg #[.string N, .int .i64 R, .int .i64 C]), (fun v _ => v = .string WT), (fun v _ => v = .pointer (some ⟨G, 3, none⟩)), (fun v _ => v = (.int .i64 (v0 : Int))), (fun v w => NumRow w v [v0])] 0 (f 0) w' := hf (0, 62) (by simp) (by rfl)
                clear hf
                have e0 : f 0 = .pointer (some ⟨G, 0, none⟩) := h0
                obtain ⟨k0, k1, k2, k3⟩ := kB _ hB
                refine slot_op rfl (fun _ => rfl) (fun T hT K hK => ?_)
                simp only [putsL, List.set_cons_zero, List.set_cons_succ, e0] at hT
                subst hT
                go_simp
                exact hK.out _ _ rfl (B.refl _)
              · intro f w' hf hB
                have h1 : slotOf [(fun v _ => v = .pointer (some ⟨G, 0, none⟩)), (fun v _ => v = .agg #[.string N, .int .i64 R, .int .i64 C]), (fun v _ => v = .string WT), (fun v _ => v = .pointer (some ⟨G, 3, none⟩)), (fun v _ => v = (.int .i64 (v0 : Int))), (fun v w => NumRow w v [v0])] 1 (f 1) w' := hf (1, 63) (by simp) (by rfl)
                clear hf
                have e1 : f 1 = .agg #[.string N, .int .i64 R, .int .i64 C] := h1
                refine slot_op rfl (fun _ => rfl) (fun T hT K hK => ?_)
                simp only [putsL, List.set_cons_zero, List.set_cons_succ, e1] at hT
                subst hT
                go_simp
                (with_reducible refine (cW _ hB).mono ?_)
                rintro e w2 ⟨rfl, q⟩
                exact hK.out _ _ rfl q
              · intro f w' hf hB
                clear hf
                refine slot_op rfl (fun _ => rfl) (fun T hT K hK => ?_)
                simp only [putsL, List.set_cons_zero, List.set_cons_succ] at hT
                subst hT
                go_simp
                exact hK.out _ _ rfl (B.refl _)
              · intro f w' hf hB
                have h3 : slotOf [(fun v _ => v = .pointer (some ⟨G, 0, none⟩)), (fun v _ => v = .agg #[.string N, .int .i64 R, .int .i64 C]), (fun v _ => v = .string WT), (fun v _ => v = .pointer (some ⟨G, 3, none⟩)), (fun v _ => v = (.int .i64 (v0 : Int))), (fun v w => NumRow w v [v0])] 3 (f 3) w' := hf (3, 65) (by simp) (by rfl)
                clear hf
                have e3 : f 3 = .pointer (some ⟨G, 3, none⟩) := h3
                obtain ⟨k0, k1, k2, k3⟩ := kB _ hB
                refine slot_op rfl (fun _ => rfl) (fun T hT K hK => ?_)
                simp only [putsL, List.set_cons_zero, List.set_cons_succ, e3] at hT
                subst hT
                go_simp
                exact hK.out _ _ rfl (B.refl _)
              · intro f w' hf hB
                have h4 : slotOf [(fun v _ => v = .pointer (some ⟨G, 0, none⟩)), (fun v _ => v = .agg #[.string N, .int .i64 R, .int .i64 C]), (fun v _ => v = .string WT), (fun v _ => v = .pointer (some ⟨G, 3, none⟩)), (fun v _ => v = (.int .i64 (v0 : Int))), (fun v w => NumRow w v [v0])] 4 (f 4) w' := hf (4, 66) (by simp) (by rfl)
                clear hf
                have e4 : f 4 = (.int .i64 (v0 : Int)) := h4
                refine slot_op rfl (fun _ => rfl) (fun T hT K hK => ?_)
                simp only [putsL, List.set_cons_zero, List.set_cons_succ, e4] at hT
                subst hT
                go_simp
                exact hK.out _ _ ⟨_, rfl, obj_new _ _⟩ ((B.refl _).alloc _ _)
              · intro f w' hf hB T hT
                have h2 : f 2 = _ := hf (2, 64) (by simp)
                have h8 : slotOf [(fun v _ => v = .pointer (some ⟨G, 0, none⟩)), (fun v _ => v = .agg #[.string N, .int .i64 R, .int .i64 C]), (fun v _ => v = .string WT), (fun v _ => v = .pointer (some ⟨G, 3, none⟩)), (fun v _ => v = (.int .i64 (v0 : Int))), (fun v w => NumRow w v [v0])] 5 (f 5) w' := hf (5, 67) (by simp)
                obtain ⟨g, e8, o8⟩ := h8
                clear hf
                simp only [putsL, List.set_cons_zero, List.set_cons_succ, h2, e8] at hT
                subst hT
                have cP1 := cP w' g hB o8
                clear cP cW kB o8 e8 h2 hB
                refine wpSeq_call rfl (by kernel_rfl) (fun K hK => ?_)
                go_simp
                (with_reducible refine (Calls.mono cP1 ?_))
                rintro _ w7 ⟨rfl, P7⟩
                refine hK.out _ _ trivial (fun _ => ?_)
                clear hK cP1
                refine wpSeq_done ?_
                refine NoPanic.normal ?_
                have HP7 := Lib.hid P7
                clear P7
                go_wp2
                go_roundw
                case rel =>
                  obtain ⟨u1, u2, u3⟩ := HU.out
                  refine ⟨i + 1, by omega, by go_num, ?_⟩
                  rw [u1]
                  simpa using HP7.out
                case measure => have := HU.out.2.2; simp [intOf]; omega
            · have hlB : decide ((i : Int) < (d.fs.length : Int)) = false := decide_eq_false (by omega)
              obtain rfl : i = d.fs.length := by omega
              rw [List.take_length] at hP
              have hs := hsz d.fs (fun f hf => hf) hfs
              have qW := hP.tn.toB hW3 hBB
              have cS := str_of_any BB BB _ wo hP.bd (bd_size hP.bd)
              have hE2 := hE.out
              generalize (d.ws.flatMap (recT kWare) ++ d.ts.flatMap (recT kTip) ++ d.fs.flatMap fun f => lineT (fillL f)) = TX at cS hE2
              have hE3 := Lib.hid hE2
              clear hsz hFl hP hE2
              go_wp2_with fail
              refine cS.mono ?_
              rintro _ w7 ⟨rfl, k7⟩
              go_wp2
              go_ret
              exact ⟨by rw [hE3.out]; rfl, ⟨qW.below.trans (k7.mono hBB)⟩⟩
end Go.Proofs.YtflklpflpjdbmaaGreatDoor

namespace Go.Proofs.YtflklpflpjdbmaaGreatDoor
open Go.RowKit
theorem B.allocM {a w : World} (h : B a w) (o : Obj) : B a (w.alloc o) := ⟨h.below.alloc h.below.size _⟩
/-- The cells of bytes. -/
def cellsB (bs : List UInt8) : Array Value := (bs.map fun c => Value.int .u8 ((c.toNat : Nat) : Int)).toArray
theorem isB_const (w : World) (bs : List UInt8) (t : TypeId) (fr : Nat × Nat) (h : bs.length ≤ maxLen) : IsB (w.alloc (.cells (cellsB bs) t fr)) (some ⟨w.heap.size, 0, none⟩) bs.length w.heap.size 0 bs := by
  refine ⟨fun i c hc => ?_, fun _ => rfl, Nat.le_refl _, h⟩
  rw [Nat.zero_add, World.cell?_alloc_mark]
  simp [cellsB, hc]
end Go.Proofs.YtflklpflpjdbmaaGreatDoor

namespace Go.Proofs.YtflklpflpjdbmaaGreatDoor
open Go.RowKit
set_option linter.unusedVariables false
def k9T : List UInt8 := [119, 97, 114, 101, 32, 112, 32, 49, 32, 50, 32, 53, 10, 114, 111, 117, 110, 100, 32, 49, 48, 48, 32, 53, 32, 53, 10, 102, 105, 108, 108, 32, 112, 46, 65, 50, 32, 55, 10, 117, 115, 101, 32, 116]
def k9D : Dk := ⟨[⟨strB [112], 1, 2, 5, [⟨true, 100, 5, 0, 5, 0⟩]⟩], [], [⟨strB [112], 0, 1, 7⟩]⟩
def k9R : List (List Wd) := [[(39, [117, 115, 101]), (43, [116])]]
def k9L : List (List Wd) := (linesB k9T).1
theorem k9_lines : linesB k9T = (k9L, 0, 0) := by kernel_rfl
theorem k9_parse : parseD k9L dk0 0 0 = (k9D, k9R, 0, 0) := by kernel_rfl
theorem k9_all : (k9L.all fun ws => decide (0 < ws.length) && decide (ws.length ≤ 65536) && ws.all (fun x => decide (x.2.length ≤ 65536))) = true := by kernel_rfl
theorem k9_len : decide (k9L.length ≤ 65536) = true := by kernel_rfl
def k9B : List (List Wd) := [[(3, [114, 111, 117, 110, 100])]]
theorem k9_parseB : parseD k9B dk0 0 0 = (dk0, [], 3, 24) := by kernel_rfl
theorem k9_right : rightD k9D = true := by kernel_rfl
def k9P : List UInt8 := [119, 97, 114, 101, 32, 112, 32, 49, 32, 50, 32, 53, 10, 114, 111, 117, 110, 100, 32, 49, 48, 48, 32, 53, 32, 53, 10, 102, 105, 108, 108, 32, 112, 46, 65, 50, 32, 55, 10]
theorem dec_one {n : Nat} (h : n < 10) : Lib.decDigits n = [UInt8.ofNat (48 + n)] := by rw [Lib.decDigits, dif_pos h]
theorem k9_text : textD k9D = k9P := by
  unfold textD
  rw [k9_right, if_pos rfl]
  have d1 : decI 1 = [49] := dec_one (by decide)
  have d2 : decI 2 = [50] := dec_one (by decide)
  have d5 : decI 5 = [53] := dec_one (by decide)
  have d7 : decI 7 = [55] := dec_one (by decide)
  have d100 : decI 100 = [49, 48, 48] := by
    show Lib.decDigits 100 = _
    rw [Lib.decDigits, dif_neg (by decide), show 100 / 10 = 10 from rfl, Lib.decDigits, dif_neg (by decide), show 10 / 10 = 1 from rfl, dec_one (by decide)]
    rfl
  have hw : wellT ({ data := #[112] } : ByteArray) 0 1 = [112, 46, 65, 50] := by
    rw [wellT_ok (by kernel_rfl) (by decide) (by decide) (by decide) (by decide), show (1 : Int) + 1 = 2 from rfl, d2]
    rfl
  simp only [deckL, k9D, recL, secL, fillL, List.flatMap_cons, List.flatMap_nil, List.map_cons, List.map_nil, List.append_nil, if_true, d1, d2, d5, d7, d100, hw, List.cons_append, List.nil_append, lineT, kWare, kRound, kFill, k9P, strB]
end Go.Proofs.YtflklpflpjdbmaaGreatDoor

namespace Go.Proofs.YtflklpflpjdbmaaGreatDoor
open Go.RowKit
set_option linter.unusedVariables false
def ck9 : Array Value := #[.int .u8 119, .int .u8 97, .int .u8 114, .int .u8 101, .int .u8 32, .int .u8 112, .int .u8 32, .int .u8 49, .int .u8 32, .int .u8 50, .int .u8 32, .int .u8 53, .int .u8 10, .int .u8 114, .int .u8 111, .int .u8 117, .int .u8 110, .int .u8 100, .int .u8 32, .int .u8 49, .int .u8 48, .int .u8 48, .int .u8 32, .int .u8 53, .int .u8 32, .int .u8 53, .int .u8 10, .int .u8 102, .int .u8 105, .int .u8 108, .int .u8 108, .int .u8 32, .int .u8 112, .int .u8 46, .int .u8 65, .int .u8 50, .int .u8 32, .int .u8 55, .int .u8 10, .int .u8 117, .int .u8 115, .int .u8 101, .int .u8 32, .int .u8 116]
theorem ck9_eq : cellsB k9T = ck9 := rfl
theorem isLn_lit (w : World) (N M : Nat) (hN : w.heap.size = N) (hM : N + 1 = M) : IsLnO ((w.alloc (.cells #[.int .i64 3, .string ⟨#[114, 111, 117, 110, 100]⟩] 71)).alloc (.cells #[.slice (some ⟨N, 0, none⟩) 1 1] 72)) (.slice (some ⟨M, 0, none⟩) 1 1) k9B := by
  subst hN hM
  have o1 := obj_past (obj_new w (.cells #[.int .i64 3, .string ⟨#[114, 111, 117, 110, 100]⟩] 71)) (.cells #[.slice (some ⟨w.heap.size, 0, none⟩) 1 1] 72)
  have o2 := obj_new (w.alloc (.cells #[.int .i64 3, .string ⟨#[114, 111, 117, 110, 100]⟩] 71)) (.cells #[.slice (some ⟨w.heap.size, 0, none⟩) 1 1] 72)
  rw [show (w.alloc (.cells #[.int .i64 3, .string ⟨#[114, 111, 117, 110, 100]⟩] 71)).heap.size = w.heap.size + 1 by simp] at o2
  refine .inr ⟨_, 0, 1, rfl, by decide, by decide, fun i L hL => ?_⟩
  match i, hL with
  | 0, hL =>
    obtain rfl := Option.some.inj hL
    refine ⟨.slice (some ⟨w.heap.size, 0, none⟩) 1 1, obj_cell o2 0, .inr ⟨w.heap.size, 1, rfl, by decide, by decide, fun k x hx => ?_⟩⟩
    match k, hx with
    | 0, hx =>
      obtain rfl := Option.some.inj hx
      exact ⟨obj_cell o1 0, obj_cell o1 1⟩
    | n + 1, hx => simp at hx
  | n + 1, hL => simp [k9B] at hL
set_option maxRecDepth 100000 in
set_option maxHeartbeats 4000000 in
theorem known9_any (w : World) (htab : Lib.TabIs Tryz.prog w "internal/strconv.uint64pow10" .u64 Lib.pow10Tab) : Calls Tryz.prog 7 #[] w fun e w' => e = .returned (.bool true) ∧ B w w' := by
  have hk1 := Lib.run_convert_bytes_const (P := Tryz.prog) w 47 5 (cellsB k9T) 44 44 Tryz.underlying47 Tryz.underlying5
  have hB1 := (B.refl w).allocM (.cells (cellsB k9T) 5 (44, 45))
  have c1 : Calls Tryz.prog 24 #[.slice (some ⟨w.heap.size, 0, none⟩) 44 44] (w.alloc (.cells (cellsB k9T) 5 (44, 45))) (LinesRes k9T (w.alloc (.cells (cellsB k9T) 5 (44, 45)))) :=
    lines_any (some ⟨w.heap.size, 0, none⟩) w.heap.size 0 44 k9T _ (isB_const w k9T _ _ (by decide))
  rw [ck9_eq] at hk1 hB1 c1
  unfold ck9 at hk1 hB1 c1
  go_enter Tryz.func7, Tryz.ntmps7
  go_wp2_with fail
  refine c1.mono ?_
  unfold LinesRes
  rw [k9_lines]
  rintro e w1 ⟨v, rfl, hv, q1⟩
  clear hk1 c1
  have B1 := hB1.trans q1
  clear hB1 q1
  have hall := k9_all
  rw [List.all_eq_true] at hall
  simp only [Bool.and_eq_true, decide_eq_true_eq, List.all_eq_true] at hall
  have c2 := parse_any v k9L w1 hv.lnO (fun ws h => (hall ws h).1.1) (of_decide_eq_true k9_len) (fun ws h => (hall ws h).1.2) (fun ws h x hx => (hall ws h).2 x hx)
  unfold ParseRes at c2
  rw [k9_parse] at c2
  clear hall
  go_wp2_with fail
  refine c2.mono ?_
  rintro e w2 ⟨wv, tv, fv, rv, rfl, hD, hR, q2⟩
  clear c2
  have B2 := B1.trans q2
  clear B1 q2
  obtain ⟨ao, ac, bo, bc, co, cc, e1, e2, e3⟩ := hD.forms
  obtain rfl : wv = .slice ao 1 ac := e1
  obtain rfl : tv = .slice bo 0 bc := e2
  obtain rfl : fv = .slice co 1 cc := e3
  obtain ⟨ro, rc, e4⟩ := hR.form
  obtain rfl : rv = .slice ro 1 rc := e4
  clear hv
  obtain ⟨N, hN⟩ : ∃ N, w2.heap.size = N := ⟨_, rfl⟩
  have oD := obj_new w2 (.cells #[.slice ao 1 ac, .slice bo 0 bc, .slice co 1 cc] 26)
  have B3 := (B.refl w2).alloc #[.slice ao 1 ac, .slice bo 0 bc, .slice co 1 cc] 26
  have hz3 : (w2.alloc (.cells #[.slice ao 1 ac, .slice bo 0 bc, .slice co 1 cc] 26)).heap.size = N + 1 := by rw [← hN]; simp
  rw [hN] at oD
  obtain ⟨W3, hW3⟩ : ∃ W3, w2.alloc (.cells #[.slice ao 1 ac, .slice bo 0 bc, .slice co 1 cc] 26) = W3 := ⟨_, rfl⟩
  rw [hW3] at oD B3 hz3
  have c3 := words9_any _ k9B _ (isLn_lit W3 (N + 1) (N + 1 + 1) hz3 rfl) (by intro L hL; rw [List.mem_singleton.1 hL]; decide) (by decide) (by intro L hL; rw [List.mem_singleton.1 hL]; decide)
  have B5 := ((B.refl W3).alloc #[.int .i64 3, .string ⟨#[114, 111, 117, 110, 100]⟩] 71).alloc #[.slice (some ⟨N + 1, 0, none⟩) 1 1] 72
  go_wp2_with fail
  try rw [hN]
  try rw [hW3]
  refine c3.mono ?_
  rintro e w6 ⟨u, vs, rfl, hO, q6⟩
  clear c3 hz3
  have c4 := parse_any u k9B w6 hO.is.lnO (by intro L hL; rw [List.mem_singleton.1 hL]; decide) (by decide) (by intro L hL; rw [List.mem_singleton.1 hL]; decide) (by intro L hL; rw [List.mem_singleton.1 hL]; decide)
  unfold ParseRes at c4
  rw [k9_parseB] at c4
  go_wp2_with fail
  refine c4.mono ?_
  rintro e w7 ⟨wv2, tv2, fv2, rv2, rfl, hD2, _, q7⟩
  clear c4 hO hW3
  have hro := hR.form
  obtain ⟨x1, y1, x2, y2, x3, y3, z1, z2, z3⟩ := hD2.forms
  obtain rfl : wv2 = .slice x1 0 y1 := z1
  obtain rfl : tv2 = .slice x2 0 y2 := z2
  obtain rfl : fv2 = .slice x3 0 y3 := z3
  have B7 := (B5.trans q6).trans q7
  have B8 := B7.alloc #[.slice x1 0 y1, .slice x2 0 y2, .slice x3 0 y3] 26
  have oD8 := B8.obj oD
  have hD8 := hD.keepB (B3.trans B8)
  have B08 := (B2.trans B3).trans B8
  obtain ⟨a, cp, e5, _, _, f0, f1, f2, f3⟩ := hD8.fs.at_ (i := 0) (by decide)
  obtain rfl : co = some a := by
    simp only [Value.slice.injEq] at e5
    exact e5.1
  clear q6 q7 B5 B7 B2 B3 oD hD hD2 B8
  have d0 := obj_cell oD8 0
  have d1 := obj_cell oD8 1
  have d2 := obj_cell oD8 2
  have f2' : (w7.alloc (.cells #[.slice x1 0 y1, .slice x2 0 y2, .slice x3 0 y3] 26)).cell? ⟨a.block, a.off + 2, none⟩ = some (.int .i64 1) := by
    have e := f2
    rw [show a.add (0 * 4) = a.add 0 from rfl, show (k9D.fs[0]).c = 1 from rfl] at e
    unfold Addr.add at e
    simpa using e
  clear f0 f1 f2 f3
  obtain ⟨W8, hW8⟩ : ∃ W8, w7.alloc (.cells #[.slice x1 0 y1, .slice x2 0 y2, .slice x3 0 y3] 26) = W8 := ⟨_, rfl⟩
  rw [hW8] at d0 d1 d2 f2' oD8 hD8 B08
  have cR := right9_any _ _ _ k9D _ hD8 (by intro r hr; rw [List.mem_singleton.1 hr]; decide) (by intro r hr; rw [List.mem_singleton.1 hr]; exact ⟨by decide, by decide⟩) (by intro r hr; cases hr) (by intro r hr; rw [List.mem_singleton.1 hr]; exact ⟨by decide, by decide, by decide⟩) (by decide)
  rw [k9_right] at cR
  clear hro
  go_wp2_with fail
  try rw [hW8]
  refine cR.mono ?_
  rintro _ w9 ⟨rfl, q9⟩
  have hD9 := hD8.keepB q9
  have oD9 := q9.obj oD8
  have cP := print9_any _ _ _ k9D w9 hD9 (by intro r hr; rw [List.mem_singleton.1 hr]; decide) (by intro r hr; rw [List.mem_singleton.1 hr]; exact ⟨by decide, by decide⟩) (by intro r hr; cases hr) (by intro r hr; rw [List.mem_singleton.1 hr]; exact ⟨by decide, by decide, by decide⟩) (by decide) (Lib.TabBelow.here ((Lib.tabBelow_of_tabIs htab).on (B08.trans q9).below))
  rw [k9_text] at cP
  have m0 := obj_cell oD9 0
  have m1 := obj_cell oD9 1
  have m2 := obj_cell oD9 2
  have B09 := B08.trans q9
  clear cR hD8 hD9 oD8 oD9 q9 d0 d1 d2 f2' hW8
  go_wp2_with fail
  refine cP.mono ?_
  rintro _ w10 ⟨rfl, q10⟩
  clear cP
  have HB := Lib.hid (B09.trans q10)
  have hstr : ((strB k9P).toList == [119, 97, 114, 101, 32, 112, 32, 49, 32, 50, 32, 53, 10, 114, 111, 117, 110, 100, 32, 49, 48, 48, 32, 53, 32, 53, 10, 102, 105, 108, 108, 32, 112, 46, 65, 50, 32, 55, 10]) = true := by
    rw [toList_data]
    rfl
  clear B09 B08 q10
  go_wp2
  go_ret
  exact ⟨rfl, HB.out⟩
end Go.Proofs.YtflklpflpjdbmaaGreatDoor

namespace Go.Proofs.YtflklpflpjdbmaaGreatDoor
open Go.RowKit
def errTs : List (List UInt8) := [
  [119, 97, 114, 101, 32, 112, 32, 57, 32, 50, 32, 53],
  [119, 97, 114, 101, 32, 112, 32, 49, 32, 49, 51, 32, 53],
  [119, 97, 114, 101, 32, 112, 32, 49, 32, 50, 32, 49, 48, 48, 48, 48, 48, 49],
  [119, 97, 114, 101, 32, 80, 32, 49, 32, 50, 32, 53],
  [119, 97, 114, 101, 32, 112, 32, 49, 32, 50],
  [114, 111, 117, 110, 100, 32, 49, 48, 48, 32, 53, 32, 53],
  [116, 105, 112, 32, 116, 32, 48, 32, 53, 32, 53, 10, 114, 111, 117, 110, 100, 32, 49, 48, 48, 32, 53, 32, 53],
  [116, 105, 112, 32, 116, 32, 53, 32, 53, 32, 49, 48, 48, 48, 49, 10, 114, 111, 117, 110, 100, 32, 49, 48, 48, 32, 53, 32, 53],
  [102, 105, 108, 108, 32, 112, 46, 65, 49, 32, 53],
  [119, 97, 114, 101, 32, 112, 32, 49, 32, 50, 32, 53, 10, 114, 111, 117, 110, 100, 32, 49, 53, 48, 32, 53, 32, 53],
  [119, 97, 114, 101, 32, 112, 32, 49, 32, 50, 32, 53, 10, 114, 111, 117, 110, 100, 32, 49, 48, 48, 32, 53, 32, 53, 10, 102, 105, 108, 108, 32, 112, 46, 65, 51, 32, 53],
  [119, 97, 114, 101, 32, 112, 32, 49, 32, 50, 32, 53, 10, 114, 111, 117, 110, 100, 32, 49, 48, 48, 32, 53, 32, 53, 10, 102, 105, 108, 108, 32, 112, 46, 65, 50, 32, 50, 48, 48, 48, 48, 48, 48, 49],
  [119, 97, 114, 101, 32, 112, 32, 49, 32, 50, 32, 53, 10, 114, 111, 117, 110, 100, 32, 49, 48, 48, 32, 53, 32, 53, 10, 119, 97, 114, 101, 32, 112, 32, 49, 32, 50, 32, 53],
  [116, 105, 112, 32, 116, 32, 53, 32, 53, 32, 53, 10, 98, 111, 120, 32, 49, 48, 48, 32, 53, 32, 53, 32, 53],
  [119, 97, 114, 101, 32, 112, 32, 49, 32, 50, 32, 53],
  [119, 97, 114, 101, 32, 112, 32, 49, 32, 50, 32, 53, 10, 114, 111, 117, 110, 100, 32, 49, 48, 48, 32, 53, 32, 120],
  [119, 97, 114, 101, 32, 112, 32, 49, 32, 50, 32, 53, 10, 114, 111, 117, 110, 100, 32, 49, 48, 48, 32, 53, 32, 53, 10, 102, 105, 108, 108, 32, 112, 46, 65, 49, 32, 53, 10, 114, 111, 117, 110, 100, 32, 49, 48, 48, 32, 53, 32, 53],
  [119, 97, 114, 101, 32, 112, 32, 49, 32, 50, 32, 53, 10, 114, 111, 117, 110, 100, 32, 49, 48, 48, 32, 53, 32, 53, 10, 102, 105, 108, 108, 32, 112, 46, 65, 49, 32, 53, 10, 102, 105, 108, 108, 32, 112, 46, 65, 49, 32, 54]]
/-- A comment ahead, as the statement makes it. -/
def errUp (s : List UInt8) : List UInt8 := [35, 32] ++ s.take 1 ++ [10] ++ s
def errT (k n : Nat) : List UInt8 := match n with
  | 0 => errTs.getD k []
  | n + 1 => errUp (errT k n)
def fineL (L : List (List Wd)) : Bool := decide (L.length ≤ 65536) && L.all fun ws => decide (0 < ws.length) && decide (ws.length ≤ 65536) && ws.all (fun x => decide (x.2.length ≤ 65536))
theorem fineL_parts {L : List (List Wd)} (h : fineL L = true) : (∀ ws ∈ L, 0 < ws.length) ∧ L.length ≤ 65536 ∧ (∀ ws ∈ L, ws.length ≤ 65536) ∧ ∀ ws ∈ L, ∀ x ∈ ws, x.2.length ≤ 65536 := by
  unfold fineL at h
  simp only [Bool.and_eq_true, decide_eq_true_eq, List.all_eq_true] at h
  exact ⟨fun ws hw => (h.2 ws hw).1.1, h.1, fun ws hw => (h.2 ws hw).1.2, fun ws hw x hx => (h.2 ws hw).2 x hx⟩
def errOk (k n : Nat) : Bool := fineL (linesB (errT k n)).1 && decide ((parseD (linesB (errT k n)).1 dk0 0 0).2.2.2 ≠ 0) && decide ((errT k n).length ≤ 200)
theorem err_all : ((List.range 18).all fun k => (List.range 4).all fun n => errOk k n) = true := by kernel_rfl
theorem err_ok {k n : Nat} (hk : k < 18) (hn : n < 4) : errOk k n = true := by
  have h := err_all
  rw [List.all_eq_true] at h
  have h1 := h k (List.mem_range.2 hk)
  rw [List.all_eq_true] at h1
  exact h1 n (List.mem_range.2 hn)
/-- WareMany's texts. -/
def manyLine (tips : Bool) (i : Nat) : List UInt8 := (if tips then [116, 105, 112, 32, 116] else [119, 97, 114, 101, 32, 119]) ++ (if i < 10 then [UInt8.ofNat (48 + i)] else [49, UInt8.ofNat (48 + (i - 10))]) ++ (if tips then [32, 53, 32, 53, 32, 53, 10] else [32, 49, 32, 49, 32, 53, 10]) ++ [114, 111, 117, 110, 100, 32, 49, 48, 48, 32, 53, 32, 53, 10]
def manyT (tips : Bool) : Nat → List UInt8
  | 0 => []
  | n + 1 => manyT tips n ++ manyLine tips n
def manyOk (tips : Bool) (k : Nat) : Bool :=
  let L := (linesB (manyT tips k)).1
  let r := parseD L dk0 0 0
  fineL L && decide ((manyT tips k).length ≤ 1000) && (if (if tips then 4 else 8) < k then decide (r.2.2.2 = 27) && decide (r.1.ws.length = 0) else decide (r.2.2.2 = 0) && decide (r.1.ws.length + r.1.ts.length = k))
theorem many_all : ((List.range 11).all fun k => manyOk true k && manyOk false k) = true := by kernel_rfl
theorem many_ok {k : Nat} (hk : k < 11) (tips : Bool) : manyOk tips k = true := by
  have h := many_all
  rw [List.all_eq_true] at h
  have h1 := Bool.and_eq_true_iff.1 (h k (List.mem_range.2 hk))
  cases tips
  · exact h1.2
  · exact h1.1
end Go.Proofs.YtflklpflpjdbmaaGreatDoor

namespace Go.Proofs.YtflklpflpjdbmaaGreatDoor
open Go.RowKit
theorem conv_b (w : World) (e : TypeId) (s : ByteArray) : B w (Lib.bytesWorld w e s) :=
  ⟨Lib.below_freeze (((B.refl w).drew.alloc _ _).below) (p := ⟨w.heap.size, _, none⟩) (Nat.le_refl _) _⟩
theorem isB_conv (w : World) (e : TypeId) (T : List UInt8) (h : T.length ≤ 1000000) : IsB (Lib.bytesWorld w e (strB T)) (some ⟨w.heap.size, 0, none⟩) (grownCap w (strB T).size 0 e) w.heap.size 0 T := by
  have hz : (strB T).size = T.length := strB_size T
  refine ⟨fun i c hc => ?_, fun _ => rfl, ?_, grownCap_le_maxLen _ _ _ _ (by rw [hz]; unfold maxLen; omega)⟩
  · have hi : i < T.length := (List.getElem?_eq_some_iff.1 hc).1
    rw [Nat.zero_add, Lib.bytesWorld_cell w e (strB T) i (by rw [hz]; exact hi)]
    have : (strB T).data.toList.getD i 0 = c := by
      show T.getD i 0 = c
      rw [List.getD_eq_getElem?_getD, hc]
      rfl
    rw [this]
  · rw [← hz]
    exact grownCap_ge _ _ _ _
end Go.Proofs.YtflklpflpjdbmaaGreatDoor
