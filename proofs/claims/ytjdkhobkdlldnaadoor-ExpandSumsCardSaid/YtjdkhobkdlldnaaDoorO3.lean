/-
  A law and what it rests on.
-/
import Derived.Lib.MinMax
import Derived.Laws.StructEq
import Derived.Test.YtjdkhobkdlldnaaDoorY23
namespace Go.Proofs.YtjdkhobkdlldnaaDoor
open Go.RowKit
set_option linter.unusedVariables false

def smP (i : Nat) : Wp := ⟨namePlate, 0, (i : Int)⟩
def smW (m : Nat) : List Wp := (List.range m).map smP
def smD : Dk := seatD 0 20 0 1 []
theorem smW_len (m : Nat) : (smW m).length = m := by unfold smW; rw [List.length_map, List.length_range]
theorem smW_at {m i : Nat} (h : i < m) : (smW m)[i]? = some (smP i) := by unfold smW; rw [List.getElem?_map, List.getElem?_range h]; rfl
theorem smW_snoc (m : Nat) : smW (m + 1) = smW m ++ [smP m] := by unfold smW; rw [List.range_succ, List.map_append]; rfl
theorem sm_in {i : Nat} (h : i < 5) : inD smD (smP i) = true := by
  match i, h with
  | 0, _ => show inD smD (smP 0) = true; kernel_rfl
  | 1, _ => show inD smD (smP 1) = true; kernel_rfl
  | 2, _ => show inD smD (smP 2) = true; kernel_rfl
  | 3, _ => show inD smD (smP 3) = true; kernel_rfl
  | 4, _ => show inD smD (smP 4) = true; kernel_rfl
theorem smW_in {m : Nat} (h : m ≤ 5) : (smW m).all (inD smD) = true := by
  rw [List.all_eq_true]
  intro p hp
  obtain ⟨i, hi, rfl⟩ := List.mem_map.1 hp
  exact sm_in (by have := List.mem_range.1 hi; omega)
theorem smP_t {i : Nat} (h : i < 5) : (smP i).t.isEmpty = false := by
  match i, h with
  | 0, _ => show (smP 0).t.isEmpty = false; kernel_rfl
  | 1, _ => show (smP 1).t.isEmpty = false; kernel_rfl
  | 2, _ => show (smP 2).t.isEmpty = false; kernel_rfl
  | 3, _ => show (smP 3).t.isEmpty = false; kernel_rfl
  | 4, _ => show (smP 4).t.isEmpty = false; kernel_rfl
theorem smW_ok {m : Nat} (h : m ≤ 5) : wellsOk (smW m) = true := by
  unfold wellsOk
  rw [List.all_eq_true]
  intro p hp
  obtain ⟨i, hi, rfl⟩ := List.mem_map.1 hp
  rw [smP_t (by have := List.mem_range.1 hi; omega)]
  rfl
theorem smW_I (m : Nat) (h : m ≤ 5) : WpsI (smW m) := fun p hp => by
  obtain ⟨i, hi, rfl⟩ := List.mem_map.1 hp
  have := List.mem_range.1 hi
  unfold smP I64
  simp only
  omega
theorem sm_run (s : Sp) (hok : stepOk s = true) (h0 : s.k ≠ 0) (h1 : s.k ≠ 1) (hin : s.w.all (inD smD) = true) :
    opsX smD [⟨0, nameT1, [], 0, 0⟩, s] = .ok ⟨nameT1, false, tagX nameT1 false true (movesS s), List.replicate (movesS s).length 1⟩ := by
  have e1 : stepsOk [⟨0, nameT1, [], 0, 0⟩, s] = true := by
    unfold stepsOk
    rw [List.all_cons, List.all_cons, hok, show stepOk ⟨0, nameT1, [], 0, 0⟩ = true by kernel_rfl]
    rfl
  have e2 : stepX smD 0 ⟨0, nameT1, [], 0, 0⟩ xst0 = .ok { xst0 with t := nameT1 } := by
    unfold stepX
    rw [if_pos rfl]
    simp only
    rw [show tipIn smD nameT1 = true by kernel_rfl]
    rfl
  have hl := movesS_len hok h0 h1
  have e3 : stepX smD 1 s { xst0 with t := nameT1 } = .ok ⟨nameT1, false, tagX nameT1 false true (movesS s), List.replicate (movesS s).length 1⟩ := by
    unfold stepX
    rw [if_neg h0, if_neg h1]
    simp only
    rw [show (nameT1.toList == ([] : List UInt8)) = false by kernel_rfl, if_neg (by simp), hin, if_neg (by simp), if_neg (by show ¬ 1000 < 0 + _; omega)]
    rfl
  unfold opsX
  rw [e1, if_pos rfl, runX, e2]
  simp only
  rw [runX, e3]
  rfl
/-- Where the i-th transfer goes from, and to. -/
def smA (k : Int) (i : Nat) : Int := if k = 4 then (i : Int) + 1 else if k = 6 then (i : Int) else 0
def smB (k : Int) (i : Nat) : Int := if k = 4 then 0 else if k = 5 then 0 else (i : Int) + 1
theorem smW_cons (m : Nat) : smW (m + 1) = smP 0 :: (List.range m).map (fun i => smP (i + 1)) := by
  unfold smW
  rw [List.range_succ_eq_map, List.map_cons, List.map_map]
  rfl
theorem sm_at (k v N : Int) (m i : Nat) (hk : k = 3 ∨ k = 4 ∨ k = 6) (hi : i < m) : (movesS ⟨k, ⟨#[]⟩, smW (m + 1), v, N⟩).length = m ∧ (movesS ⟨k, ⟨#[]⟩, smW (m + 1), v, N⟩)[i]? = some (opOf ⟨namePlate, 0, smA k i⟩ ⟨namePlate, 0, smB k i⟩ v) := by
  have hm : (smW m).length = m := smW_len m
  have hr : ((List.range m).map (fun i => smP (i + 1)))[i]? = some (smP (i + 1)) := by rw [List.getElem?_map, List.getElem?_range hi]; rfl
  have hrl : ((List.range m).map (fun i => smP (i + 1))).length = m := by rw [List.length_map, List.length_range]
  rcases hk with rfl | rfl | rfl
  · unfold movesS
    rw [smW_cons]
    simp only
    simp only [or_true, if_true]
    rw [List.length_map, hrl, List.getElem?_map, hr]
    exact ⟨rfl, rfl⟩
  · unfold movesS
    rw [smW_cons]
    simp only
    rw [if_neg (by omega)]
    simp only [if_true]
    rw [List.length_map, hrl, List.getElem?_map, hr]
    exact ⟨rfl, rfl⟩
  · unfold movesS
    rw [smW_cons]
    simp only
    rw [if_neg (by omega), if_neg (by omega), if_neg (by omega), List.length_zipWith, List.length_cons, hrl, List.getElem?_zipWith, hr]
    have hf : (smP 0 :: (List.range m).map (fun i => smP (i + 1)))[i]? = some (smP i) := by rw [← smW_cons]; exact smW_at (by omega)
    rw [hf]
    refine ⟨by omega, ?_⟩
    rfl
theorem sm_mix (v : Int) (N i : Nat) (hi : i < N) : (movesS ⟨5, ⟨#[]⟩, smW 1, v, (N : Int)⟩).length = N ∧ (movesS ⟨5, ⟨#[]⟩, smW 1, v, (N : Int)⟩)[i]? = some (opOf ⟨namePlate, 0, smA 5 i⟩ ⟨namePlate, 0, smB 5 i⟩ v) := by
  have e : movesS ⟨5, ⟨#[]⟩, smW 1, v, (N : Int)⟩ = List.replicate N (opOf (smP 0) (smP 0) v) := by
    show List.replicate (N : Int).toNat _ = _
    rw [Int.toNat_natCast]
  rw [e, List.length_replicate, List.getElem?_replicate, if_pos hi]
  exact ⟨rfl, rfl⟩
theorem tagX_at {t : ByteArray} {M : List Opx} {i : Nat} {x : Opx} (h : M[i]? = some x) : (tagX t false true M)[i]? = some (tag1 t (decide (i = 0)) x) := by
  match M, i, h with
  | y :: M, 0, h =>
    obtain rfl : y = x := by simpa using h
    rfl
  | y :: M, i + 1, h =>
    show (M.map (tag1 t false))[i]? = _
    rw [List.getElem?_map, show M[i]? = some x by simpa using h]
    rfl
theorem sm_ok3 (k V : Int) (m : Nat) (hk : k = 3 ∨ k = 4 ∨ k = 6) (hV : 1 ≤ V ∧ V ≤ 1000) (hm : 2 ≤ m ∧ m ≤ 5) : stepOk ⟨k, ⟨#[]⟩, smW m, V, 0⟩ = true := by
  unfold stepOk
  rw [smW_ok hm.2, Bool.true_and]
  have e1 : inB V 1 20000000 = true := by unfold inB; simp; omega
  have e0 : ((⟨#[]⟩ : ByteArray).toList == ([] : List UInt8)) = true := by kernel_rfl
  unfold stepK
  simp only [smW_len, e1, e0]
  rw [if_neg (by omega), if_neg (by omega), if_neg (by omega), if_pos (by omega)]
  simp
  omega
theorem sm_ok5 (V : Int) (N : Nat) (hV : 1 ≤ V ∧ V ≤ 1000) (hN : 1 ≤ N ∧ N ≤ 20) : stepOk ⟨5, ⟨#[]⟩, smW 1, V, (N : Int)⟩ = true := by
  unfold stepOk
  rw [smW_ok (by omega), Bool.true_and]
  have e1 : inB V 1 20000000 = true := by unfold inB; simp; omega
  have e2 : inB (N : Int) 1 20 = true := by unfold inB; simp; omega
  have e0 : ((⟨#[]⟩ : ByteArray).toList == ([] : List UInt8)) = true := by kernel_rfl
  unfold stepK
  simp only [smW_len, e1, e0, e2]
  rfl
theorem sps_lit2 (w : World) (s1 s2 : Sp) (u : Value) (h1 : s1.w = []) (h2 : IsWps w u s2.w) :
    IsSps (w.alloc (.cells (flatSp [s1, s2] [.slice none 0 0, u]).toArray 27)) (.slice (some ⟨w.heap.size, 0, none⟩) 2 2) [s1, s2] := by
  have hown := World.ownsRow_lit (base := w.heap.size) (e := 27) (size := 5) w (flatSp [s1, s2] [.slice none 0 0, u]).toArray 2 (Nat.le_refl _) (by decide) rfl
  refine sps_own (vs := [.slice none 0 0, u]) rfl hown rfl fun j u' s hu hs => ?_
  match j, hu, hs with
  | 0, hu, hs =>
    cases hu
    cases hs
    rw [h1]
    exact wps_nil _
  | 1, hu, hs =>
    cases hu
    cases hs
    exact h2.keepB ((B.refl _).alloc _ _)
  | n + 2, hu, hs => simp at hu
theorem wps_one {w : World} {g n c : Nat} (h : IsWps w (.slice (some ⟨g, 0, none⟩) n c) (smW n)) (hn : 1 ≤ n) : IsWps w (.slice (some ⟨g, 0, none⟩) 1 c) (smW 1) := by
  rcases h with ⟨h, _⟩ | ⟨a, cap, h1, h2, h3, h4⟩
  · simp at h
  · simp only [Value.slice.injEq, Option.some.injEq] at h1
    obtain ⟨rfl, _, rfl⟩ := h1
    rw [smW_len] at h2
    refine .inr ⟨_, c, rfl, by rw [smW_len]; omega, h3, fun i f hf => ?_⟩
    have hi := (List.getElem?_eq_some_iff.1 hf).1
    rw [smW_len] at hi
    obtain rfl : i = 0 := by omega
    exact h4 0 f (by rw [smW_at (by omega)]; rw [smW_at (by omega)] at hf; exact hf)
theorem sm_spsI {s : Sp} {m : Nat} (hm : m ≤ 5) (h : s.w = smW m) : SpsI [⟨0, nameT1, [], 0, 0⟩, s] := fun t ht => by
  simp only [List.mem_cons, List.not_mem_nil, or_false] at ht
  rcases ht with rfl | rfl
  · intro p hp; simp at hp
  · rw [h]; exact smW_I m hm
end Go.Proofs.YtjdkhobkdlldnaaDoor
namespace Go.Proofs.YtjdkhobkdlldnaaDoor
open Go.RowKit
set_option linter.unusedVariables false

theorem wellI13_3 : (Tryd.prog.info? 36).map (fun i => (i.zero, i.size, i.bytes)) = some (some (.agg #[.string ⟨#[]⟩, .int .i64 0, .int .i64 0]), 3, 32) := by kernel_rfl
set_option maxRecDepth 100000 in
set_option maxHeartbeats 4000000 in
theorem sums13_k3 (kd n : Nat) (v mx : Nat) (hkk : kd % 4 = 0) (hkd : kd < 256) (hn : n < 256) (hv : v < 4294967296) (hmx : mx < 256) (w : World) : Calls Tryd.prog 5 #[.int .u8 (kd : Int), .int .u8 (n : Int), .int .u32 (v : Int), .int .u8 (mx : Int)] w fun e w' => e = .returned (.bool true) ∧ B w w' := by
  have ck := known13_any w
  have cB := fun w' => boards13_any 0 20 0 1 _ [] (by decide) (by decide) (by decide) (by decide) (by decide) w' (isU32s_nil w')
  obtain ⟨i0, hi0, hz0, hz1, hz2⟩ := info_of wellI13_3
  obtain ⟨n4, hn4⟩ : ∃ n4, n % 4 = n4 := ⟨_, rfl⟩
  obtain ⟨k4, hk4⟩ : ∃ k4, kd % 4 = k4 := ⟨_, rfl⟩
  obtain ⟨v3, hv3⟩ : ∃ v3, v % 1000 = v3 := ⟨_, rfl⟩
  obtain ⟨m20, hm20⟩ : ∃ m20, mx % 20 = m20 := ⟨_, rfl⟩
  have hn4T : (n : Int).tmod 4 = (n4 : Int) := by rw [← hn4]; exact (Int.ofNat_tmod n 4).symm
  have hk4T : (kd : Int).tmod 4 = (k4 : Int) := by rw [← hk4]; exact (Int.ofNat_tmod kd 4).symm
  have hv3T : (v : Int).tmod 1000 = (v3 : Int) := by rw [← hv3]; exact (Int.ofNat_tmod v 1000).symm
  have hm20T : (mx : Int).tmod 20 = (m20 : Int) := by rw [← hm20]; exact (Int.ofNat_tmod mx 20).symm
  obtain ⟨m, hm⟩ : ∃ m, n4 + 1 = m := ⟨_, rfl⟩
  obtain ⟨K, hK⟩ : ∃ K : Int, 3 + (k4 : Int) = K := ⟨_, rfl⟩
  obtain ⟨V, hV⟩ : ∃ V : Int, (v3 : Int) + 1 = V := ⟨_, rfl⟩
  obtain ⟨NN, hNN⟩ : ∃ NN : Nat, m20 + 1 = NN := ⟨_, rfl⟩
  have ww : IntKind.u8.wrap (n4 : Int) = (n4 : Int) ∧ IntKind.u8.wrap (k4 : Int) = (k4 : Int) ∧ IntKind.u8.wrap (m20 : Int) = (m20 : Int) ∧ IntKind.u32.wrap (v3 : Int) = (v3 : Int) ∧ IntKind.i64.wrap (n4 : Int) = (n4 : Int) ∧ IntKind.i64.wrap (k4 : Int) = (k4 : Int) ∧ IntKind.i64.wrap (m20 : Int) = (m20 : Int) ∧ IntKind.i64.wrap (v3 : Int) = (v3 : Int) := by
    simp only [IntKind.wrap_u8, IntKind.wrap_i64, IntKind.wrap_u32]
    omega
  obtain ⟨w1', w2', w3', w4', w5', w6', w7', w8'⟩ := ww
  have wa : IntKind.i64.wrap ((n4 : Int) + 2) = ((m + 1 : Nat) : Int) := by rw [IntKind.wrap_i64]; omega
  have wb : IntKind.i64.wrap (3 + (k4 : Int)) = K := by rw [IntKind.wrap_i64]; omega
  have wc : IntKind.i64.wrap ((v3 : Int) + 1) = V := by rw [IntKind.wrap_i64]; omega
  have wd : IntKind.i64.wrap ((m20 : Int) + 1) = (NN : Int) := by rw [IntKind.wrap_i64]; omega
  have we : IntKind.i64.wrap (((m + 1 : Nat) : Int) - 1) = (m : Int) := by rw [IntKind.wrap_i64]; omega
  have hm5 : 1 ≤ m ∧ m ≤ 4 := by omega
  have hKc : K = 3 ∨ K = 4 ∨ K = 5 ∨ K = 6 := by omega
  have hVb : 1 ≤ V ∧ V ≤ 1000 := by omega
  have hNb : 1 ≤ NN ∧ NN ≤ 20 := by omega
  obtain ⟨m1, hm1⟩ : ∃ m1, m + 1 = m1 := ⟨_, rfl⟩
  rw [hm1] at wa we
  have HKK := Lib.hid (show K = 3 + ((0 : Nat) : Int) by omega)
  have HK := Lib.hid (And.intro hm5 (And.intro hKc (And.intro hVb (And.intro hNb hm1))))
  clear hkk hn4 hk4 hv3 hm20 hm hK hV hNN hm5 hKc hVb hNb hm1 hv hmx hkd hn
  go_enter Tryd.func5, Tryd.ntmps5
  go_wp2_with fail
  refine ck.mono ?_
  rintro e w1 ⟨rfl, q1⟩
  have cB1 := cB w1
  clear ck cB
  go_wp2_with fail
  refine cB1.mono ?_
  rintro e w2 ⟨P, X, b, wv, tv, fv, rfl, hPd, hM, _, _, q2⟩
  have cO := fun w' (q : B w2 w') lv L hL hI => xops_any smD hPd w' (hM.keepB q) (by show (0 : Nat) ≤ _; omega) lv L hL hI
  have HP := Lib.hid (And.intro hPd (q1.trans q2))
  generalize P.b = pb at *
  clear hM cB1 q1 q2 hPd
  go_wp2_with fail
  go_loopw [13, 12] (fun iv lv wr => ∃ (i : Nat) (lo : Option Addr) (lc : Nat), i ≤ m1 ∧ iv = .int .i64 i ∧ lv = .slice lo i lc ∧ wr.ownsRow w2.heap.size 36 3 (.slice lo i lc) i (flatWp (smW i)) ∧ B w2 wr) (fun iv _ _ => m1 + 1 - (intOf iv).toNat)
  case atStart => exact ⟨0, none, 0, Nat.zero_le _, rfl, rfl, World.ownsRow_nil _ _ _ _, B.refl _⟩
  case round =>
    obtain ⟨i, lo, lc, hi, rfl, rfl, hW, q⟩ := hrel
    obtain ⟨wo, rfl⟩ : ∃ wo : World, wo = wr := ⟨_, rfl⟩
    by_cases hl : i < m1
    · have hlB : decide ((i : Int) < (m1 : Int)) = true := decide_eq_true (by omega)
      have hlN : decide (i < m1) = true := decide_eq_true hl
      have hm6 : m1 ≤ 5 := by have := HK.out.1; have := HK.out.2.2.2.2; omega
      have wk1 : IntKind.i64.wrap ((i : Int) + 1) = (i : Int) + 1 := by rw [IntKind.wrap_i64]; omega
      have hi6 : i ≤ 5 := by omega
      have hi5 : (i : Int).tmod 5 = (i : Int) := by rw [Int.tmod_eq_emod_of_nonneg (by omega)]; omega
      have wi : IntKind.i64.wrap (i : Int) = (i : Int) := by rw [IntKind.wrap_i64]; omega
      have qb : B wo (wo.alloc (.cells #[.string ⟨#[112, 108, 97, 116, 101]⟩, .int .i64 0, .int .i64 (i : Int)] 36)) := (B.refl _).alloc _ _
      have own3 := row_keep hW qb
      have hb3 := (q.trans qb).below.size
      have HX := Lib.hid (And.intro hl (q.trans qb))
      clear hW q qb hi hl
      go_wp2_with (at_builtin; go_loud (refine wpList_append_lies _ rfl _ _ 25 rfl w2.heap.size 36 i0 _ 3 32 Tryd.underlying25 hi0 hz0 hz1 hz2 rfl (by omega) (.slice lo i lc) i (flatWp (smW i)) rfl own3 ⟨_, 0, none⟩ 1 1 [.string ⟨#[112, 108, 97, 116, 101]⟩, .int .i64 0, .int .i64 (i : Int)] rfl rfl (newest rfl) (fun u hu => by simp only [List.mem_cons, List.not_mem_nil, or_false] at hu; rcases hu with rfl | rfl | rfl <;> rfl) (by omega) (by unfold maxLen; omega) (by omega) hb3 _ rfl ?_; intro g1 c1 W4 hown4 hgrow4 hat4 hlt4; have hB4 := HX.out.2.grownBy hgrow4 (fun x hx => (own3.lt x hx).1); clear hgrow4 hat4 hlt4 own3 hb3; replace hB4 := Lib.hid (And.intro hB4 hown4); clear hown4; go_wp2_with fail))
      refine ⟨⟨i + 1, some ⟨g1, 0, none⟩, c1, by have := HX.out.1; omega, by go_num, rfl, ?_, hB4.out.1⟩, by have := HX.out.1; simp [intOf]; omega⟩
      have hs := hB4.out.2
      rw [smW_snoc, flatWp_snoc]
      exact hs
    · have hlB : decide ((i : Int) < (m1 : Int)) = false := decide_eq_false (by omega)
      have hlN : decide (i < m1) = false := decide_eq_false hl
      obtain rfl : i = m1 := by omega
      have hm6 : 2 ≤ i ∧ i ≤ 5 := by have := HK.out.1; have := HK.out.2.2.2.2; omega
      obtain ⟨g, rfl, hgb, hcc, hcm⟩ := own_full hW (by omega)
      have HX := Lib.hid (And.intro hW (And.intro q hm6))
      clear hW q hi hl
      rcases HK.out.2.1 with rfl | rfl | rfl | rfl
      · have hmi : m + 1 = i := HK.out.2.2.2.2
        have hokS : stepOk ⟨3, ⟨#[]⟩, smW i, V, 0⟩ = true := sm_ok3 3 V i (by omega) HK.out.2.2.1 HX.out.2.2
        have hwp : IsWps wo (.slice (some ⟨g, 0, none⟩) i lc) (smW i) := isWps_own (show wo.ownsRow w2.heap.size 36 3 (.slice (some ⟨g, 0, none⟩) i lc) (smW i).length (flatWp (smW i)) by rw [smW_len]; exact HX.out.1)
        have q0 : B wo (wo.alloc (.cells #[.int .i64 3, .string ⟨#[]⟩, .slice (some ⟨g, 0, none⟩) i lc, .int .i64 V, .int .i64 0] 27)) := (B.refl _).alloc _ _
        have oS := obj_new wo (.cells #[.int .i64 3, .string ⟨#[]⟩, .slice (some ⟨g, 0, none⟩) i lc, .int .i64 V, .int .i64 0] 27)
        have hsp := sps_lit2 (wo.alloc (.cells #[.int .i64 3, .string ⟨#[]⟩, .slice (some ⟨g, 0, none⟩) i lc, .int .i64 V, .int .i64 0] 27)) ⟨0, nameT1, [], 0, 0⟩ ⟨3, ⟨#[]⟩, smW i, V, 0⟩ (.slice (some ⟨g, 0, none⟩) i lc) rfl (hwp.keepB q0)
        have hz : (wo.alloc (.cells #[.int .i64 3, .string ⟨#[]⟩, .slice (some ⟨g, 0, none⟩) i lc, .int .i64 V, .int .i64 0] 27)).heap.size = wo.heap.size + 1 := by simp
        rw [hz] at hsp
        have hfl : (flatSp [⟨0, nameT1, [], 0, 0⟩, ⟨3, ⟨#[]⟩, smW i, V, 0⟩] [.slice none 0 0, .slice (some ⟨g, 0, none⟩) i lc]).toArray = #[.int .i64 0, .string ⟨#[116, 49]⟩, .slice none 0 0, .int .i64 0, .int .i64 0, .int .i64 3, .string ⟨#[]⟩, .slice (some ⟨g, 0, none⟩) i lc, .int .i64 V, .int .i64 0] := rfl
        rw [hfl] at hsp
        have qs : B (wo.alloc (.cells #[.int .i64 3, .string ⟨#[]⟩, .slice (some ⟨g, 0, none⟩) i lc, .int .i64 V, .int .i64 0] 27)) ((wo.alloc (.cells #[.int .i64 3, .string ⟨#[]⟩, .slice (some ⟨g, 0, none⟩) i lc, .int .i64 V, .int .i64 0] 27)).alloc (.cells #[.int .i64 0, .string ⟨#[116, 49]⟩, .slice none 0 0, .int .i64 0, .int .i64 0, .int .i64 3, .string ⟨#[]⟩, .slice (some ⟨g, 0, none⟩) i lc, .int .i64 V, .int .i64 0] 27)) := (B.refl _).alloc _ _
        have cc := cO _ ((HX.out.2.1.trans q0).trans qs) _ _ hsp (sm_spsI (s := ⟨3, ⟨#[]⟩, smW i, V, 0⟩) (m := i) (by omega) rfl)
        have hrun := sm_run ⟨3, ⟨#[]⟩, smW i, V, 0⟩ hokS (by simp) (by simp) (smW_in (by omega))
        have oS1 := qs.obj oS
        have HS := Lib.hid (And.intro hrun (And.intro oS1 (And.intro ((HX.out.2.1.trans q0).trans qs) (row_keep (row_keep HX.out.1 q0) qs))))
        have HM := Lib.hid hmi
        clear hokS hwp q0 hsp qs hrun oS1 cO hmi hz hfl
        go_wp2_with fail
        refine Calls.mono cc ?_
        rintro e w5 hR
        obtain ⟨o1, k1, o2, k2, rfl, r1, r2, q5⟩ := hR.okd HS.out.1
        have hlen : (movesS ⟨3, ⟨#[]⟩, smW i, V, 0⟩).length = m := (by have := (sm_at 3 V 0 m 0 (by omega) (by have := HK.out.1; omega)).1; rw [HM.out] at this; exact this)
        simp only [tagX_len, List.length_replicate, hlen] at r1 r2 ⊢
        obtain ⟨g1, rfl, _, _, _⟩ := own_full r1 (by have := HK.out.1; have := HK.out.2.2.2.1; omega)
        obtain ⟨g2, rfl, _, _, _⟩ := own_full r2 (by have := HK.out.1; have := HK.out.2.2.2.1; omega)
        have HR := Lib.hid (And.intro r1 (And.intro r2 (And.intro (q5.obj HS.out.2.1) (And.intro (row_keep HS.out.2.2.2 q5) (HS.out.2.2.1.trans q5)))))
        clear hR r1 r2 q5 cc hlen
        go_wp2_with fail
        go_loopw [20] (fun jv wr => ∃ j : Nat, j ≤ m ∧ jv = .int .i64 j ∧ B w5 wr) (fun jv _ => m + 1 - (intOf jv).toNat)
        case atStart => exact ⟨0, Nat.zero_le _, rfl, B.refl _⟩
        case round =>
          obtain ⟨j, hj, rfl, qj⟩ := hrel
          obtain ⟨wl, rfl⟩ : ∃ wl : World, wl = wr := ⟨_, rfl⟩
          by_cases hl : j < m
          · have hlB2 : decide ((j : Int) < (m : Int)) = true := decide_eq_true (by omega)
            have hlN2 : decide (j < m) = true := decide_eq_true hl
            have hlI2 : (j : Int) < (m : Int) := by omega
            have hj0 : (0 : Int) ≤ (j : Int) := by omega
            have hMb : m ≤ 20 ∧ m + 1 = i := ⟨by have := HK.out.1; have := HK.out.2.2.2.1; omega, HM.out⟩
            have wk1 : IntKind.i64.wrap ((j : Int) + 1) = (j : Int) + 1 := by rw [IntKind.wrap_i64]; omega
            obtain ⟨_, hx⟩ := (by have := sm_at 3 V 0 m j (by omega) (by omega); rw [HM.out] at this; exact this)
            have hx2 := tagX_at (t := nameT1) hx
            have r1 := row_keep HR.out.1 qj
            have r2 := row_keep HR.out.2.1 qj
            have oS5 := qj.obj HR.out.2.2.1
            have hW5 := row_keep HR.out.2.2.2.1 qj
            have y0 : wl.cell? ⟨g1, j * 9, none⟩ = some (.string ⟨#[112, 108, 97, 116, 101]⟩) := by have := r1.cellAt (j * 9 + 0) (by omega); rw [flatOp_get hx2 0 (by omega)] at this; exact this
            have y1 : wl.cell? ⟨g1, j * 9 + 1, none⟩ = some (.int .i64 0) := by have := r1.cellAt (j * 9 + 1) (by omega); rw [flatOp_get hx2 1 (by omega)] at this; exact this
            have y2 : wl.cell? ⟨g1, j * 9 + 2, none⟩ = some (.int .i64 0) := by have := r1.cellAt (j * 9 + 2) (by omega); rw [flatOp_get hx2 2 (by omega)] at this; exact this
            have y3 : wl.cell? ⟨g1, j * 9 + 3, none⟩ = some (.string ⟨#[112, 108, 97, 116, 101]⟩) := by have := r1.cellAt (j * 9 + 3) (by omega); rw [flatOp_get hx2 3 (by omega)] at this; exact this
            have y4 : wl.cell? ⟨g1, j * 9 + 4, none⟩ = some (.int .i64 0) := by have := r1.cellAt (j * 9 + 4) (by omega); rw [flatOp_get hx2 4 (by omega)] at this; exact this
            have y5 : wl.cell? ⟨g1, j * 9 + 5, none⟩ = some (.int .i64 ((j : Int) + 1)) := by have := r1.cellAt (j * 9 + 5) (by omega); rw [flatOp_get hx2 5 (by omega)] at this; exact this
            have y6 : wl.cell? ⟨g1, j * 9 + 6, none⟩ = some (.int .i64 V) := by have := r1.cellAt (j * 9 + 6) (by omega); rw [flatOp_get hx2 6 (by omega)] at this; exact this
            have y7 : wl.cell? ⟨g1, j * 9 + 7, none⟩ = some (.string ⟨#[116, 49]⟩) := by have := r1.cellAt (j * 9 + 7) (by omega); rw [flatOp_get hx2 7 (by omega)] at this; exact this
            have y8 : wl.cell? ⟨g1, j * 9 + 8, none⟩ = some (.bool (decide (j = 0))) := by have := r1.cellAt (j * 9 + 8) (by omega); rw [flatOp_get hx2 8 (by omega)] at this; exact this
            have z2 : wl.cell? ⟨g2, j, none⟩ = some (.int .i64 1) := by have := r2.cellAt j (by omega); rw [this]; unfold flatI; rw [List.getElem?_map, List.getElem?_replicate, if_pos hl]; rfl
            have hj0B : ((j : Int) == 0) = decide (j = 0) := by by_cases e : j = 0 <;> simp [e]
            have hj0N : (j == 0) = decide (j = 0) := by by_cases e : j = 0 <;> simp [e]
            have HJ := Lib.hid (And.intro hl (And.intro qj (And.intro hW5 oS5)))
            have s0 := obj_cell oS5 0
            have s3 := obj_cell oS5 3
            have qx : B wl (wl.alloc (.cells #[.string ⟨#[112, 108, 97, 116, 101]⟩, .int .i64 0, .int .i64 0, .string ⟨#[112, 108, 97, 116, 101]⟩, .int .i64 0, .int .i64 ((j : Int) + 1), .int .i64 V, .string ⟨#[116, 49]⟩, .bool (decide (j = 0))] 64)) := (B.refl _).alloc _ _
            have oX := obj_new wl (.cells #[.string ⟨#[112, 108, 97, 116, 101]⟩, .int .i64 0, .int .i64 0, .string ⟨#[112, 108, 97, 116, 101]⟩, .int .i64 0, .int .i64 ((j : Int) + 1), .int .i64 V, .string ⟨#[116, 49]⟩, .bool (decide (j = 0))] 64)
            have sX0 := qx.keep s0
            have sX3 := qx.keep s3
            have zX2 := qx.keep z2
            have hWX := row_keep hW5 qx
            obtain ⟨mi, hmi⟩ : ∃ mi : Nat, j + 1 = mi := ⟨_, rfl⟩
            have hmi5 : mi < i := by omega
            have hmin : min ((j : Int) + 1) (m : Int) = (mi : Int) := by rw [← hmi]; omega
            have hmiI : (mi : Int) < (i : Int) := by omega
            have hmi0 : (0 : Int) ≤ (mi : Int) := by omega
            have hiI0 : (0 : Int) < (i : Int) := by omega
            obtain ⟨p0, p1, p2⟩ := flatWp_get _ 0 (smP 0) (smW_at (by omega : 0 < i))
            obtain ⟨r0, r1', r2'⟩ := flatWp_get _ mi (smP mi) (smW_at hmi5)
            have e0 := (hWX.cellAt (0 * 3) (by omega)).trans p0
            have e1 := (hWX.cellAt (0 * 3 + 1) (by omega)).trans p1
            have e2 := (hWX.cellAt (0 * 3 + 2) (by omega)).trans p2
            have f0 := (hWX.cellAt (mi * 3) (by omega)).trans r0
            have f1 := (hWX.cellAt (mi * 3 + 1) (by omega)).trans r1'
            have f2 := (hWX.cellAt (mi * 3 + 2) (by omega)).trans r2'
            have HJ2 := Lib.hid (And.intro (HJ.out.2.1.trans qx) hWX)
            have c0 := obj_cell oX 0
            have c1 := obj_cell oX 1
            have c2 := obj_cell oX 2
            have c3 := obj_cell oX 3
            have c4 := obj_cell oX 4
            have c5 := obj_cell oX 5
            simp only [smP, namePlate, Nat.zero_mul, Nat.zero_add] at e0 e1 e2 f0 f1 f2
            clear qj r1 r2 hx hx2 hj oS5 hW5 hWX p0 p1 p2 r0 r1' r2' s0 s3
            have HL9 := Lib.hid hl
            clear hl
            cases hJ0 : decide (j = 0)
            all_goals
              rw [hJ0] at *
              replace hJ0 := Lib.hid hJ0
              go_wp2_with fail
              generalize wl.alloc _ = u at *
              generalize wl.heap.size = xb at *
              have qa1 : ∀ cs, B u (u.alloc (.cells cs 36)) := fun cs => (B.refl _).alloc _ _
              have qa2 : ∀ cs cs', B u ((u.alloc (.cells cs 36)).alloc (.cells cs' 36)) := fun cs cs' => ((B.refl _).alloc _ _).alloc _ _
              have e0' := fun cs => (qa1 cs).keep e0
              have e1' := fun cs => (qa1 cs).keep e1
              have e2' := fun cs => (qa1 cs).keep e2
              have f0' := fun cs => (qa1 cs).keep f0
              have f1' := fun cs => (qa1 cs).keep f1
              have f2' := fun cs => (qa1 cs).keep f2
              have e0'' := fun cs cs' => (qa2 cs cs').keep e0
              have e1'' := fun cs cs' => (qa2 cs cs').keep e1
              have e2'' := fun cs cs' => (qa2 cs cs').keep e2
              have f0'' := fun cs cs' => (qa2 cs cs').keep f0
              have f1'' := fun cs cs' => (qa2 cs cs').keep f1
              have f2'' := fun cs cs' => (qa2 cs cs').keep f2
              have s0'' := fun cs cs' => (qa2 cs cs').keep sX0
              have c0'' := fun cs cs' => (qa2 cs cs').keep c0
              have c1'' := fun cs cs' => (qa2 cs cs').keep c1
              have c2'' := fun cs cs' => (qa2 cs cs').keep c2
              have c3'' := fun cs cs' => (qa2 cs cs').keep c3
              have c4'' := fun cs cs' => (qa2 cs cs').keep c4
              have c5'' := fun cs cs' => (qa2 cs cs').keep c5
              go_region
              all_goals
                clear e0' e1' e2' f0' f1' f2' e0'' e1'' e2'' f0'' f1'' f2'' e0 e1 e2 f0 f1 f2 c0 c1 c2 c3 c4 c5 y0 y1 y2 y3 y4 y5 y6 y7 y8
                go_wp2_with fail
                try simp only [Exit.inBlock, Exit.then]
                go_roundw
                case measure => have := HL9.out; simp [intOf]; omega
                case rel =>
                  refine ⟨j + 1, by have := HL9.out; omega, by go_num, ?_⟩
                  first
                    | exact (HJ2.out.1.trans (qa2 _ _)).drew
                    | exact (HJ2.out.1.trans (qa2 _ _))
                    | (trace_state; sorry)
          · have hlB2 : decide ((j : Int) < (m : Int)) = false := decide_eq_false (by omega)
            have hlN2 : decide (j < m) = false := decide_eq_false hl
            have HF := Lib.hid (HP.out.2.trans (HR.out.2.2.2.2.trans qj))
            clear qj hj hl
            go_wp2
            go_ret
            exact ⟨rfl, HF.out⟩
      · exact absurd HKK.out (by decide)
      · exact absurd HKK.out (by decide)
      · exact absurd HKK.out (by decide)
end Go.Proofs.YtjdkhobkdlldnaaDoor
namespace Go.Proofs.YtjdkhobkdlldnaaDoor
open Go.RowKit
set_option linter.unusedVariables false

theorem wellI13_4 : (Tryd.prog.info? 36).map (fun i => (i.zero, i.size, i.bytes)) = some (some (.agg #[.string ⟨#[]⟩, .int .i64 0, .int .i64 0]), 3, 32) := by kernel_rfl
set_option maxRecDepth 100000 in
set_option maxHeartbeats 4000000 in
theorem sums13_k4 (kd n : Nat) (v mx : Nat) (hkk : kd % 4 = 1) (hkd : kd < 256) (hn : n < 256) (hv : v < 4294967296) (hmx : mx < 256) (w : World) : Calls Tryd.prog 5 #[.int .u8 (kd : Int), .int .u8 (n : Int), .int .u32 (v : Int), .int .u8 (mx : Int)] w fun e w' => e = .returned (.bool true) ∧ B w w' := by
  have ck := known13_any w
  have cB := fun w' => boards13_any 0 20 0 1 _ [] (by decide) (by decide) (by decide) (by decide) (by decide) w' (isU32s_nil w')
  obtain ⟨i0, hi0, hz0, hz1, hz2⟩ := info_of wellI13_4
  obtain ⟨n4, hn4⟩ : ∃ n4, n % 4 = n4 := ⟨_, rfl⟩
  obtain ⟨k4, hk4⟩ : ∃ k4, kd % 4 = k4 := ⟨_, rfl⟩
  obtain ⟨v3, hv3⟩ : ∃ v3, v % 1000 = v3 := ⟨_, rfl⟩
  obtain ⟨m20, hm20⟩ : ∃ m20, mx % 20 = m20 := ⟨_, rfl⟩
  have hn4T : (n : Int).tmod 4 = (n4 : Int) := by rw [← hn4]; exact (Int.ofNat_tmod n 4).symm
  have hk4T : (kd : Int).tmod 4 = (k4 : Int) := by rw [← hk4]; exact (Int.ofNat_tmod kd 4).symm
  have hv3T : (v : Int).tmod 1000 = (v3 : Int) := by rw [← hv3]; exact (Int.ofNat_tmod v 1000).symm
  have hm20T : (mx : Int).tmod 20 = (m20 : Int) := by rw [← hm20]; exact (Int.ofNat_tmod mx 20).symm
  obtain ⟨m, hm⟩ : ∃ m, n4 + 1 = m := ⟨_, rfl⟩
  obtain ⟨K, hK⟩ : ∃ K : Int, 3 + (k4 : Int) = K := ⟨_, rfl⟩
  obtain ⟨V, hV⟩ : ∃ V : Int, (v3 : Int) + 1 = V := ⟨_, rfl⟩
  obtain ⟨NN, hNN⟩ : ∃ NN : Nat, m20 + 1 = NN := ⟨_, rfl⟩
  have ww : IntKind.u8.wrap (n4 : Int) = (n4 : Int) ∧ IntKind.u8.wrap (k4 : Int) = (k4 : Int) ∧ IntKind.u8.wrap (m20 : Int) = (m20 : Int) ∧ IntKind.u32.wrap (v3 : Int) = (v3 : Int) ∧ IntKind.i64.wrap (n4 : Int) = (n4 : Int) ∧ IntKind.i64.wrap (k4 : Int) = (k4 : Int) ∧ IntKind.i64.wrap (m20 : Int) = (m20 : Int) ∧ IntKind.i64.wrap (v3 : Int) = (v3 : Int) := by
    simp only [IntKind.wrap_u8, IntKind.wrap_i64, IntKind.wrap_u32]
    omega
  obtain ⟨w1', w2', w3', w4', w5', w6', w7', w8'⟩ := ww
  have wa : IntKind.i64.wrap ((n4 : Int) + 2) = ((m + 1 : Nat) : Int) := by rw [IntKind.wrap_i64]; omega
  have wb : IntKind.i64.wrap (3 + (k4 : Int)) = K := by rw [IntKind.wrap_i64]; omega
  have wc : IntKind.i64.wrap ((v3 : Int) + 1) = V := by rw [IntKind.wrap_i64]; omega
  have wd : IntKind.i64.wrap ((m20 : Int) + 1) = (NN : Int) := by rw [IntKind.wrap_i64]; omega
  have we : IntKind.i64.wrap (((m + 1 : Nat) : Int) - 1) = (m : Int) := by rw [IntKind.wrap_i64]; omega
  have hm5 : 1 ≤ m ∧ m ≤ 4 := by omega
  have hKc : K = 3 ∨ K = 4 ∨ K = 5 ∨ K = 6 := by omega
  have hVb : 1 ≤ V ∧ V ≤ 1000 := by omega
  have hNb : 1 ≤ NN ∧ NN ≤ 20 := by omega
  obtain ⟨m1, hm1⟩ : ∃ m1, m + 1 = m1 := ⟨_, rfl⟩
  rw [hm1] at wa we
  have HKK := Lib.hid (show K = 3 + ((1 : Nat) : Int) by omega)
  have HK := Lib.hid (And.intro hm5 (And.intro hKc (And.intro hVb (And.intro hNb hm1))))
  clear hkk hn4 hk4 hv3 hm20 hm hK hV hNN hm5 hKc hVb hNb hm1 hv hmx hkd hn
  go_enter Tryd.func5, Tryd.ntmps5
  go_wp2_with fail
  refine ck.mono ?_
  rintro e w1 ⟨rfl, q1⟩
  have cB1 := cB w1
  clear ck cB
  go_wp2_with fail
  refine cB1.mono ?_
  rintro e w2 ⟨P, X, b, wv, tv, fv, rfl, hPd, hM, _, _, q2⟩
  have cO := fun w' (q : B w2 w') lv L hL hI => xops_any smD hPd w' (hM.keepB q) (by show (0 : Nat) ≤ _; omega) lv L hL hI
  have HP := Lib.hid (And.intro hPd (q1.trans q2))
  generalize P.b = pb at *
  clear hM cB1 q1 q2 hPd
  go_wp2_with fail
  go_loopw [13, 12] (fun iv lv wr => ∃ (i : Nat) (lo : Option Addr) (lc : Nat), i ≤ m1 ∧ iv = .int .i64 i ∧ lv = .slice lo i lc ∧ wr.ownsRow w2.heap.size 36 3 (.slice lo i lc) i (flatWp (smW i)) ∧ B w2 wr) (fun iv _ _ => m1 + 1 - (intOf iv).toNat)
  case atStart => exact ⟨0, none, 0, Nat.zero_le _, rfl, rfl, World.ownsRow_nil _ _ _ _, B.refl _⟩
  case round =>
    obtain ⟨i, lo, lc, hi, rfl, rfl, hW, q⟩ := hrel
    obtain ⟨wo, rfl⟩ : ∃ wo : World, wo = wr := ⟨_, rfl⟩
    by_cases hl : i < m1
    · have hlB : decide ((i : Int) < (m1 : Int)) = true := decide_eq_true (by omega)
      have hlN : decide (i < m1) = true := decide_eq_true hl
      have hm6 : m1 ≤ 5 := by have := HK.out.1; have := HK.out.2.2.2.2; omega
      have wk1 : IntKind.i64.wrap ((i : Int) + 1) = (i : Int) + 1 := by rw [IntKind.wrap_i64]; omega
      have hi6 : i ≤ 5 := by omega
      have hi5 : (i : Int).tmod 5 = (i : Int) := by rw [Int.tmod_eq_emod_of_nonneg (by omega)]; omega
      have wi : IntKind.i64.wrap (i : Int) = (i : Int) := by rw [IntKind.wrap_i64]; omega
      have qb : B wo (wo.alloc (.cells #[.string ⟨#[112, 108, 97, 116, 101]⟩, .int .i64 0, .int .i64 (i : Int)] 36)) := (B.refl _).alloc _ _
      have own3 := row_keep hW qb
      have hb3 := (q.trans qb).below.size
      have HX := Lib.hid (And.intro hl (q.trans qb))
      clear hW q qb hi hl
      go_wp2_with (at_builtin; go_loud (refine wpList_append_lies _ rfl _ _ 25 rfl w2.heap.size 36 i0 _ 3 32 Tryd.underlying25 hi0 hz0 hz1 hz2 rfl (by omega) (.slice lo i lc) i (flatWp (smW i)) rfl own3 ⟨_, 0, none⟩ 1 1 [.string ⟨#[112, 108, 97, 116, 101]⟩, .int .i64 0, .int .i64 (i : Int)] rfl rfl (newest rfl) (fun u hu => by simp only [List.mem_cons, List.not_mem_nil, or_false] at hu; rcases hu with rfl | rfl | rfl <;> rfl) (by omega) (by unfold maxLen; omega) (by omega) hb3 _ rfl ?_; intro g1 c1 W4 hown4 hgrow4 hat4 hlt4; have hB4 := HX.out.2.grownBy hgrow4 (fun x hx => (own3.lt x hx).1); clear hgrow4 hat4 hlt4 own3 hb3; replace hB4 := Lib.hid (And.intro hB4 hown4); clear hown4; go_wp2_with fail))
      refine ⟨⟨i + 1, some ⟨g1, 0, none⟩, c1, by have := HX.out.1; omega, by go_num, rfl, ?_, hB4.out.1⟩, by have := HX.out.1; simp [intOf]; omega⟩
      have hs := hB4.out.2
      rw [smW_snoc, flatWp_snoc]
      exact hs
    · have hlB : decide ((i : Int) < (m1 : Int)) = false := decide_eq_false (by omega)
      have hlN : decide (i < m1) = false := decide_eq_false hl
      obtain rfl : i = m1 := by omega
      have hm6 : 2 ≤ i ∧ i ≤ 5 := by have := HK.out.1; have := HK.out.2.2.2.2; omega
      obtain ⟨g, rfl, hgb, hcc, hcm⟩ := own_full hW (by omega)
      have HX := Lib.hid (And.intro hW (And.intro q hm6))
      clear hW q hi hl
      rcases HK.out.2.1 with rfl | rfl | rfl | rfl
      · exact absurd HKK.out (by decide)
      · have hmi : m + 1 = i := HK.out.2.2.2.2
        have hokS : stepOk ⟨4, ⟨#[]⟩, smW i, V, 0⟩ = true := sm_ok3 4 V i (by omega) HK.out.2.2.1 HX.out.2.2
        have hwp : IsWps wo (.slice (some ⟨g, 0, none⟩) i lc) (smW i) := isWps_own (show wo.ownsRow w2.heap.size 36 3 (.slice (some ⟨g, 0, none⟩) i lc) (smW i).length (flatWp (smW i)) by rw [smW_len]; exact HX.out.1)
        have q0 : B wo (wo.alloc (.cells #[.int .i64 4, .string ⟨#[]⟩, .slice (some ⟨g, 0, none⟩) i lc, .int .i64 V, .int .i64 0] 27)) := (B.refl _).alloc _ _
        have oS := obj_new wo (.cells #[.int .i64 4, .string ⟨#[]⟩, .slice (some ⟨g, 0, none⟩) i lc, .int .i64 V, .int .i64 0] 27)
        have hsp := sps_lit2 (wo.alloc (.cells #[.int .i64 4, .string ⟨#[]⟩, .slice (some ⟨g, 0, none⟩) i lc, .int .i64 V, .int .i64 0] 27)) ⟨0, nameT1, [], 0, 0⟩ ⟨4, ⟨#[]⟩, smW i, V, 0⟩ (.slice (some ⟨g, 0, none⟩) i lc) rfl (hwp.keepB q0)
        have hz : (wo.alloc (.cells #[.int .i64 4, .string ⟨#[]⟩, .slice (some ⟨g, 0, none⟩) i lc, .int .i64 V, .int .i64 0] 27)).heap.size = wo.heap.size + 1 := by simp
        rw [hz] at hsp
        have hfl : (flatSp [⟨0, nameT1, [], 0, 0⟩, ⟨4, ⟨#[]⟩, smW i, V, 0⟩] [.slice none 0 0, .slice (some ⟨g, 0, none⟩) i lc]).toArray = #[.int .i64 0, .string ⟨#[116, 49]⟩, .slice none 0 0, .int .i64 0, .int .i64 0, .int .i64 4, .string ⟨#[]⟩, .slice (some ⟨g, 0, none⟩) i lc, .int .i64 V, .int .i64 0] := rfl
        rw [hfl] at hsp
        have qs : B (wo.alloc (.cells #[.int .i64 4, .string ⟨#[]⟩, .slice (some ⟨g, 0, none⟩) i lc, .int .i64 V, .int .i64 0] 27)) ((wo.alloc (.cells #[.int .i64 4, .string ⟨#[]⟩, .slice (some ⟨g, 0, none⟩) i lc, .int .i64 V, .int .i64 0] 27)).alloc (.cells #[.int .i64 0, .string ⟨#[116, 49]⟩, .slice none 0 0, .int .i64 0, .int .i64 0, .int .i64 4, .string ⟨#[]⟩, .slice (some ⟨g, 0, none⟩) i lc, .int .i64 V, .int .i64 0] 27)) := (B.refl _).alloc _ _
        have cc := cO _ ((HX.out.2.1.trans q0).trans qs) _ _ hsp (sm_spsI (s := ⟨4, ⟨#[]⟩, smW i, V, 0⟩) (m := i) (by omega) rfl)
        have hrun := sm_run ⟨4, ⟨#[]⟩, smW i, V, 0⟩ hokS (by simp) (by simp) (smW_in (by omega))
        have oS1 := qs.obj oS
        have HS := Lib.hid (And.intro hrun (And.intro oS1 (And.intro ((HX.out.2.1.trans q0).trans qs) (row_keep (row_keep HX.out.1 q0) qs))))
        have HM := Lib.hid hmi
        clear hokS hwp q0 hsp qs hrun oS1 cO hmi hz hfl
        go_wp2_with fail
        refine Calls.mono cc ?_
        rintro e w5 hR
        obtain ⟨o1, k1, o2, k2, rfl, r1, r2, q5⟩ := hR.okd HS.out.1
        have hlen : (movesS ⟨4, ⟨#[]⟩, smW i, V, 0⟩).length = m := (by have := (sm_at 4 V 0 m 0 (by omega) (by have := HK.out.1; omega)).1; rw [HM.out] at this; exact this)
        simp only [tagX_len, List.length_replicate, hlen] at r1 r2 ⊢
        obtain ⟨g1, rfl, _, _, _⟩ := own_full r1 (by have := HK.out.1; have := HK.out.2.2.2.1; omega)
        obtain ⟨g2, rfl, _, _, _⟩ := own_full r2 (by have := HK.out.1; have := HK.out.2.2.2.1; omega)
        have HR := Lib.hid (And.intro r1 (And.intro r2 (And.intro (q5.obj HS.out.2.1) (And.intro (row_keep HS.out.2.2.2 q5) (HS.out.2.2.1.trans q5)))))
        clear hR r1 r2 q5 cc hlen
        go_wp2_with fail
        go_loopw [20] (fun jv wr => ∃ j : Nat, j ≤ m ∧ jv = .int .i64 j ∧ B w5 wr) (fun jv _ => m + 1 - (intOf jv).toNat)
        case atStart => exact ⟨0, Nat.zero_le _, rfl, B.refl _⟩
        case round =>
          obtain ⟨j, hj, rfl, qj⟩ := hrel
          obtain ⟨wl, rfl⟩ : ∃ wl : World, wl = wr := ⟨_, rfl⟩
          by_cases hl : j < m
          · have hlB2 : decide ((j : Int) < (m : Int)) = true := decide_eq_true (by omega)
            have hlN2 : decide (j < m) = true := decide_eq_true hl
            have hlI2 : (j : Int) < (m : Int) := by omega
            have hj0 : (0 : Int) ≤ (j : Int) := by omega
            have hMb : m ≤ 20 ∧ m + 1 = i := ⟨by have := HK.out.1; have := HK.out.2.2.2.1; omega, HM.out⟩
            have wk1 : IntKind.i64.wrap ((j : Int) + 1) = (j : Int) + 1 := by rw [IntKind.wrap_i64]; omega
            obtain ⟨_, hx⟩ := (by have := sm_at 4 V 0 m j (by omega) (by omega); rw [HM.out] at this; exact this)
            have hx2 := tagX_at (t := nameT1) hx
            have r1 := row_keep HR.out.1 qj
            have r2 := row_keep HR.out.2.1 qj
            have oS5 := qj.obj HR.out.2.2.1
            have hW5 := row_keep HR.out.2.2.2.1 qj
            have y0 : wl.cell? ⟨g1, j * 9, none⟩ = some (.string ⟨#[112, 108, 97, 116, 101]⟩) := by have := r1.cellAt (j * 9 + 0) (by omega); rw [flatOp_get hx2 0 (by omega)] at this; exact this
            have y1 : wl.cell? ⟨g1, j * 9 + 1, none⟩ = some (.int .i64 0) := by have := r1.cellAt (j * 9 + 1) (by omega); rw [flatOp_get hx2 1 (by omega)] at this; exact this
            have y2 : wl.cell? ⟨g1, j * 9 + 2, none⟩ = some (.int .i64 ((j : Int) + 1)) := by have := r1.cellAt (j * 9 + 2) (by omega); rw [flatOp_get hx2 2 (by omega)] at this; exact this
            have y3 : wl.cell? ⟨g1, j * 9 + 3, none⟩ = some (.string ⟨#[112, 108, 97, 116, 101]⟩) := by have := r1.cellAt (j * 9 + 3) (by omega); rw [flatOp_get hx2 3 (by omega)] at this; exact this
            have y4 : wl.cell? ⟨g1, j * 9 + 4, none⟩ = some (.int .i64 0) := by have := r1.cellAt (j * 9 + 4) (by omega); rw [flatOp_get hx2 4 (by omega)] at this; exact this
            have y5 : wl.cell? ⟨g1, j * 9 + 5, none⟩ = some (.int .i64 0) := by have := r1.cellAt (j * 9 + 5) (by omega); rw [flatOp_get hx2 5 (by omega)] at this; exact this
            have y6 : wl.cell? ⟨g1, j * 9 + 6, none⟩ = some (.int .i64 V) := by have := r1.cellAt (j * 9 + 6) (by omega); rw [flatOp_get hx2 6 (by omega)] at this; exact this
            have y7 : wl.cell? ⟨g1, j * 9 + 7, none⟩ = some (.string ⟨#[116, 49]⟩) := by have := r1.cellAt (j * 9 + 7) (by omega); rw [flatOp_get hx2 7 (by omega)] at this; exact this
            have y8 : wl.cell? ⟨g1, j * 9 + 8, none⟩ = some (.bool (decide (j = 0))) := by have := r1.cellAt (j * 9 + 8) (by omega); rw [flatOp_get hx2 8 (by omega)] at this; exact this
            have z2 : wl.cell? ⟨g2, j, none⟩ = some (.int .i64 1) := by have := r2.cellAt j (by omega); rw [this]; unfold flatI; rw [List.getElem?_map, List.getElem?_replicate, if_pos hl]; rfl
            have hj0B : ((j : Int) == 0) = decide (j = 0) := by by_cases e : j = 0 <;> simp [e]
            have hj0N : (j == 0) = decide (j = 0) := by by_cases e : j = 0 <;> simp [e]
            have HJ := Lib.hid (And.intro hl (And.intro qj (And.intro hW5 oS5)))
            have s0 := obj_cell oS5 0
            have s3 := obj_cell oS5 3
            have qx : B wl (wl.alloc (.cells #[.string ⟨#[112, 108, 97, 116, 101]⟩, .int .i64 0, .int .i64 ((j : Int) + 1), .string ⟨#[112, 108, 97, 116, 101]⟩, .int .i64 0, .int .i64 0, .int .i64 V, .string ⟨#[116, 49]⟩, .bool (decide (j = 0))] 64)) := (B.refl _).alloc _ _
            have oX := obj_new wl (.cells #[.string ⟨#[112, 108, 97, 116, 101]⟩, .int .i64 0, .int .i64 ((j : Int) + 1), .string ⟨#[112, 108, 97, 116, 101]⟩, .int .i64 0, .int .i64 0, .int .i64 V, .string ⟨#[116, 49]⟩, .bool (decide (j = 0))] 64)
            have sX0 := qx.keep s0
            have sX3 := qx.keep s3
            have zX2 := qx.keep z2
            have hWX := row_keep hW5 qx
            obtain ⟨mi, hmi⟩ : ∃ mi : Nat, j + 1 = mi := ⟨_, rfl⟩
            have hmi5 : mi < i := by omega
            have hmin : min ((j : Int) + 1) (m : Int) = (mi : Int) := by rw [← hmi]; omega
            have hmiI : (mi : Int) < (i : Int) := by omega
            have hmi0 : (0 : Int) ≤ (mi : Int) := by omega
            have hiI0 : (0 : Int) < (i : Int) := by omega
            obtain ⟨p0, p1, p2⟩ := flatWp_get _ 0 (smP 0) (smW_at (by omega : 0 < i))
            obtain ⟨r0, r1', r2'⟩ := flatWp_get _ mi (smP mi) (smW_at hmi5)
            have e0 := (hWX.cellAt (0 * 3) (by omega)).trans p0
            have e1 := (hWX.cellAt (0 * 3 + 1) (by omega)).trans p1
            have e2 := (hWX.cellAt (0 * 3 + 2) (by omega)).trans p2
            have f0 := (hWX.cellAt (mi * 3) (by omega)).trans r0
            have f1 := (hWX.cellAt (mi * 3 + 1) (by omega)).trans r1'
            have f2 := (hWX.cellAt (mi * 3 + 2) (by omega)).trans r2'
            have HJ2 := Lib.hid (And.intro (HJ.out.2.1.trans qx) hWX)
            have c0 := obj_cell oX 0
            have c1 := obj_cell oX 1
            have c2 := obj_cell oX 2
            have c3 := obj_cell oX 3
            have c4 := obj_cell oX 4
            have c5 := obj_cell oX 5
            simp only [smP, namePlate, Nat.zero_mul, Nat.zero_add] at e0 e1 e2 f0 f1 f2
            clear qj r1 r2 hx hx2 hj oS5 hW5 hWX p0 p1 p2 r0 r1' r2' s0 s3
            have HL9 := Lib.hid hl
            clear hl
            cases hJ0 : decide (j = 0)
            all_goals
              rw [hJ0] at *
              replace hJ0 := Lib.hid hJ0
              go_wp2_with fail
              generalize wl.alloc _ = u at *
              generalize wl.heap.size = xb at *
              have qa1 : ∀ cs, B u (u.alloc (.cells cs 36)) := fun cs => (B.refl _).alloc _ _
              have qa2 : ∀ cs cs', B u ((u.alloc (.cells cs 36)).alloc (.cells cs' 36)) := fun cs cs' => ((B.refl _).alloc _ _).alloc _ _
              have e0' := fun cs => (qa1 cs).keep e0
              have e1' := fun cs => (qa1 cs).keep e1
              have e2' := fun cs => (qa1 cs).keep e2
              have f0' := fun cs => (qa1 cs).keep f0
              have f1' := fun cs => (qa1 cs).keep f1
              have f2' := fun cs => (qa1 cs).keep f2
              have e0'' := fun cs cs' => (qa2 cs cs').keep e0
              have e1'' := fun cs cs' => (qa2 cs cs').keep e1
              have e2'' := fun cs cs' => (qa2 cs cs').keep e2
              have f0'' := fun cs cs' => (qa2 cs cs').keep f0
              have f1'' := fun cs cs' => (qa2 cs cs').keep f1
              have f2'' := fun cs cs' => (qa2 cs cs').keep f2
              have s0'' := fun cs cs' => (qa2 cs cs').keep sX0
              have c0'' := fun cs cs' => (qa2 cs cs').keep c0
              have c1'' := fun cs cs' => (qa2 cs cs').keep c1
              have c2'' := fun cs cs' => (qa2 cs cs').keep c2
              have c3'' := fun cs cs' => (qa2 cs cs').keep c3
              have c4'' := fun cs cs' => (qa2 cs cs').keep c4
              have c5'' := fun cs cs' => (qa2 cs cs').keep c5
              go_region
              all_goals
                clear e0' e1' e2' f0' f1' f2' e0'' e1'' e2'' f0'' f1'' f2'' e0 e1 e2 f0 f1 f2 c0 c1 c2 c3 c4 c5 y0 y1 y2 y3 y4 y5 y6 y7 y8
                go_wp2_with fail
                try simp only [Exit.inBlock, Exit.then]
                go_roundw
                case measure => have := HL9.out; simp [intOf]; omega
                case rel =>
                  refine ⟨j + 1, by have := HL9.out; omega, by go_num, ?_⟩
                  first
                    | exact (HJ2.out.1.trans (qa2 _ _)).drew
                    | exact (HJ2.out.1.trans (qa2 _ _))
                    | (trace_state; sorry)
          · have hlB2 : decide ((j : Int) < (m : Int)) = false := decide_eq_false (by omega)
            have hlN2 : decide (j < m) = false := decide_eq_false hl
            have HF := Lib.hid (HP.out.2.trans (HR.out.2.2.2.2.trans qj))
            clear qj hj hl
            go_wp2
            go_ret
            exact ⟨rfl, HF.out⟩
      · exact absurd HKK.out (by decide)
      · exact absurd HKK.out (by decide)
end Go.Proofs.YtjdkhobkdlldnaaDoor
namespace Go.Proofs.YtjdkhobkdlldnaaDoor
open Go.RowKit
set_option linter.unusedVariables false

theorem wellI13_5 : (Tryd.prog.info? 36).map (fun i => (i.zero, i.size, i.bytes)) = some (some (.agg #[.string ⟨#[]⟩, .int .i64 0, .int .i64 0]), 3, 32) := by kernel_rfl
set_option maxRecDepth 100000 in
set_option maxHeartbeats 4000000 in
theorem sums13_k5 (kd n : Nat) (v mx : Nat) (hkk : kd % 4 = 2) (hkd : kd < 256) (hn : n < 256) (hv : v < 4294967296) (hmx : mx < 256) (w : World) : Calls Tryd.prog 5 #[.int .u8 (kd : Int), .int .u8 (n : Int), .int .u32 (v : Int), .int .u8 (mx : Int)] w fun e w' => e = .returned (.bool true) ∧ B w w' := by
  have ck := known13_any w
  have cB := fun w' => boards13_any 0 20 0 1 _ [] (by decide) (by decide) (by decide) (by decide) (by decide) w' (isU32s_nil w')
  obtain ⟨i0, hi0, hz0, hz1, hz2⟩ := info_of wellI13_5
  obtain ⟨n4, hn4⟩ : ∃ n4, n % 4 = n4 := ⟨_, rfl⟩
  obtain ⟨k4, hk4⟩ : ∃ k4, kd % 4 = k4 := ⟨_, rfl⟩
  obtain ⟨v3, hv3⟩ : ∃ v3, v % 1000 = v3 := ⟨_, rfl⟩
  obtain ⟨m20, hm20⟩ : ∃ m20, mx % 20 = m20 := ⟨_, rfl⟩
  have hn4T : (n : Int).tmod 4 = (n4 : Int) := by rw [← hn4]; exact (Int.ofNat_tmod n 4).symm
  have hk4T : (kd : Int).tmod 4 = (k4 : Int) := by rw [← hk4]; exact (Int.ofNat_tmod kd 4).symm
  have hv3T : (v : Int).tmod 1000 = (v3 : Int) := by rw [← hv3]; exact (Int.ofNat_tmod v 1000).symm
  have hm20T : (mx : Int).tmod 20 = (m20 : Int) := by rw [← hm20]; exact (Int.ofNat_tmod mx 20).symm
  obtain ⟨m, hm⟩ : ∃ m, n4 + 1 = m := ⟨_, rfl⟩
  obtain ⟨K, hK⟩ : ∃ K : Int, 3 + (k4 : Int) = K := ⟨_, rfl⟩
  obtain ⟨V, hV⟩ : ∃ V : Int, (v3 : Int) + 1 = V := ⟨_, rfl⟩
  obtain ⟨NN, hNN⟩ : ∃ NN : Nat, m20 + 1 = NN := ⟨_, rfl⟩
  have ww : IntKind.u8.wrap (n4 : Int) = (n4 : Int) ∧ IntKind.u8.wrap (k4 : Int) = (k4 : Int) ∧ IntKind.u8.wrap (m20 : Int) = (m20 : Int) ∧ IntKind.u32.wrap (v3 : Int) = (v3 : Int) ∧ IntKind.i64.wrap (n4 : Int) = (n4 : Int) ∧ IntKind.i64.wrap (k4 : Int) = (k4 : Int) ∧ IntKind.i64.wrap (m20 : Int) = (m20 : Int) ∧ IntKind.i64.wrap (v3 : Int) = (v3 : Int) := by
    simp only [IntKind.wrap_u8, IntKind.wrap_i64, IntKind.wrap_u32]
    omega
  obtain ⟨w1', w2', w3', w4', w5', w6', w7', w8'⟩ := ww
  have wa : IntKind.i64.wrap ((n4 : Int) + 2) = ((m + 1 : Nat) : Int) := by rw [IntKind.wrap_i64]; omega
  have wb : IntKind.i64.wrap (3 + (k4 : Int)) = K := by rw [IntKind.wrap_i64]; omega
  have wc : IntKind.i64.wrap ((v3 : Int) + 1) = V := by rw [IntKind.wrap_i64]; omega
  have wd : IntKind.i64.wrap ((m20 : Int) + 1) = (NN : Int) := by rw [IntKind.wrap_i64]; omega
  have we : IntKind.i64.wrap (((m + 1 : Nat) : Int) - 1) = (m : Int) := by rw [IntKind.wrap_i64]; omega
  have hm5 : 1 ≤ m ∧ m ≤ 4 := by omega
  have hKc : K = 3 ∨ K = 4 ∨ K = 5 ∨ K = 6 := by omega
  have hVb : 1 ≤ V ∧ V ≤ 1000 := by omega
  have hNb : 1 ≤ NN ∧ NN ≤ 20 := by omega
  obtain ⟨m1, hm1⟩ : ∃ m1, m + 1 = m1 := ⟨_, rfl⟩
  rw [hm1] at wa we
  have HKK := Lib.hid (show K = 3 + ((2 : Nat) : Int) by omega)
  have HK := Lib.hid (And.intro hm5 (And.intro hKc (And.intro hVb (And.intro hNb hm1))))
  clear hkk hn4 hk4 hv3 hm20 hm hK hV hNN hm5 hKc hVb hNb hm1 hv hmx hkd hn
  go_enter Tryd.func5, Tryd.ntmps5
  go_wp2_with fail
  refine ck.mono ?_
  rintro e w1 ⟨rfl, q1⟩
  have cB1 := cB w1
  clear ck cB
  go_wp2_with fail
  refine cB1.mono ?_
  rintro e w2 ⟨P, X, b, wv, tv, fv, rfl, hPd, hM, _, _, q2⟩
  have cO := fun w' (q : B w2 w') lv L hL hI => xops_any smD hPd w' (hM.keepB q) (by show (0 : Nat) ≤ _; omega) lv L hL hI
  have HP := Lib.hid (And.intro hPd (q1.trans q2))
  generalize P.b = pb at *
  clear hM cB1 q1 q2 hPd
  go_wp2_with fail
  go_loopw [13, 12] (fun iv lv wr => ∃ (i : Nat) (lo : Option Addr) (lc : Nat), i ≤ m1 ∧ iv = .int .i64 i ∧ lv = .slice lo i lc ∧ wr.ownsRow w2.heap.size 36 3 (.slice lo i lc) i (flatWp (smW i)) ∧ B w2 wr) (fun iv _ _ => m1 + 1 - (intOf iv).toNat)
  case atStart => exact ⟨0, none, 0, Nat.zero_le _, rfl, rfl, World.ownsRow_nil _ _ _ _, B.refl _⟩
  case round =>
    obtain ⟨i, lo, lc, hi, rfl, rfl, hW, q⟩ := hrel
    obtain ⟨wo, rfl⟩ : ∃ wo : World, wo = wr := ⟨_, rfl⟩
    by_cases hl : i < m1
    · have hlB : decide ((i : Int) < (m1 : Int)) = true := decide_eq_true (by omega)
      have hlN : decide (i < m1) = true := decide_eq_true hl
      have hm6 : m1 ≤ 5 := by have := HK.out.1; have := HK.out.2.2.2.2; omega
      have wk1 : IntKind.i64.wrap ((i : Int) + 1) = (i : Int) + 1 := by rw [IntKind.wrap_i64]; omega
      have hi6 : i ≤ 5 := by omega
      have hi5 : (i : Int).tmod 5 = (i : Int) := by rw [Int.tmod_eq_emod_of_nonneg (by omega)]; omega
      have wi : IntKind.i64.wrap (i : Int) = (i : Int) := by rw [IntKind.wrap_i64]; omega
      have qb : B wo (wo.alloc (.cells #[.string ⟨#[112, 108, 97, 116, 101]⟩, .int .i64 0, .int .i64 (i : Int)] 36)) := (B.refl _).alloc _ _
      have own3 := row_keep hW qb
      have hb3 := (q.trans qb).below.size
      have HX := Lib.hid (And.intro hl (q.trans qb))
      clear hW q qb hi hl
      go_wp2_with (at_builtin; go_loud (refine wpList_append_lies _ rfl _ _ 25 rfl w2.heap.size 36 i0 _ 3 32 Tryd.underlying25 hi0 hz0 hz1 hz2 rfl (by omega) (.slice lo i lc) i (flatWp (smW i)) rfl own3 ⟨_, 0, none⟩ 1 1 [.string ⟨#[112, 108, 97, 116, 101]⟩, .int .i64 0, .int .i64 (i : Int)] rfl rfl (newest rfl) (fun u hu => by simp only [List.mem_cons, List.not_mem_nil, or_false] at hu; rcases hu with rfl | rfl | rfl <;> rfl) (by omega) (by unfold maxLen; omega) (by omega) hb3 _ rfl ?_; intro g1 c1 W4 hown4 hgrow4 hat4 hlt4; have hB4 := HX.out.2.grownBy hgrow4 (fun x hx => (own3.lt x hx).1); clear hgrow4 hat4 hlt4 own3 hb3; replace hB4 := Lib.hid (And.intro hB4 hown4); clear hown4; go_wp2_with fail))
      refine ⟨⟨i + 1, some ⟨g1, 0, none⟩, c1, by have := HX.out.1; omega, by go_num, rfl, ?_, hB4.out.1⟩, by have := HX.out.1; simp [intOf]; omega⟩
      have hs := hB4.out.2
      rw [smW_snoc, flatWp_snoc]
      exact hs
    · have hlB : decide ((i : Int) < (m1 : Int)) = false := decide_eq_false (by omega)
      have hlN : decide (i < m1) = false := decide_eq_false hl
      obtain rfl : i = m1 := by omega
      have hm6 : 2 ≤ i ∧ i ≤ 5 := by have := HK.out.1; have := HK.out.2.2.2.2; omega
      obtain ⟨g, rfl, hgb, hcc, hcm⟩ := own_full hW (by omega)
      have HX := Lib.hid (And.intro hW (And.intro q hm6))
      clear hW q hi hl
      rcases HK.out.2.1 with rfl | rfl | rfl | rfl
      · exact absurd HKK.out (by decide)
      · exact absurd HKK.out (by decide)
      · have hmi : m + 1 = i := HK.out.2.2.2.2
        have hokS : stepOk ⟨5, ⟨#[]⟩, smW 1, V, (NN : Int)⟩ = true := sm_ok5 V NN HK.out.2.2.1 HK.out.2.2.2.1
        have hwp : IsWps wo (.slice (some ⟨g, 0, none⟩) 1 lc) (smW 1) := wps_one (isWps_own (show wo.ownsRow w2.heap.size 36 3 (.slice (some ⟨g, 0, none⟩) i lc) (smW i).length (flatWp (smW i)) by rw [smW_len]; exact HX.out.1)) (by omega)
        have q0 : B wo (wo.alloc (.cells #[.int .i64 5, .string ⟨#[]⟩, .slice (some ⟨g, 0, none⟩) 1 lc, .int .i64 V, .int .i64 (NN : Int)] 27)) := (B.refl _).alloc _ _
        have oS := obj_new wo (.cells #[.int .i64 5, .string ⟨#[]⟩, .slice (some ⟨g, 0, none⟩) 1 lc, .int .i64 V, .int .i64 (NN : Int)] 27)
        have hsp := sps_lit2 (wo.alloc (.cells #[.int .i64 5, .string ⟨#[]⟩, .slice (some ⟨g, 0, none⟩) 1 lc, .int .i64 V, .int .i64 (NN : Int)] 27)) ⟨0, nameT1, [], 0, 0⟩ ⟨5, ⟨#[]⟩, smW 1, V, (NN : Int)⟩ (.slice (some ⟨g, 0, none⟩) 1 lc) rfl (hwp.keepB q0)
        have hz : (wo.alloc (.cells #[.int .i64 5, .string ⟨#[]⟩, .slice (some ⟨g, 0, none⟩) 1 lc, .int .i64 V, .int .i64 (NN : Int)] 27)).heap.size = wo.heap.size + 1 := by simp
        rw [hz] at hsp
        have hfl : (flatSp [⟨0, nameT1, [], 0, 0⟩, ⟨5, ⟨#[]⟩, smW 1, V, (NN : Int)⟩] [.slice none 0 0, .slice (some ⟨g, 0, none⟩) 1 lc]).toArray = #[.int .i64 0, .string ⟨#[116, 49]⟩, .slice none 0 0, .int .i64 0, .int .i64 0, .int .i64 5, .string ⟨#[]⟩, .slice (some ⟨g, 0, none⟩) 1 lc, .int .i64 V, .int .i64 (NN : Int)] := rfl
        rw [hfl] at hsp
        have qs : B (wo.alloc (.cells #[.int .i64 5, .string ⟨#[]⟩, .slice (some ⟨g, 0, none⟩) 1 lc, .int .i64 V, .int .i64 (NN : Int)] 27)) ((wo.alloc (.cells #[.int .i64 5, .string ⟨#[]⟩, .slice (some ⟨g, 0, none⟩) 1 lc, .int .i64 V, .int .i64 (NN : Int)] 27)).alloc (.cells #[.int .i64 0, .string ⟨#[116, 49]⟩, .slice none 0 0, .int .i64 0, .int .i64 0, .int .i64 5, .string ⟨#[]⟩, .slice (some ⟨g, 0, none⟩) 1 lc, .int .i64 V, .int .i64 (NN : Int)] 27)) := (B.refl _).alloc _ _
        have cc := cO _ ((HX.out.2.1.trans q0).trans qs) _ _ hsp (sm_spsI (s := ⟨5, ⟨#[]⟩, smW 1, V, (NN : Int)⟩) (m := 1) (by omega) rfl)
        have hrun := sm_run ⟨5, ⟨#[]⟩, smW 1, V, (NN : Int)⟩ hokS (by simp) (by simp) (smW_in (by omega))
        have oS1 := qs.obj oS
        have HS := Lib.hid (And.intro hrun (And.intro oS1 (And.intro ((HX.out.2.1.trans q0).trans qs) (row_keep (row_keep HX.out.1 q0) qs))))
        have HM := Lib.hid hmi
        clear hokS hwp q0 hsp qs hrun oS1 cO hmi hz hfl
        go_wp2_with fail
        refine Calls.mono cc ?_
        rintro e w5 hR
        obtain ⟨o1, k1, o2, k2, rfl, r1, r2, q5⟩ := hR.okd HS.out.1
        have hlen : (movesS ⟨5, ⟨#[]⟩, smW 1, V, (NN : Int)⟩).length = NN := (sm_mix V NN 0 (by have := HK.out.2.2.2.1; omega)).1
        simp only [tagX_len, List.length_replicate, hlen] at r1 r2 ⊢
        obtain ⟨g1, rfl, _, _, _⟩ := own_full r1 (by have := HK.out.1; have := HK.out.2.2.2.1; omega)
        obtain ⟨g2, rfl, _, _, _⟩ := own_full r2 (by have := HK.out.1; have := HK.out.2.2.2.1; omega)
        have HR := Lib.hid (And.intro r1 (And.intro r2 (And.intro (q5.obj HS.out.2.1) (And.intro (row_keep HS.out.2.2.2 q5) (HS.out.2.2.1.trans q5)))))
        clear hR r1 r2 q5 cc hlen
        go_wp2_with fail
        go_loopw [20] (fun jv wr => ∃ j : Nat, j ≤ NN ∧ jv = .int .i64 j ∧ B w5 wr) (fun jv _ => NN + 1 - (intOf jv).toNat)
        case atStart => exact ⟨0, Nat.zero_le _, rfl, B.refl _⟩
        case round =>
          obtain ⟨j, hj, rfl, qj⟩ := hrel
          obtain ⟨wl, rfl⟩ : ∃ wl : World, wl = wr := ⟨_, rfl⟩
          by_cases hl : j < NN
          · have hlB2 : decide ((j : Int) < (NN : Int)) = true := decide_eq_true (by omega)
            have hlN2 : decide (j < NN) = true := decide_eq_true hl
            have hlI2 : (j : Int) < (NN : Int) := by omega
            have hj0 : (0 : Int) ≤ (j : Int) := by omega
            have hMb : NN ≤ 20 ∧ m + 1 = i := ⟨by have := HK.out.1; have := HK.out.2.2.2.1; omega, HM.out⟩
            have wk1 : IntKind.i64.wrap ((j : Int) + 1) = (j : Int) + 1 := by rw [IntKind.wrap_i64]; omega
            obtain ⟨_, hx⟩ := sm_mix V NN j (by omega)
            have hx2 := tagX_at (t := nameT1) hx
            have r1 := row_keep HR.out.1 qj
            have r2 := row_keep HR.out.2.1 qj
            have oS5 := qj.obj HR.out.2.2.1
            have hW5 := row_keep HR.out.2.2.2.1 qj
            have y0 : wl.cell? ⟨g1, j * 9, none⟩ = some (.string ⟨#[112, 108, 97, 116, 101]⟩) := by have := r1.cellAt (j * 9 + 0) (by omega); rw [flatOp_get hx2 0 (by omega)] at this; exact this
            have y1 : wl.cell? ⟨g1, j * 9 + 1, none⟩ = some (.int .i64 0) := by have := r1.cellAt (j * 9 + 1) (by omega); rw [flatOp_get hx2 1 (by omega)] at this; exact this
            have y2 : wl.cell? ⟨g1, j * 9 + 2, none⟩ = some (.int .i64 0) := by have := r1.cellAt (j * 9 + 2) (by omega); rw [flatOp_get hx2 2 (by omega)] at this; exact this
            have y3 : wl.cell? ⟨g1, j * 9 + 3, none⟩ = some (.string ⟨#[112, 108, 97, 116, 101]⟩) := by have := r1.cellAt (j * 9 + 3) (by omega); rw [flatOp_get hx2 3 (by omega)] at this; exact this
            have y4 : wl.cell? ⟨g1, j * 9 + 4, none⟩ = some (.int .i64 0) := by have := r1.cellAt (j * 9 + 4) (by omega); rw [flatOp_get hx2 4 (by omega)] at this; exact this
            have y5 : wl.cell? ⟨g1, j * 9 + 5, none⟩ = some (.int .i64 0) := by have := r1.cellAt (j * 9 + 5) (by omega); rw [flatOp_get hx2 5 (by omega)] at this; exact this
            have y6 : wl.cell? ⟨g1, j * 9 + 6, none⟩ = some (.int .i64 V) := by have := r1.cellAt (j * 9 + 6) (by omega); rw [flatOp_get hx2 6 (by omega)] at this; exact this
            have y7 : wl.cell? ⟨g1, j * 9 + 7, none⟩ = some (.string ⟨#[116, 49]⟩) := by have := r1.cellAt (j * 9 + 7) (by omega); rw [flatOp_get hx2 7 (by omega)] at this; exact this
            have y8 : wl.cell? ⟨g1, j * 9 + 8, none⟩ = some (.bool (decide (j = 0))) := by have := r1.cellAt (j * 9 + 8) (by omega); rw [flatOp_get hx2 8 (by omega)] at this; exact this
            have z2 : wl.cell? ⟨g2, j, none⟩ = some (.int .i64 1) := by have := r2.cellAt j (by omega); rw [this]; unfold flatI; rw [List.getElem?_map, List.getElem?_replicate, if_pos hl]; rfl
            have hj0B : ((j : Int) == 0) = decide (j = 0) := by by_cases e : j = 0 <;> simp [e]
            have hj0N : (j == 0) = decide (j = 0) := by by_cases e : j = 0 <;> simp [e]
            have HJ := Lib.hid (And.intro hl (And.intro qj (And.intro hW5 oS5)))
            have s0 := obj_cell oS5 0
            have s3 := obj_cell oS5 3
            have qx : B wl (wl.alloc (.cells #[.string ⟨#[112, 108, 97, 116, 101]⟩, .int .i64 0, .int .i64 0, .string ⟨#[112, 108, 97, 116, 101]⟩, .int .i64 0, .int .i64 0, .int .i64 V, .string ⟨#[116, 49]⟩, .bool (decide (j = 0))] 64)) := (B.refl _).alloc _ _
            have oX := obj_new wl (.cells #[.string ⟨#[112, 108, 97, 116, 101]⟩, .int .i64 0, .int .i64 0, .string ⟨#[112, 108, 97, 116, 101]⟩, .int .i64 0, .int .i64 0, .int .i64 V, .string ⟨#[116, 49]⟩, .bool (decide (j = 0))] 64)
            have sX0 := qx.keep s0
            have sX3 := qx.keep s3
            have zX2 := qx.keep z2
            have hWX := row_keep hW5 qx
            obtain ⟨mi, hmi⟩ : ∃ mi : Nat, Nat.min (j + 1) m = mi := ⟨_, rfl⟩
            have hmi5 : mi < i := by have h1 : Nat.min (j + 1) m ≤ m := Nat.min_le_right _ _; omega
            have hmin : min ((j : Int) + 1) (m : Int) = (mi : Int) := by (have h1 : min (j + 1) m = mi := hmi; omega)
            have hmiI : (mi : Int) < (i : Int) := by omega
            have hmi0 : (0 : Int) ≤ (mi : Int) := by omega
            have hiI0 : (0 : Int) < (i : Int) := by omega
            obtain ⟨p0, p1, p2⟩ := flatWp_get _ 0 (smP 0) (smW_at (by omega : 0 < i))
            obtain ⟨r0, r1', r2'⟩ := flatWp_get _ mi (smP mi) (smW_at hmi5)
            have e0 := (hWX.cellAt (0 * 3) (by omega)).trans p0
            have e1 := (hWX.cellAt (0 * 3 + 1) (by omega)).trans p1
            have e2 := (hWX.cellAt (0 * 3 + 2) (by omega)).trans p2
            have f0 := (hWX.cellAt (mi * 3) (by omega)).trans r0
            have f1 := (hWX.cellAt (mi * 3 + 1) (by omega)).trans r1'
            have f2 := (hWX.cellAt (mi * 3 + 2) (by omega)).trans r2'
            have HJ2 := Lib.hid (And.intro (HJ.out.2.1.trans qx) hWX)
            have c0 := obj_cell oX 0
            have c1 := obj_cell oX 1
            have c2 := obj_cell oX 2
            have c3 := obj_cell oX 3
            have c4 := obj_cell oX 4
            have c5 := obj_cell oX 5
            simp only [smP, namePlate, Nat.zero_mul, Nat.zero_add] at e0 e1 e2 f0 f1 f2
            clear qj r1 r2 hx hx2 hj oS5 hW5 hWX p0 p1 p2 r0 r1' r2' s0 s3
            have HL9 := Lib.hid hl
            clear hl
            cases hJ0 : decide (j = 0)
            all_goals
              rw [hJ0] at *
              replace hJ0 := Lib.hid hJ0
              go_wp2_with fail
              generalize wl.alloc _ = u at *
              generalize wl.heap.size = xb at *
              have qa1 : ∀ cs, B u (u.alloc (.cells cs 36)) := fun cs => (B.refl _).alloc _ _
              have qa2 : ∀ cs cs', B u ((u.alloc (.cells cs 36)).alloc (.cells cs' 36)) := fun cs cs' => ((B.refl _).alloc _ _).alloc _ _
              have e0' := fun cs => (qa1 cs).keep e0
              have e1' := fun cs => (qa1 cs).keep e1
              have e2' := fun cs => (qa1 cs).keep e2
              have f0' := fun cs => (qa1 cs).keep f0
              have f1' := fun cs => (qa1 cs).keep f1
              have f2' := fun cs => (qa1 cs).keep f2
              have e0'' := fun cs cs' => (qa2 cs cs').keep e0
              have e1'' := fun cs cs' => (qa2 cs cs').keep e1
              have e2'' := fun cs cs' => (qa2 cs cs').keep e2
              have f0'' := fun cs cs' => (qa2 cs cs').keep f0
              have f1'' := fun cs cs' => (qa2 cs cs').keep f1
              have f2'' := fun cs cs' => (qa2 cs cs').keep f2
              have s0'' := fun cs cs' => (qa2 cs cs').keep sX0
              have c0'' := fun cs cs' => (qa2 cs cs').keep c0
              have c1'' := fun cs cs' => (qa2 cs cs').keep c1
              have c2'' := fun cs cs' => (qa2 cs cs').keep c2
              have c3'' := fun cs cs' => (qa2 cs cs').keep c3
              have c4'' := fun cs cs' => (qa2 cs cs').keep c4
              have c5'' := fun cs cs' => (qa2 cs cs').keep c5
              go_region
              all_goals
                clear e0' e1' e2' f0' f1' f2' e0'' e1'' e2'' f0'' f1'' f2'' e0 e1 e2 f0 f1 f2 c0 c1 c2 c3 c4 c5 y0 y1 y2 y3 y4 y5 y6 y7 y8
                go_wp2_with fail
                try simp only [Exit.inBlock, Exit.then]
                go_roundw
                case measure => have := HL9.out; simp [intOf]; omega
                case rel =>
                  refine ⟨j + 1, by have := HL9.out; omega, by go_num, ?_⟩
                  first
                    | exact (HJ2.out.1.trans (qa2 _ _)).drew
                    | exact (HJ2.out.1.trans (qa2 _ _))
                    | (trace_state; sorry)
          · have hlB2 : decide ((j : Int) < (NN : Int)) = false := decide_eq_false (by omega)
            have hlN2 : decide (j < NN) = false := decide_eq_false hl
            have HF := Lib.hid (HP.out.2.trans (HR.out.2.2.2.2.trans qj))
            clear qj hj hl
            go_wp2
            go_ret
            exact ⟨rfl, HF.out⟩
      · exact absurd HKK.out (by decide)
end Go.Proofs.YtjdkhobkdlldnaaDoor
namespace Go.Proofs.YtjdkhobkdlldnaaDoor
open Go.RowKit
set_option linter.unusedVariables false

theorem wellI13_6 : (Tryd.prog.info? 36).map (fun i => (i.zero, i.size, i.bytes)) = some (some (.agg #[.string ⟨#[]⟩, .int .i64 0, .int .i64 0]), 3, 32) := by kernel_rfl
set_option maxRecDepth 100000 in
set_option maxHeartbeats 4000000 in
theorem sums13_k6 (kd n : Nat) (v mx : Nat) (hkk : kd % 4 = 3) (hkd : kd < 256) (hn : n < 256) (hv : v < 4294967296) (hmx : mx < 256) (w : World) : Calls Tryd.prog 5 #[.int .u8 (kd : Int), .int .u8 (n : Int), .int .u32 (v : Int), .int .u8 (mx : Int)] w fun e w' => e = .returned (.bool true) ∧ B w w' := by
  have ck := known13_any w
  have cB := fun w' => boards13_any 0 20 0 1 _ [] (by decide) (by decide) (by decide) (by decide) (by decide) w' (isU32s_nil w')
  obtain ⟨i0, hi0, hz0, hz1, hz2⟩ := info_of wellI13_6
  obtain ⟨n4, hn4⟩ : ∃ n4, n % 4 = n4 := ⟨_, rfl⟩
  obtain ⟨k4, hk4⟩ : ∃ k4, kd % 4 = k4 := ⟨_, rfl⟩
  obtain ⟨v3, hv3⟩ : ∃ v3, v % 1000 = v3 := ⟨_, rfl⟩
  obtain ⟨m20, hm20⟩ : ∃ m20, mx % 20 = m20 := ⟨_, rfl⟩
  have hn4T : (n : Int).tmod 4 = (n4 : Int) := by rw [← hn4]; exact (Int.ofNat_tmod n 4).symm
  have hk4T : (kd : Int).tmod 4 = (k4 : Int) := by rw [← hk4]; exact (Int.ofNat_tmod kd 4).symm
  have hv3T : (v : Int).tmod 1000 = (v3 : Int) := by rw [← hv3]; exact (Int.ofNat_tmod v 1000).symm
  have hm20T : (mx : Int).tmod 20 = (m20 : Int) := by rw [← hm20]; exact (Int.ofNat_tmod mx 20).symm
  obtain ⟨m, hm⟩ : ∃ m, n4 + 1 = m := ⟨_, rfl⟩
  obtain ⟨K, hK⟩ : ∃ K : Int, 3 + (k4 : Int) = K := ⟨_, rfl⟩
  obtain ⟨V, hV⟩ : ∃ V : Int, (v3 : Int) + 1 = V := ⟨_, rfl⟩
  obtain ⟨NN, hNN⟩ : ∃ NN : Nat, m20 + 1 = NN := ⟨_, rfl⟩
  have ww : IntKind.u8.wrap (n4 : Int) = (n4 : Int) ∧ IntKind.u8.wrap (k4 : Int) = (k4 : Int) ∧ IntKind.u8.wrap (m20 : Int) = (m20 : Int) ∧ IntKind.u32.wrap (v3 : Int) = (v3 : Int) ∧ IntKind.i64.wrap (n4 : Int) = (n4 : Int) ∧ IntKind.i64.wrap (k4 : Int) = (k4 : Int) ∧ IntKind.i64.wrap (m20 : Int) = (m20 : Int) ∧ IntKind.i64.wrap (v3 : Int) = (v3 : Int) := by
    simp only [IntKind.wrap_u8, IntKind.wrap_i64, IntKind.wrap_u32]
    omega
  obtain ⟨w1', w2', w3', w4', w5', w6', w7', w8'⟩ := ww
  have wa : IntKind.i64.wrap ((n4 : Int) + 2) = ((m + 1 : Nat) : Int) := by rw [IntKind.wrap_i64]; omega
  have wb : IntKind.i64.wrap (3 + (k4 : Int)) = K := by rw [IntKind.wrap_i64]; omega
  have wc : IntKind.i64.wrap ((v3 : Int) + 1) = V := by rw [IntKind.wrap_i64]; omega
  have wd : IntKind.i64.wrap ((m20 : Int) + 1) = (NN : Int) := by rw [IntKind.wrap_i64]; omega
  have we : IntKind.i64.wrap (((m + 1 : Nat) : Int) - 1) = (m : Int) := by rw [IntKind.wrap_i64]; omega
  have hm5 : 1 ≤ m ∧ m ≤ 4 := by omega
  have hKc : K = 3 ∨ K = 4 ∨ K = 5 ∨ K = 6 := by omega
  have hVb : 1 ≤ V ∧ V ≤ 1000 := by omega
  have hNb : 1 ≤ NN ∧ NN ≤ 20 := by omega
  obtain ⟨m1, hm1⟩ : ∃ m1, m + 1 = m1 := ⟨_, rfl⟩
  rw [hm1] at wa we
  have HKK := Lib.hid (show K = 3 + ((3 : Nat) : Int) by omega)
  have HK := Lib.hid (And.intro hm5 (And.intro hKc (And.intro hVb (And.intro hNb hm1))))
  clear hkk hn4 hk4 hv3 hm20 hm hK hV hNN hm5 hKc hVb hNb hm1 hv hmx hkd hn
  go_enter Tryd.func5, Tryd.ntmps5
  go_wp2_with fail
  refine ck.mono ?_
  rintro e w1 ⟨rfl, q1⟩
  have cB1 := cB w1
  clear ck cB
  go_wp2_with fail
  refine cB1.mono ?_
  rintro e w2 ⟨P, X, b, wv, tv, fv, rfl, hPd, hM, _, _, q2⟩
  have cO := fun w' (q : B w2 w') lv L hL hI => xops_any smD hPd w' (hM.keepB q) (by show (0 : Nat) ≤ _; omega) lv L hL hI
  have HP := Lib.hid (And.intro hPd (q1.trans q2))
  generalize P.b = pb at *
  clear hM cB1 q1 q2 hPd
  go_wp2_with fail
  go_loopw [13, 12] (fun iv lv wr => ∃ (i : Nat) (lo : Option Addr) (lc : Nat), i ≤ m1 ∧ iv = .int .i64 i ∧ lv = .slice lo i lc ∧ wr.ownsRow w2.heap.size 36 3 (.slice lo i lc) i (flatWp (smW i)) ∧ B w2 wr) (fun iv _ _ => m1 + 1 - (intOf iv).toNat)
  case atStart => exact ⟨0, none, 0, Nat.zero_le _, rfl, rfl, World.ownsRow_nil _ _ _ _, B.refl _⟩
  case round =>
    obtain ⟨i, lo, lc, hi, rfl, rfl, hW, q⟩ := hrel
    obtain ⟨wo, rfl⟩ : ∃ wo : World, wo = wr := ⟨_, rfl⟩
    by_cases hl : i < m1
    · have hlB : decide ((i : Int) < (m1 : Int)) = true := decide_eq_true (by omega)
      have hlN : decide (i < m1) = true := decide_eq_true hl
      have hm6 : m1 ≤ 5 := by have := HK.out.1; have := HK.out.2.2.2.2; omega
      have wk1 : IntKind.i64.wrap ((i : Int) + 1) = (i : Int) + 1 := by rw [IntKind.wrap_i64]; omega
      have hi6 : i ≤ 5 := by omega
      have hi5 : (i : Int).tmod 5 = (i : Int) := by rw [Int.tmod_eq_emod_of_nonneg (by omega)]; omega
      have wi : IntKind.i64.wrap (i : Int) = (i : Int) := by rw [IntKind.wrap_i64]; omega
      have qb : B wo (wo.alloc (.cells #[.string ⟨#[112, 108, 97, 116, 101]⟩, .int .i64 0, .int .i64 (i : Int)] 36)) := (B.refl _).alloc _ _
      have own3 := row_keep hW qb
      have hb3 := (q.trans qb).below.size
      have HX := Lib.hid (And.intro hl (q.trans qb))
      clear hW q qb hi hl
      go_wp2_with (at_builtin; go_loud (refine wpList_append_lies _ rfl _ _ 25 rfl w2.heap.size 36 i0 _ 3 32 Tryd.underlying25 hi0 hz0 hz1 hz2 rfl (by omega) (.slice lo i lc) i (flatWp (smW i)) rfl own3 ⟨_, 0, none⟩ 1 1 [.string ⟨#[112, 108, 97, 116, 101]⟩, .int .i64 0, .int .i64 (i : Int)] rfl rfl (newest rfl) (fun u hu => by simp only [List.mem_cons, List.not_mem_nil, or_false] at hu; rcases hu with rfl | rfl | rfl <;> rfl) (by omega) (by unfold maxLen; omega) (by omega) hb3 _ rfl ?_; intro g1 c1 W4 hown4 hgrow4 hat4 hlt4; have hB4 := HX.out.2.grownBy hgrow4 (fun x hx => (own3.lt x hx).1); clear hgrow4 hat4 hlt4 own3 hb3; replace hB4 := Lib.hid (And.intro hB4 hown4); clear hown4; go_wp2_with fail))
      refine ⟨⟨i + 1, some ⟨g1, 0, none⟩, c1, by have := HX.out.1; omega, by go_num, rfl, ?_, hB4.out.1⟩, by have := HX.out.1; simp [intOf]; omega⟩
      have hs := hB4.out.2
      rw [smW_snoc, flatWp_snoc]
      exact hs
    · have hlB : decide ((i : Int) < (m1 : Int)) = false := decide_eq_false (by omega)
      have hlN : decide (i < m1) = false := decide_eq_false hl
      obtain rfl : i = m1 := by omega
      have hm6 : 2 ≤ i ∧ i ≤ 5 := by have := HK.out.1; have := HK.out.2.2.2.2; omega
      obtain ⟨g, rfl, hgb, hcc, hcm⟩ := own_full hW (by omega)
      have HX := Lib.hid (And.intro hW (And.intro q hm6))
      clear hW q hi hl
      rcases HK.out.2.1 with rfl | rfl | rfl | rfl
      · exact absurd HKK.out (by decide)
      · exact absurd HKK.out (by decide)
      · exact absurd HKK.out (by decide)
      · have hmi : m + 1 = i := HK.out.2.2.2.2
        have hokS : stepOk ⟨6, ⟨#[]⟩, smW i, V, 0⟩ = true := sm_ok3 6 V i (by omega) HK.out.2.2.1 HX.out.2.2
        have hwp : IsWps wo (.slice (some ⟨g, 0, none⟩) i lc) (smW i) := isWps_own (show wo.ownsRow w2.heap.size 36 3 (.slice (some ⟨g, 0, none⟩) i lc) (smW i).length (flatWp (smW i)) by rw [smW_len]; exact HX.out.1)
        have q0 : B wo (wo.alloc (.cells #[.int .i64 6, .string ⟨#[]⟩, .slice (some ⟨g, 0, none⟩) i lc, .int .i64 V, .int .i64 0] 27)) := (B.refl _).alloc _ _
        have oS := obj_new wo (.cells #[.int .i64 6, .string ⟨#[]⟩, .slice (some ⟨g, 0, none⟩) i lc, .int .i64 V, .int .i64 0] 27)
        have hsp := sps_lit2 (wo.alloc (.cells #[.int .i64 6, .string ⟨#[]⟩, .slice (some ⟨g, 0, none⟩) i lc, .int .i64 V, .int .i64 0] 27)) ⟨0, nameT1, [], 0, 0⟩ ⟨6, ⟨#[]⟩, smW i, V, 0⟩ (.slice (some ⟨g, 0, none⟩) i lc) rfl (hwp.keepB q0)
        have hz : (wo.alloc (.cells #[.int .i64 6, .string ⟨#[]⟩, .slice (some ⟨g, 0, none⟩) i lc, .int .i64 V, .int .i64 0] 27)).heap.size = wo.heap.size + 1 := by simp
        rw [hz] at hsp
        have hfl : (flatSp [⟨0, nameT1, [], 0, 0⟩, ⟨6, ⟨#[]⟩, smW i, V, 0⟩] [.slice none 0 0, .slice (some ⟨g, 0, none⟩) i lc]).toArray = #[.int .i64 0, .string ⟨#[116, 49]⟩, .slice none 0 0, .int .i64 0, .int .i64 0, .int .i64 6, .string ⟨#[]⟩, .slice (some ⟨g, 0, none⟩) i lc, .int .i64 V, .int .i64 0] := rfl
        rw [hfl] at hsp
        have qs : B (wo.alloc (.cells #[.int .i64 6, .string ⟨#[]⟩, .slice (some ⟨g, 0, none⟩) i lc, .int .i64 V, .int .i64 0] 27)) ((wo.alloc (.cells #[.int .i64 6, .string ⟨#[]⟩, .slice (some ⟨g, 0, none⟩) i lc, .int .i64 V, .int .i64 0] 27)).alloc (.cells #[.int .i64 0, .string ⟨#[116, 49]⟩, .slice none 0 0, .int .i64 0, .int .i64 0, .int .i64 6, .string ⟨#[]⟩, .slice (some ⟨g, 0, none⟩) i lc, .int .i64 V, .int .i64 0] 27)) := (B.refl _).alloc _ _
        have cc := cO _ ((HX.out.2.1.trans q0).trans qs) _ _ hsp (sm_spsI (s := ⟨6, ⟨#[]⟩, smW i, V, 0⟩) (m := i) (by omega) rfl)
        have hrun := sm_run ⟨6, ⟨#[]⟩, smW i, V, 0⟩ hokS (by simp) (by simp) (smW_in (by omega))
        have oS1 := qs.obj oS
        have HS := Lib.hid (And.intro hrun (And.intro oS1 (And.intro ((HX.out.2.1.trans q0).trans qs) (row_keep (row_keep HX.out.1 q0) qs))))
        have HM := Lib.hid hmi
        clear hokS hwp q0 hsp qs hrun oS1 cO hmi hz hfl
        go_wp2_with fail
        refine Calls.mono cc ?_
        rintro e w5 hR
        obtain ⟨o1, k1, o2, k2, rfl, r1, r2, q5⟩ := hR.okd HS.out.1
        have hlen : (movesS ⟨6, ⟨#[]⟩, smW i, V, 0⟩).length = m := (by have := (sm_at 6 V 0 m 0 (by omega) (by have := HK.out.1; omega)).1; rw [HM.out] at this; exact this)
        simp only [tagX_len, List.length_replicate, hlen] at r1 r2 ⊢
        obtain ⟨g1, rfl, _, _, _⟩ := own_full r1 (by have := HK.out.1; have := HK.out.2.2.2.1; omega)
        obtain ⟨g2, rfl, _, _, _⟩ := own_full r2 (by have := HK.out.1; have := HK.out.2.2.2.1; omega)
        have HR := Lib.hid (And.intro r1 (And.intro r2 (And.intro (q5.obj HS.out.2.1) (And.intro (row_keep HS.out.2.2.2 q5) (HS.out.2.2.1.trans q5)))))
        clear hR r1 r2 q5 cc hlen
        go_wp2_with fail
        go_loopw [20] (fun jv wr => ∃ j : Nat, j ≤ m ∧ jv = .int .i64 j ∧ B w5 wr) (fun jv _ => m + 1 - (intOf jv).toNat)
        case atStart => exact ⟨0, Nat.zero_le _, rfl, B.refl _⟩
        case round =>
          obtain ⟨j, hj, rfl, qj⟩ := hrel
          obtain ⟨wl, rfl⟩ : ∃ wl : World, wl = wr := ⟨_, rfl⟩
          by_cases hl : j < m
          · have hlB2 : decide ((j : Int) < (m : Int)) = true := decide_eq_true (by omega)
            have hlN2 : decide (j < m) = true := decide_eq_true hl
            have hlI2 : (j : Int) < (m : Int) := by omega
            have hj0 : (0 : Int) ≤ (j : Int) := by omega
            have hMb : m ≤ 20 ∧ m + 1 = i := ⟨by have := HK.out.1; have := HK.out.2.2.2.1; omega, HM.out⟩
            have wk1 : IntKind.i64.wrap ((j : Int) + 1) = (j : Int) + 1 := by rw [IntKind.wrap_i64]; omega
            obtain ⟨_, hx⟩ := (by have := sm_at 6 V 0 m j (by omega) (by omega); rw [HM.out] at this; exact this)
            have hx2 := tagX_at (t := nameT1) hx
            have r1 := row_keep HR.out.1 qj
            have r2 := row_keep HR.out.2.1 qj
            have oS5 := qj.obj HR.out.2.2.1
            have hW5 := row_keep HR.out.2.2.2.1 qj
            have y0 : wl.cell? ⟨g1, j * 9, none⟩ = some (.string ⟨#[112, 108, 97, 116, 101]⟩) := by have := r1.cellAt (j * 9 + 0) (by omega); rw [flatOp_get hx2 0 (by omega)] at this; exact this
            have y1 : wl.cell? ⟨g1, j * 9 + 1, none⟩ = some (.int .i64 0) := by have := r1.cellAt (j * 9 + 1) (by omega); rw [flatOp_get hx2 1 (by omega)] at this; exact this
            have y2 : wl.cell? ⟨g1, j * 9 + 2, none⟩ = some (.int .i64 (j : Int)) := by have := r1.cellAt (j * 9 + 2) (by omega); rw [flatOp_get hx2 2 (by omega)] at this; exact this
            have y3 : wl.cell? ⟨g1, j * 9 + 3, none⟩ = some (.string ⟨#[112, 108, 97, 116, 101]⟩) := by have := r1.cellAt (j * 9 + 3) (by omega); rw [flatOp_get hx2 3 (by omega)] at this; exact this
            have y4 : wl.cell? ⟨g1, j * 9 + 4, none⟩ = some (.int .i64 0) := by have := r1.cellAt (j * 9 + 4) (by omega); rw [flatOp_get hx2 4 (by omega)] at this; exact this
            have y5 : wl.cell? ⟨g1, j * 9 + 5, none⟩ = some (.int .i64 ((j : Int) + 1)) := by have := r1.cellAt (j * 9 + 5) (by omega); rw [flatOp_get hx2 5 (by omega)] at this; exact this
            have y6 : wl.cell? ⟨g1, j * 9 + 6, none⟩ = some (.int .i64 V) := by have := r1.cellAt (j * 9 + 6) (by omega); rw [flatOp_get hx2 6 (by omega)] at this; exact this
            have y7 : wl.cell? ⟨g1, j * 9 + 7, none⟩ = some (.string ⟨#[116, 49]⟩) := by have := r1.cellAt (j * 9 + 7) (by omega); rw [flatOp_get hx2 7 (by omega)] at this; exact this
            have y8 : wl.cell? ⟨g1, j * 9 + 8, none⟩ = some (.bool (decide (j = 0))) := by have := r1.cellAt (j * 9 + 8) (by omega); rw [flatOp_get hx2 8 (by omega)] at this; exact this
            have z2 : wl.cell? ⟨g2, j, none⟩ = some (.int .i64 1) := by have := r2.cellAt j (by omega); rw [this]; unfold flatI; rw [List.getElem?_map, List.getElem?_replicate, if_pos hl]; rfl
            have hj0B : ((j : Int) == 0) = decide (j = 0) := by by_cases e : j = 0 <;> simp [e]
            have hj0N : (j == 0) = decide (j = 0) := by by_cases e : j = 0 <;> simp [e]
            have HJ := Lib.hid (And.intro hl (And.intro qj (And.intro hW5 oS5)))
            have s0 := obj_cell oS5 0
            have s3 := obj_cell oS5 3
            have qx : B wl (wl.alloc (.cells #[.string ⟨#[112, 108, 97, 116, 101]⟩, .int .i64 0, .int .i64 (j : Int), .string ⟨#[112, 108, 97, 116, 101]⟩, .int .i64 0, .int .i64 ((j : Int) + 1), .int .i64 V, .string ⟨#[116, 49]⟩, .bool (decide (j = 0))] 64)) := (B.refl _).alloc _ _
            have oX := obj_new wl (.cells #[.string ⟨#[112, 108, 97, 116, 101]⟩, .int .i64 0, .int .i64 (j : Int), .string ⟨#[112, 108, 97, 116, 101]⟩, .int .i64 0, .int .i64 ((j : Int) + 1), .int .i64 V, .string ⟨#[116, 49]⟩, .bool (decide (j = 0))] 64)
            have sX0 := qx.keep s0
            have sX3 := qx.keep s3
            have zX2 := qx.keep z2
            have hWX := row_keep hW5 qx
            obtain ⟨mi, hmi⟩ : ∃ mi : Nat, j + 1 = mi := ⟨_, rfl⟩
            have hmi5 : mi < i := by omega
            have hmin : min ((j : Int) + 1) (m : Int) = (mi : Int) := by rw [← hmi]; omega
            have hmiI : (mi : Int) < (i : Int) := by omega
            have hmi0 : (0 : Int) ≤ (mi : Int) := by omega
            have hiI0 : (0 : Int) < (i : Int) := by omega
            obtain ⟨p0, p1, p2⟩ := flatWp_get _ 0 (smP 0) (smW_at (by omega : 0 < i))
            obtain ⟨r0, r1', r2'⟩ := flatWp_get _ mi (smP mi) (smW_at hmi5)
            have e0 := (hWX.cellAt (0 * 3) (by omega)).trans p0
            have e1 := (hWX.cellAt (0 * 3 + 1) (by omega)).trans p1
            have e2 := (hWX.cellAt (0 * 3 + 2) (by omega)).trans p2
            have f0 := (hWX.cellAt (mi * 3) (by omega)).trans r0
            have f1 := (hWX.cellAt (mi * 3 + 1) (by omega)).trans r1'
            have f2 := (hWX.cellAt (mi * 3 + 2) (by omega)).trans r2'
            obtain ⟨t0, t1, t2⟩ := flatWp_get _ j (smP j) (smW_at (by omega : j < i))
            have h0 := (hWX.cellAt (j * 3) (by omega)).trans t0
            have h1 := (hWX.cellAt (j * 3 + 1) (by omega)).trans t1
            have h2 := (hWX.cellAt (j * 3 + 2) (by omega)).trans t2
            simp only [smP, namePlate] at h0 h1 h2
            have hjiI : (j : Int) < (i : Int) := by omega
            have HJ2 := Lib.hid (And.intro (HJ.out.2.1.trans qx) hWX)
            have c0 := obj_cell oX 0
            have c1 := obj_cell oX 1
            have c2 := obj_cell oX 2
            have c3 := obj_cell oX 3
            have c4 := obj_cell oX 4
            have c5 := obj_cell oX 5
            simp only [smP, namePlate, Nat.zero_mul, Nat.zero_add] at e0 e1 e2 f0 f1 f2
            clear qj r1 r2 hx hx2 hj oS5 hW5 hWX p0 p1 p2 r0 r1' r2' s0 s3
            have HL9 := Lib.hid hl
            clear hl
            cases hJ0 : decide (j = 0)
            all_goals
              rw [hJ0] at *
              replace hJ0 := Lib.hid hJ0
              go_wp2_with fail
              generalize wl.alloc _ = u at *
              generalize wl.heap.size = xb at *
              have qa1 : ∀ cs, B u (u.alloc (.cells cs 36)) := fun cs => (B.refl _).alloc _ _
              have qa2 : ∀ cs cs', B u ((u.alloc (.cells cs 36)).alloc (.cells cs' 36)) := fun cs cs' => ((B.refl _).alloc _ _).alloc _ _
              have e0' := fun cs => (qa1 cs).keep e0
              have e1' := fun cs => (qa1 cs).keep e1
              have e2' := fun cs => (qa1 cs).keep e2
              have f0' := fun cs => (qa1 cs).keep f0
              have f1' := fun cs => (qa1 cs).keep f1
              have f2' := fun cs => (qa1 cs).keep f2
              have e0'' := fun cs cs' => (qa2 cs cs').keep e0
              have e1'' := fun cs cs' => (qa2 cs cs').keep e1
              have e2'' := fun cs cs' => (qa2 cs cs').keep e2
              have f0'' := fun cs cs' => (qa2 cs cs').keep f0
              have f1'' := fun cs cs' => (qa2 cs cs').keep f1
              have f2'' := fun cs cs' => (qa2 cs cs').keep f2
              have s0'' := fun cs cs' => (qa2 cs cs').keep sX0
              have c0'' := fun cs cs' => (qa2 cs cs').keep c0
              have c1'' := fun cs cs' => (qa2 cs cs').keep c1
              have c2'' := fun cs cs' => (qa2 cs cs').keep c2
              have c3'' := fun cs cs' => (qa2 cs cs').keep c3
              have c4'' := fun cs cs' => (qa2 cs cs').keep c4
              have c5'' := fun cs cs' => (qa2 cs cs').keep c5
              have h0'' := fun cs cs' => (qa2 cs cs').keep h0
              have h1'' := fun cs cs' => (qa2 cs cs').keep h1
              have h2'' := fun cs cs' => (qa2 cs cs').keep h2
              go_region
              all_goals
                clear e0' e1' e2' f0' f1' f2' e0'' e1'' e2'' f0'' f1'' f2'' e0 e1 e2 f0 f1 f2 c0 c1 c2 c3 c4 c5 y0 y1 y2 y3 y4 y5 y6 y7 y8
                go_wp2_with fail
                try simp only [Exit.inBlock, Exit.then]
                go_roundw
                case measure => have := HL9.out; simp [intOf]; omega
                case rel =>
                  refine ⟨j + 1, by have := HL9.out; omega, by go_num, ?_⟩
                  first
                    | exact (HJ2.out.1.trans (qa2 _ _)).drew
                    | exact (HJ2.out.1.trans (qa2 _ _))
                    | (trace_state; sorry)
          · have hlB2 : decide ((j : Int) < (m : Int)) = false := decide_eq_false (by omega)
            have hlN2 : decide (j < m) = false := decide_eq_false hl
            have HF := Lib.hid (HP.out.2.trans (HR.out.2.2.2.2.trans qj))
            clear qj hj hl
            go_wp2
            go_ret
            exact ⟨rfl, HF.out⟩
end Go.Proofs.YtjdkhobkdlldnaaDoor
namespace Go.Proofs.YtjdkhobkdlldnaaDoor
open Go.RowKit
set_option linter.unusedVariables false

theorem u32_wf13 {n : Int} (h : (Lit.int .u32 n).wf = true) : 0 ≤ n ∧ n ≤ 4294967295 := by
  simp [Lit.wf, IntKind.min, IntKind.max, IntKind.signed, IntKind.bits] at h
  omega
theorem sums13_ok (kd n v mx : Int) (h1 : (Lit.int .u8 kd).wf = true) (h2 : (Lit.int .u8 n).wf = true) (h3 : (Lit.int .u32 v).wf = true) (h4 : (Lit.int .u8 mx).wf = true) (w : World) (htab : Lib.TabIs Tryd.prog w "internal/strconv.uint64pow10" .u64 Lib.pow10Tab) :
    Calls Tryd.prog 5 #[.int .u8 kd, .int .u8 n, .int .u32 v, .int .u8 mx] w fun e w' => e = .returned (.bool true) ∧ B w w' := by
  have a1 := u8_wf h1
  have a2 := u8_wf h2
  have a3 := u32_wf13 h3
  have a4 := u8_wf h4
  obtain ⟨k, rfl⟩ : ∃ k : Nat, kd = (k : Int) := ⟨kd.toNat, by omega⟩
  obtain ⟨n, rfl⟩ : ∃ k : Nat, n = (k : Int) := ⟨n.toNat, by omega⟩
  obtain ⟨v, rfl⟩ : ∃ k : Nat, v = (k : Int) := ⟨v.toNat, by omega⟩
  obtain ⟨mx, rfl⟩ : ∃ k : Nat, mx = (k : Int) := ⟨mx.toNat, by omega⟩
  have hk : k % 4 = 0 ∨ k % 4 = 1 ∨ k % 4 = 2 ∨ k % 4 = 3 := by omega
  rcases hk with hk | hk | hk | hk
  · exact sums13_k3 k n v mx hk (by omega) (by omega) (by omega) (by omega) w
  · exact sums13_k4 k n v mx hk (by omega) (by omega) (by omega) (by omega) w
  · exact sums13_k5 k n v mx hk (by omega) (by omega) (by omega) (by omega) w
  · exact sums13_k6 k n v mx hk (by omega) (by omega) (by omega) (by omega) w
end Go.Proofs.YtjdkhobkdlldnaaDoor
