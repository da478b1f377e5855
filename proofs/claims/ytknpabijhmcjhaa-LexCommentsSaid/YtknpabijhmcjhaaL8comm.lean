/-
  Comments may have any bytes.
-/
import Derived.Test.YtknpabijhmcjhaaL8tells
import Derived.ArgAppend
import Derived.Lib.AppendZeros
import Derived.Lib.AppendStr
namespace Go.Proofs.Ytknpabijhmcjhaa
open Go.RowKit

theorem scan_comment : ∀ (c rest : List UInt8) (p : Nat) (out : List (List Wd)) (line : List Wd), (∀ x ∈ c, x.toNat ≠ 10) → scan (c ++ rest) p out line [] true = scan rest (p + c.length) out line [] true
  | [], rest, p, out, line, _ => rfl
  | x :: c, rest, p, out, line, h => by
    show scan (x :: (c ++ rest)) p out line [] true = _
    rw [scan, if_neg (h x List.mem_cons_self), if_pos rfl, scan_comment c rest (p + 1) out line fun y hy => h y (List.mem_cons_of_mem _ hy)]
    congr 1
    simp
    omega
def preB : List UInt8 := [117, 115, 101, 32, 116, 32, 35]
def postB : List UInt8 := [9, 109, 105, 120, 32, 112, 46, 65, 49, 32, 53, 32, 50, 32]
def linesC (n : Nat) : List (List Wd) := [[(0, [117, 115, 101]), (4, [116])], [(9 + n, [109, 105, 120]), (13 + n, [112, 46, 65, 49]), (18 + n, [53]), (20 + n, [50])]]
theorem scan_pre (rest : List UInt8) : scan (preB ++ rest) 0 [] [] [] false = scan rest 7 [] [(0, [117, 115, 101]), (4, [116])] [] true := by rfl
theorem scan_post (p : Nat) (line : List Wd) : scan (10 :: postB) p [] line [] true = (flushL (flushL [] line) [(p + 2, [109, 105, 120]), (p + 6, [112, 46, 65, 49]), (p + 11, [53]), (p + 13, [50])], 0, 0) := by rfl
theorem comm_lines (c : List UInt8) (h : ∀ x ∈ c, x.toNat ≠ 10) (hl : c.length ≤ 100) : linesB (preB ++ c ++ [10] ++ postB) = (linesC c.length, 0, 0) := by
  unfold linesB
  have e : (preB ++ c ++ [10] ++ postB).length = c.length + 22 := by simp [preB, postB]
  rw [if_neg (by omega), List.append_assoc, List.append_assoc, scan_pre, scan_comment c _ _ _ _ h]
  show scan (10 :: postB) _ _ _ _ _ = _
  rw [scan_post]
  unfold linesC
  rw [show 7 + c.length + 2 = 9 + c.length by omega, show 7 + c.length + 6 = 13 + c.length by omega, show 7 + c.length + 11 = 18 + c.length by omega, show 7 + c.length + 13 = 20 + c.length by omega]
  rfl
/-- A row that the call owns, or one that is full. -/
def Full (w : World) (base : Nat) (e : TypeId) (v : Value) (n : Nat) (xs : List Value) : Prop :=
  w.ownsRow base e 1 v n xs ∨ ∃ g, v = .slice (some ⟨g, 0, none⟩) n n ∧ xs.length = n ∧ ∀ j u, xs[j]? = some u → w.cell? ⟨g, j, none⟩ = some u
theorem Full.keep {w w' : World} {base : Nat} {e : TypeId} {v : Value} {n : Nat} {xs : List Value} (h : Full w base e v n xs) (q : B w w') : Full w' base e v n xs := by
  rcases h with h | ⟨g, h1, h2, h3⟩
  · exact .inl (row_keep h q)
  · exact .inr ⟨g, h1, h2, fun j u hu => q.keep (h3 j u hu)⟩
theorem full_append {w0 w : World} (base : Nat) (ty : TypeId) (i : TypeInfo) (hi : Try.prog.info? 5 = some i) (hz : i.zero = some (.int .u8 0)) (hs : i.size = 1) (hb : i.bytes = 1)
    (v : Value) (n : Nat) (xs : List Value) (hf : Full w base 5 v n xs) (a : Addr) (m c : Nat) (news : List Value) (hl : news.length = m) (hnews : ∀ j u, news[j]? = some u → w.cell? (a.add j) = some u) (h1 : ∀ u ∈ news, u.oneCell' = true)
    (hm : 0 < m) (h9 : n + m ≤ 140737488355328) (hbase : base ≤ w.heap.size) (hB : B w0 w) (hwb : w0.heap.size ≤ base) :
    ∃ v' w', (Builtin.append_ #[22, 22] ty #[v, .slice (some a) m c]).run Try.prog w = .ok v' w' ∧ w'.ownsRow base 5 1 v' (n + m) (xs ++ news) ∧ B w0 w' := by
  rcases hf with h | ⟨g, rfl, h2, h3⟩
  · obtain ⟨v', w', r1, r2, r3, _⟩ := run_append_own (P := Try.prog) w base 22 ty 5 i (.int .u8 0) 1 1 Try.underlying22 hi hz hs hb rfl (by omega) v n xs h a m c news (by omega) hnews h1 (by unfold maxLen; omega) (by omega) hbase
    exact ⟨v', w', r1, r2, hB.grownBy r3 (fun k hk => Nat.le_trans hwb (h.lt k hk).1)⟩
  · obtain ⟨v', w', r1, r2, r3⟩ := run_append_arg_grows (P := Try.prog) w 22 ty 5 i (.int .u8 0) 1 1 Try.underlying22 hi hz hs hb rfl (by omega) ⟨g, 0, none⟩ n n xs (by omega) (fun j u hu => by rw [addz]; exact h3 j u hu) a m c news (by omega) hnews (by omega) (by unfold maxLen; omega) (by omega)
    exact ⟨v', w', r1, ⟨r2.1, r2.2.imp id fun ⟨g, cap, cur, k1, k2, k3⟩ => ⟨g, cap, cur, k1, Nat.le_trans hbase k2, k3⟩⟩, hB.grownBy r3 (fun k hk => by cases hk)⟩
theorem full_none {w : World} (ty : TypeId) (i : TypeInfo) (hi : Try.prog.info? 5 = some i) (g n : Nat) :
    (Builtin.append_ #[22, 22] ty #[.slice (some ⟨g, 0, none⟩) n n, .slice none 0 0]).run Try.prog w = .ok (.slice (some ⟨g, 0, none⟩) n n) w := by
  simp [Builtin.append_, run_underlying Try.underlying22, sizeOf, typeInfo, hi, Builtin.lenOf, Builtin.firstCells, storeCells]
set_option maxHeartbeats 4000000 in
theorem comm_main (v0 : Value) (b0 : List UInt8) (k : Int) (_hk : (Lit.int .u8 k).wf = true) (w : World) (h0 : IsU8s w v0 b0) : Calls Try.prog 8 #[v0, .int .u8 k] w fun e w' => e = .returned (.bool true) ∧ B w w' := by
  clear _hk
  obtain ⟨ao0, cap0, bk0, o0, rfl, i0⟩ := h0
  obtain ⟨ib, hib, hz0, hz1, hz2⟩ := info_of byteInfo
  by_cases c0 : 100 < b0.length
  · have c0B : decide ((100 : Int) < (b0.length : Int)) = true := decide_eq_true (by omega)
    clear i0 c0
    go_enter Try.func8, Try.ntmps8
    go_wp2_with fail
    refine (known8_any _).mono ?_
    rintro e w1 ⟨rfl, q1⟩
    go_wp2
    go_ret
    exact ⟨rfl, q1⟩
  have c0B : decide ((100 : Int) < (b0.length : Int)) = false := decide_eq_false (by omega)
  go_enter Try.func8, Try.ntmps8
  go_wp2_with fail
  refine (known8_any _).mono ?_
  rintro e w1 ⟨rfl, q1⟩
  go_wp2
  go_loopw [5, 6] (fun cv iv wr => ∃ (i : Nat) (ao : Option Addr) (c : Nat) (bs : List UInt8), i ≤ b0.length ∧ iv = .int .i64 i ∧ cv = .slice ao bs.length c ∧ bs.length ≤ i ∧ (∀ x ∈ bs, x.toNat ≠ 10) ∧ (bs = [] → ao = none ∧ c = 0) ∧ wr.ownsRow w.heap.size 5 1 (.slice ao bs.length c) bs.length (cellsL bs) ∧ B w wr) (fun _ iv _ => b0.length + 1 - (intOf iv).toNat)
  case atStart => exact ⟨0, none, 0, [], by omega, rfl, rfl, by simp, fun x hx => (by cases hx), fun _ => ⟨rfl, rfl⟩, World.ownsRow_nil _ _ _ _, q1⟩
  case round =>
    obtain ⟨i, ao, c, bs, hi, rfl, rfl, hlen, hno, hnil, hown, hB⟩ := hrel
    obtain ⟨wo, rfl⟩ : ∃ wo : World, wo = wr := ⟨_, rfl⟩
    by_cases hl : i < b0.length
    · obtain rfl := i0.ao (by omega)
      obtain ⟨x, hx⟩ : ∃ x, b0[i]? = some x := ⟨_, List.getElem?_eq_getElem hl⟩
      have hc := hB.keep (i0.at_ i x hx)
      have hlB : decide ((i : Int) < (b0.length : Int)) = true := decide_eq_true (by omega)
      have hlI : (i : Int) < (b0.length : Int) := by omega
      have hi0 : (0 : Int) ≤ (i : Int) := by omega
      have wk1 : IntKind.i64.wrap ((i : Int) + 1) = (i : Int) + 1 := by rw [IntKind.wrap_i64]; omega
      obtain ⟨Y, hY⟩ : ∃ Y : Nat, x.toNat = Y := ⟨_, rfl⟩
      rw [hY] at hc
      by_cases e10 : Y = 10
      · have b10 : ((Y : Int) != 10) = false := by simp; omega
        have HS := Lib.hid (And.intro hlen (And.intro hno (And.intro hnil (And.intro hown (And.intro hB hl)))))
        clear hno hnil hown hB hx hY e10 i0 c0 c0B q1 hlen hl hi
        go_wp2
        go_roundw
        case rel => exact ⟨i + 1, ao, c, bs, by have := HS.out.2.2.2.2.2; omega, by go_num, rfl, by have := HS.out.1; omega, HS.out.2.1, HS.out.2.2.1, HS.out.2.2.2.1, HS.out.2.2.2.2.1⟩
        case measure => have := HS.out.2.2.2.2.2; simp [intOf]; omega
      · have b10 : ((Y : Int) != 10) = true := by simp; omega
        have own2 := row_keep hown ((B.refl wo).alloc #[.int .u8 (Y : Int)] 5)
        have B2 := hB.alloc #[.int .u8 (Y : Int)] 5
        have hb2 := B2.below.size
        have hcl : cellsL (bs ++ [x]) = cellsL bs ++ [.int .u8 (Y : Int)] := by unfold cellsL; rw [List.map_append]; simp [hY]
        have HN := Lib.hid (show ∀ y ∈ bs ++ [x], y.toNat ≠ 10 from fun y hy => by
          rcases List.mem_append.1 hy with hy | hy
          · exact hno y hy
          · rw [List.mem_singleton] at hy; subst hy; omega)
        have HS := Lib.hid (And.intro hcl (And.intro B2 (And.intro hlen hl)))
        have h16 : bs.length ≤ 100 := by omega
        clear hown hB hx hY hcl B2 hlen hl i0 c0 c0B q1 hno hnil e10 hi
        go_wp2_with (at_builtin; refine wpList_append_lies _ rfl _ _ 22 rfl w.heap.size 5 ib _ 1 1 Try.underlying22 hib hz0 hz1 hz2 rfl (by omega) (.slice ao bs.length c) bs.length (cellsL bs) rfl own2 ⟨wo.heap.size, 0, none⟩ 1 1 [.int .u8 (Y : Int)] rfl rfl (newest rfl) (fun u hu => by simp at hu; rw [hu]; rfl) (by omega) (by unfold maxLen; omega) (by omega) hb2 _ rfl ?_; intro gb cp W4 hown4 hgrow hat4 hlt4; have B4 := HS.out.2.1.grownBy hgrow (fun x hx => (own2.lt x hx).1); rw [← HS.out.1] at hown4; clear hgrow hat4 hlt4 own2; go_wp2_with fail)
        go_roundw
        case rel => exact ⟨i + 1, some ⟨gb, 0, none⟩, cp, bs ++ [x], by have := HS.out.2.2; omega, by go_num, by simp, by have := HS.out.2.2.1; simp; omega, HN.out, fun e => absurd e (by simp), by simpa using hown4, B4⟩
        case measure => have := HS.out.2.2; simp [intOf]; omega
    · have hlB : decide ((i : Int) < (b0.length : Int)) = false := decide_eq_false (by omega)
      have h16 : bs.length ≤ 100 := by omega
      have HL := Lib.hid (comm_lines bs hno h16)
      have hk := Lib.run_convert_bytes_const (P := Try.prog) wo 22 5 (cellsB preB) 7 7 Try.underlying22 Try.underlying5
      obtain ⟨W1, hW1⟩ : ∃ W1, wo.alloc (.cells (cellsB preB) 5 (7, 8)) = W1 := ⟨_, rfl⟩
      have hpre : cellsB preB = #[.int .u8 117, .int .u8 115, .int .u8 101, .int .u8 32, .int .u8 116, .int .u8 32, .int .u8 35] := rfl
      have q01 : B wo W1 := by rw [← hW1]; exact (B.refl wo).allocM _
      have hF1 : Full W1 w.heap.size 5 (.slice (some ⟨wo.heap.size, 0, none⟩) 7 7) 7 (cellsL preB) := .inr ⟨_, rfl, rfl, fun j u hu => by
        rw [← hW1, World.cell?_alloc_mark]
        exact (by simpa [cellsB, cellsL] using hu)⟩
      rw [show ((cellsB preB).size, (cellsB preB).size + 1) = (7, 8) from rfl, hW1, hpre] at hk
      have BW1 := hB.trans q01
      have own1 := row_keep hown q01
      obtain ⟨v2, W2, r2, F2, B2⟩ : ∃ v2 W2, (Builtin.append_ #[22, 22] 22 #[.slice (some ⟨wo.heap.size, 0, none⟩) 7 7, .slice ao bs.length c]).run Try.prog W1 = .ok v2 W2 ∧ Full W2 w.heap.size 5 v2 (7 + bs.length) (cellsL preB ++ cellsL bs) ∧ B w W2 := by
        by_cases hbs : bs = []
        · obtain ⟨rfl, rfl⟩ := hnil hbs
          subst hbs
          exact ⟨_, _, full_none 22 ib hib wo.heap.size 7, by simpa [cellsL] using hF1, BW1⟩
        · obtain ⟨g, cc, rfl, rfl⟩ : ∃ g cc, ao = some ⟨g, 0, none⟩ ∧ c = cc := by
            have hpos := List.length_pos_iff.2 hbs
            rcases own1.2 with ⟨h0, h1⟩ | ⟨g, cap, cur, hv, _⟩
            · omega
            · simp only [Value.slice.injEq] at hv
              exact ⟨g, c, hv.1, rfl⟩
          obtain ⟨v2, W2, r1, r2, r3⟩ := full_append w.heap.size 22 ib hib hz0 hz1 hz2 _ 7 (cellsL preB) hF1 ⟨g, 0, none⟩ bs.length c (cellsL bs) (cellsL_len bs) (own1.cells rfl) (fun u hu => by obtain ⟨y, _, rfl⟩ := List.mem_map.1 hu; rfl) (List.length_pos_iff.2 hbs) (by omega) BW1.below.size BW1 (Nat.le_refl _)
          exact ⟨v2, W2, r1, .inl r2, r3⟩
      have hF3 := F2.keep ((B.refl W2).alloc #[.int .u8 10] 5)
      have B3 := B2.alloc #[.int .u8 10] 5
      obtain ⟨v4, W4, r4, O4, B4⟩ := full_append w.heap.size 22 ib hib hz0 hz1 hz2 v2 (7 + bs.length) _ hF3 ⟨W2.heap.size, 0, none⟩ 1 1 [.int .u8 10] rfl (newest rfl) (fun u hu => by simp at hu; rw [hu]; rfl) (by omega) (by omega) B3.below.size B3 (Nat.le_refl _)
      obtain ⟨v5, W5, r5, O5, q5, _⟩ := Lib.run_append_own_string (P := Try.prog) W4 w.heap.size 22 9 22 5 ib Try.underlying22 Try.underlying9 hib hz0 hz1 hz2 v4 _ _ O4 ⟨postB.toArray⟩ (by unfold maxLen; simp [postB, ByteArray.size]; omega) (by simp [postB, ByteArray.size]; omega) B4.below.size
      have B5 := B4.grownBy q5 (fun x hx => (O4.lt x hx).1)
      have hpostS : (⟨postB.toArray⟩ : ByteArray).size = 14 := rfl
      have hcells : cellsL preB ++ cellsL bs ++ [Value.int .u8 10] ++ Lib.strCells ⟨postB.toArray⟩ = cellsL (preB ++ bs ++ [10] ++ postB) := by simp [cellsL, Lib.strCells]
      rw [hcells, hpostS] at O5
      have hlen5 : (preB ++ bs ++ [10] ++ postB).length = 7 + bs.length + 1 + 14 := by simp [preB, postB]; omega
      obtain ⟨g5, c5, rfl⟩ : ∃ g5 c5, v5 = .slice (some ⟨g5, 0, none⟩) (7 + bs.length + 1 + 14) c5 := by
        rcases O5.2 with ⟨_, h1⟩ | ⟨g, cap, cur, hv, _⟩
        · omega
        · exact ⟨g, cap, hv⟩
      obtain ⟨bb, hIs⟩ := isB_own O5 hlen5
      have cl := lines_any _ _ _ _ _ _ hIs
      rw [hlen5] at cl
      have HB5 := Lib.hid B5
      have hpost : postB.toArray = #[9, 109, 105, 120, 32, 112, 46, 65, 49, 32, 53, 32, 50, 32] := rfl
      rw [hpost] at r5
      rw [hpre] at hW1
      clear i0 c0 c0B q1 hno hnil hown own1 hB q01 hF1 BW1 F2 B2 hF3 B3 O4 B4 O5 q5 B5 hIs hcells hlen5 hpostS hi hpre hpost hlen
      obtain ⟨n, hn⟩ : ∃ n, n = 9 + bs.length := ⟨_, rfl⟩
      have wn : IntKind.i64.wrap (9 + (bs.length : Int)) = (n : Int) := by rw [IntKind.wrap_i64]; omega
      go_wp2_with (at_builtin; refine Lib.wpList_append_run _ rfl _ _ _ _ rfl _ _ rfl rfl _ _ r2 ?_; go_wp2_with (at_builtin; refine Lib.wpList_append_run _ rfl _ _ _ _ rfl _ _ rfl rfl _ _ r4 ?_; go_wp2_with (at_builtin; refine Lib.wpList_append_run _ rfl _ _ _ _ rfl _ _ rfl rfl _ _ r5 ?_; go_wp2_with fail)))
      clear r2 r4 r5 hk hW1
      refine cl.mono ?_
      clear cl
      unfold LinesRes
      rw [HL.out]
      unfold linesC
      rw [← hn]
      rintro e w6 ⟨v, rfl, hv, q6⟩
      obtain ⟨g, cap, u, x, rfl, k1, k2, k3, k4⟩ := hv.two
      obtain ⟨a2, cap2, rfl⟩ := k2.form
      obtain ⟨b4, cap4, rfl, _, _, _, z4⟩ := k4.full (by simp)
      obtain ⟨z5, _⟩ := z4 0 _ rfl
      obtain ⟨_, z6⟩ := z4 3 _ rfl
      rw [show strB [50] = ⟨#[50]⟩ from rfl] at z6
      have HQ := Lib.hid (HB5.out.trans q6)
      clear hv k2 k4 z4 q6
      go_wp2_with fail
      go_ret
      exact ⟨rfl, HQ.out⟩
end Go.Proofs.Ytknpabijhmcjhaa
