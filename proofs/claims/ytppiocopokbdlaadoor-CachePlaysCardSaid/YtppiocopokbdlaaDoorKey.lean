/-
  The code's Key: the key's text.
-/
import Derived.Test.YtppiocopokbdlaaDoorKeym
import Derived.Test.YtppiocopokbdlaaDoorShelf
import Derived.Test.YtppiocopokbdlaaDoorSecq
import Derived.Lib.AppendIntMem
import Derived.Lib.BufferKept
import Derived.Lib.BufferRead
import Derived.Lib.OwnKind
import Derived.OwnWalk
namespace Go.Proofs.YtppiocopokbdlaaDoor
open Go.RowKit

theorem u8_info : ∃ i, Tryd.prog.info? 5 = some i ∧ i.zero = some (.int .u8 0) ∧ i.size = 1 ∧ i.bytes = 1 :=
  Go.info_parts (by kernel_rfl)
/-- Bytes are put behind what the call owns. -/
def Grows (B n : Nat) (xs : List Value) (t : List UInt8) (w : World) (e : Ending) (w' : World) : Prop :=
  ∃ v', e = .returned v' ∧ w'.ownsRow B 5 1 v' (n + t.length) (xs ++ Lib.byteCells t) ∧ Below B w w' ∧ Lib.OthersKept 5 none w w'

theorem iappendBool_any (B n : Nat) (b : Bool) (sv : Value) (xs : List Value) (w : World) (hown : w.ownsRow B 5 1 sv n xs) (hBw : B ≤ w.heap.size) (hlim : n + 5 ≤ 140737488355328) :
    Calls Tryd.prog 50 #[sv, .bool b] w (Grows B n xs (boolText b) w) := by
  obtain ⟨i0, hi, hz0, hz1, hz2⟩ := u8_info
  cases b
  · go_enter Tryd.func50, Tryd.ntmps50
    go_wp2_with (at_builtin; refine Lib.wpList_append_own_string _ rfl _ _ 22 9 rfl B 5 i0 (by kernel_rfl) (by kernel_rfl) hi hz0 hz1 hz2 _ _ _ rfl hown ⟨#[102, 97, 108, 115, 101]⟩ rfl (by show n + 5 ≤ maxLen; unfold maxLen; omega) (by show n + 5 ≤ _; omega) hBw ?_)
    intro v1 w1 hown1 hgrow _
    go_wp2
    go_ret
    exact ⟨v1, rfl, hown1, (Below.refl B _).grown hgrow hBw (fun k hk => (hown.lt k hk).1), (Lib.OthersKept.refl _ _ _).grown hgrow (Lib.ownsRow_kind hown)⟩
  · go_enter Tryd.func50, Tryd.ntmps50
    go_wp2_with (at_builtin; refine Lib.wpList_append_own_string _ rfl _ _ 22 9 rfl B 5 i0 (by kernel_rfl) (by kernel_rfl) hi hz0 hz1 hz2 _ _ _ rfl hown ⟨#[116, 114, 117, 101]⟩ rfl (by show n + 4 ≤ maxLen; unfold maxLen; omega) (by show n + 4 ≤ _; omega) hBw ?_)
    intro v1 w1 hown1 hgrow _
    go_wp2
    go_ret
    exact ⟨v1, rfl, hown1, (Below.refl B _).grown hgrow hBw (fun k hk => (hown.lt k hk).1), (Lib.OthersKept.refl _ _ _).grown hgrow (Lib.ownsRow_kind hown)⟩

theorem appendBool_any (B n : Nat) (b : Bool) (sv : Value) (xs : List Value) (w : World) (hown : w.ownsRow B 5 1 sv n xs) (hBw : B ≤ w.heap.size) (hlim : n + 5 ≤ 140737488355328) :
    Calls Tryd.prog 39 #[sv, .bool b] w (Grows B n xs (boolText b) w) := by
  have c := fun w hown hBw => iappendBool_any B n b sv xs w hown hBw hlim
  go_enter Tryd.func39, Tryd.ntmps39
  go_wp2_with fail
  refine (c _ hown hBw).mono ?_
  rintro e w1 ⟨v1, rfl, h1, h2, h3⟩
  go_wp2
  go_ret
  exact ⟨v1, rfl, h1, h2, h3⟩

theorem alloc_at (w : World) (o : Obj) : (w.alloc o).heap[w.heap.size]? = some o := by
  show (w.heap.push o)[w.heap.size]? = some o
  simp
/-- A place of an array of five numbers. -/
theorem arr5_get (x : Nat → Int) (k : Nat) (hk : k < 5) (w : World) : (Instr.index 91 (Value.agg #[.int .i64 (x 0), .int .i64 (x 1), .int .i64 (x 2), .int .i64 (x 3), .int .i64 (x 4)]) (Value.int .i64 (k : Int))).run Tryd.prog w = .ok (.int .i64 (x k)) w := by
  have hu : Tryd.prog.underlying 91 = some (.array 5 2) := by kernel_rfl
  match k, hk with
  | 0, _ => simp [Instr.index, run_underlying hu, asIntOf, part, go_sem]
  | 1, _ => simp [Instr.index, run_underlying hu, asIntOf, part, go_sem]
  | 2, _ => simp [Instr.index, run_underlying hu, asIntOf, part, go_sem]
  | 3, _ => simp [Instr.index, run_underlying hu, asIntOf, part, go_sem]
  | 4, _ => simp [Instr.index, run_underlying hu, asIntOf, part, go_sem]
/-- What the call owns reads as a text. -/
theorem text_of (B n : Nat) (t : List UInt8) (v : Value) (w : World) (h : w.ownsRow B 5 1 v n (Lib.byteCells t)) :
    (convert 22 9 v).run Tryd.prog w = .ok (.string ⟨t.toArray⟩) w := by
  have hs : Tryd.prog.underlying 22 = some (.slice 5) := by kernel_rfl
  have he : Tryd.prog.underlying 5 = some (.int .u8) := by kernel_rfl
  have hd : Tryd.prog.underlying 9 = some .string := by kernel_rfl
  obtain ⟨hl, ⟨rfl, rfl⟩ | ⟨g, cap, cur, rfl, hb, hg, h1, h2, h3, h4⟩⟩ := h
  · have : t = [] := by simpa [Lib.byteCells] using hl
    subst this
    exact Lib.run_convert_nil_bytes w _ _ _ 0 hs he hd
  · have hn : n = t.length := by simpa [Lib.byteCells] using hl.symm
    subst hn
    exact run_convert_bytes_back w _ _ _ _ _ t hs he hd (Lib.bytes_of_row hg (by simpa using h4))

set_option maxRecDepth 100000 in
set_option maxHeartbeats 4000000 in
theorem key_row (a : Addr) (cap : Nat) (l : List Sec) (hl10 : l.length ≤ 10) (w : World) (h4 : ∀ i s, l[i]? = some s → s.I ∧ SecAt w (a.add (i * 6)) s)
    (htab : Lib.TabIs Tryd.prog w "internal/strconv.uint64pow10" .u64 Lib.pow10Tab) :
    Calls Tryd.prog 25 #[.slice (some a) l.length cap] w fun e w' => e = .returned (.string (keyS l)) ∧ B w w' := by
  obtain ⟨i0, hi, hz0, hz1, hz2⟩ := u8_info
  replace htab := Lib.tabBelow_of_tabIs htab
  have hI : ∀ s ∈ l, s.I := fun s hs => by
    obtain ⟨i, hi⟩ := List.getElem?_of_mem hs
    exact (h4 i s hi).1
  have hlen : ∀ k, (keyText (l.take k)).length ≤ 1150 := fun k => by
    have := key_len (l.take k) (fun s hs => hI s (List.mem_of_mem_take hs))
    have := List.length_take (i := k) (l := l)
    omega
  clear hI
  obtain ⟨BB, hBB⟩ : ∃ BB, w.heap.size = BB := ⟨_, rfl⟩
  go_enter Tryd.func25, Tryd.ntmps25
  go_wp2
  rw [hBB] at htab
  go_loopw [3, 10] (fun t i wr => ∃ (k n : Nat), k ≤ l.length ∧ i = .int .i64 k ∧ wr.ownsRow BB 5 1 t n (Lib.byteCells (keyText (l.take k))) ∧ B w wr) (fun _ i _ => l.length - (intOf i).toNat)
  case atStart => exact ⟨0, 0, Nat.zero_le _, rfl, ⟨rfl, .inl ⟨rfl, rfl⟩⟩, B.refl w⟩
  case round =>
    obtain ⟨k, n, hk, rfl, hown, hq⟩ := hrel
    have hn : n ≤ 1150 := by
      have h1 := hown.1
      have := hlen k
      simp [Lib.byteCells] at h1
      omega
    have hB0 : BB ≤ wr.heap.size := by rw [← hBB]; exact hq.below.size
    by_cases hl : k < l.length
    · have hlB : decide (k < l.length) = true := decide_eq_true hl
      have hg := List.getElem?_eq_getElem hl
      obtain ⟨hIs, hs⟩ := h4 k _ hg
      replace hs := hs.keepB hq
      have hkt := key_take l k _ hg
      have HT := Lib.hid (hlen k)
      clear h4 hlen
      generalize l[k] = s at *
      generalize keyText (l.take k) = T at *
      obtain ⟨r, h, a0, b0, a1, b1⟩ := s
      obtain ⟨f0, f1, f2, f3, f4, f5⟩ := hs
      simp only at f0 f1 f2 f3 f4 f5
      have HKT := Lib.hid hkt
      have HM := Lib.hid hg
      have HI := Lib.hid hIs
      clear hkt hg hIs
      have cB := fun w hown hBw => appendBool_any BB n r u3 (Lib.byteCells T) w hown hBw (by omega)
      go_wp2_with fail
      refine (cB _ (hown.alloc _) (by simp; omega)).mono ?_
      rintro e w1 ⟨v1, rfl, hown1, hb1, ho1⟩
      have hx := ho1 wr.heap.size (.cells #[.bool r, .int .i64 h, .int .i64 a0, .int .i64 b0, .int .i64 a1, .int .i64 b1] 47 (0, 0)) (alloc_at wr _) (by simp) (by intro c fz e; cases e)
      have z1 : w1.cell? ⟨wr.heap.size, 1, none⟩ = some (.int .i64 h) := by simp [World.cell?, hx]
      have z2 : w1.cell? ⟨wr.heap.size, 2, none⟩ = some (.int .i64 a0) := by simp [World.cell?, hx]
      have z3 : w1.cell? ⟨wr.heap.size, 3, none⟩ = some (.int .i64 b0) := by simp [World.cell?, hx]
      have z4 : w1.cell? ⟨wr.heap.size, 4, none⟩ = some (.int .i64 a1) := by simp [World.cell?, hx]
      have z5 : w1.cell? ⟨wr.heap.size, 5, none⟩ = some (.int .i64 b1) := by simp [World.cell?, hx]
      have g1 : B w w1 := ⟨(hq.alloc _ _).below.trans (by rw [hBB]; exact hb1)⟩
      clear hx ho1 hb1 hq hown cB
      go_wp2
      have hget := fun j hj w => arr5_get (fieldNo ⟨r, h, a0, b0, a1, b1⟩) j hj w
      change ∀ j : Nat, j < 5 → ∀ w : World, (Instr.index 91 (Value.agg #[.int .i64 h, .int .i64 a0, .int .i64 b0, .int .i64 a1, .int .i64 b1]) (Value.int .i64 (j : Int))).run Tryd.prog w = .ok (.int .i64 (fieldNo ⟨r, h, a0, b0, a1, b1⟩ j)) w at hget
      have H1 := Lib.hid hown1
      clear hown1 z1 z2 z3 z4 z5 f0 f1 f2 f3 f4 f5
      obtain ⟨wo, rfl⟩ : ∃ wo : World, wo = wr := ⟨_, rfl⟩
      go_loopw [3, 29] (fun t i wr => ∃ (j m : Nat), j ≤ 5 ∧ i = .int .i64 j ∧ wr.ownsRow BB 5 1 t m (Lib.byteCells (T ++ (boolText r ++ numsTo ⟨r, h, a0, b0, a1, b1⟩ j))) ∧ B w wr) (fun _ i _ => 5 - (intOf i).toNat)
      case atStart =>
        refine ⟨0, n + (boolText r).length, Nat.zero_le _, rfl, ?_, g1⟩
        have := H1.out
        simpa [numsTo, Lib.byteCells] using this
      case round =>
        obtain ⟨j, m, hj, rfl, hown2, g2⟩ := hrel
        have hB2 : BB ≤ wr.heap.size := by rw [← hBB]; exact g2.below.size
        by_cases hj5 : j < 5
        · have hjB : decide ((j : Int) < 5) = true := decide_eq_true (by omega)
          have hm : m ≤ 1275 := by
            have h1 := hown2.1
            have h2 := bool_len r
            have h3 := nums_len HI.out j hj
            have h4 := HT.out
            simp [Lib.byteCells] at h1
            omega
          obtain ⟨i1, i2⟩ := field_I HI.out j hj5
          have hns := nums_succ ⟨r, h, a0, b0, a1, b1⟩ j hj5
          have hx := hget j hj5
          generalize fieldNo ⟨r, h, a0, b0, a1, b1⟩ j = x at *
          generalize numsTo ⟨r, h, a0, b0, a1, b1⟩ j = Nj at *
          have HN := Lib.hid hns
          clear hns hget
          have cI := fun w hown hBw htab => Tryd.strconv_AppendInt_10 BB m x i1 i2 u3 (Lib.byteCells (T ++ (boolText r ++ Nj))) w hown hBw (by omega) htab
          have il : (Lib.itoa x).length ≤ 21 := Lib.itoa_length_le x i1 i2
          go_wp2_with fail
          refine (cI _ hown2 hB2 (htab.on (by rw [← hBB]; exact g2.below))).mono ?_
          rintro e w2 ⟨v2, rfl, hown3, hb3, ho3⟩
          have g3 : B w w2 := ⟨g2.below.trans (by rw [hBB]; exact hb3)⟩
          have hB3 : BB ≤ w2.heap.size := by rw [← hBB]; exact g3.below.size
          clear hb3 ho3 hown2 g2 cI
          go_wp2_with (at_builtin; refine wpList_append_own _ rfl _ _ 22 rfl BB 5 i0 (.int .u8 0) 1 1 (by kernel_rfl) hi hz0 hz1 hz2 rfl (by decide) _ _ _ rfl (hown3.alloc _) ⟨w2.heap.size, 0, none⟩ 1 1 [Value.int .u8 32] rfl rfl (by intro j u' hj; match j, hj with | 0, hj => simp at hj; subst hj; simp [Addr.add]) (by intro u' hu'; simp at hu'; subst hu'; rfl) (by unfold maxLen; omega) (by omega) (by simp; omega) ?_)
          intro v3 w3 hown4 hgrow _
          have g4 : B w w3 := (g3.alloc _ _).grownBy hgrow (fun k hk => by rw [hBB]; exact (hown3.lt k hk).1)
          go_wp2
          go_roundw
          case rel =>
            refine ⟨j + 1, m + (Lib.itoa x).length + 1, by omega, by go_num, ?_, g4⟩
            rw [HN.out]
            simpa [numText, Lib.byteCells] using hown4
          case measure => simp [intOf]; omega
        · have hjB : decide ((j : Int) < 5) = false := decide_eq_false (by omega)
          obtain rfl : j = 5 := by omega
          have hna := nums_all ⟨r, h, a0, b0, a1, b1⟩
          simp only at hna
          rw [hna] at hown2
          clear hget
          go_wp2
          go_roundw
          case rel => exact ⟨k + 1, m, by omega, by go_num, by rw [HKT.out]; exact hown2, g2⟩
          case measure => simp [intOf]; omega
    · have hlB : decide (k < l.length) = false := decide_eq_false hl
      obtain rfl : k = l.length := by omega
      have hT := text_of BB n (keyText l) u3 wr (by simpa using hown)
      clear h4 hlen hown
      go_wp2
      go_ret
      exact ⟨rfl, hq⟩

theorem key_any (v : Value) (l : List Sec) (hl10 : l.length ≤ 10) (w : World) (hv : IsSecs w v l) (htab : Lib.TabIs Tryd.prog w "internal/strconv.uint64pow10" .u64 Lib.pow10Tab) :
    Calls Tryd.prog 25 #[v] w fun e w' => e = .returned (.string (keyS l)) ∧ B w w' := by
  rcases hv with ⟨rfl, rfl⟩ | ⟨a, cap, rfl, h2, h3, h4⟩
  · have hT := text_of 0 0 [] (.slice none 0 0) w ⟨rfl, .inl ⟨rfl, rfl⟩⟩
    clear htab
    go_enter Tryd.func25, Tryd.ntmps25
    go_wp2
    go_loop [3, 10] (fun t i => t = .slice none 0 0 ∧ i = .int .i64 0) (fun _ _ => 0)
    case atStart => exact ⟨rfl, rfl⟩
    case round =>
      obtain ⟨rfl, rfl⟩ := hrel
      go_wp2
      go_ret
      exact ⟨rfl, B.refl w⟩
  · exact key_row a cap l hl10 w h4 htab
end Go.Proofs.YtppiocopokbdlaaDoor
