/-
 Contracts and what they rest on.
-/
import Derived.Lib.AppendIntMem
import Derived.Lib.BufferKept
import Derived.Lib.BufferRead
import Derived.Lib.OwnKind
import Derived.OwnWalk
import Derived.Shelf.Strings.Builder1
import Derived.Shelf.Small.Bits
import Derived.Shelf.Strings.BuilderF
import Derived.Shelf.Strings.BuilderK
import Derived.Shelf.Strconv.Itoa0
import Derived.Shelf.Strconv.Itoa1
import Derived.Shelf.LaysM
import Derived.Shelf.Strconv.Itoa2
import Derived.Shelf.Strconv.Itoa3
import Derived.Shelf.Strconv.Itoa4
import Derived.Shelf.Strings.Search1
import Derived.Shelf.Strings.Search2
import Derived.Shelf.Strings.Cut
import Derived.Shelf.Strings.Shaped
import Derived.Shelf.Strconv.AppendUint10
import Derived.Shelf.Strconv.AppendInt10
import Derived.Shelf.Strconv.AppendIntPublic10
import Derived.Shelf.Bits.Mul64
import Derived.Test.YthlileddhgglnaaGreatDoorProg
import Derived.Carry
import Derived.Test.YthlileddhgglnaaGreatDoorChecked
import Derived.KernelRfl
import Derived.Lib.MinMax
import Derived.Deep.RegionWith
import Derived.Deep.QuietTactic
import Derived.BigQuiet
import Derived.Outline
import Derived.Lib.Hide
import Derived.Test.YthlileddhgglnaaGreatDoorY7
namespace Go.Proofs
open Go.Shelf
def Tryz.lays134_ren : Go.Shelf.Ren := ⟨fun | 134 => 204 | 129 => 153 | n => n, fun | 53 => 217 | 3 => 3 | 4 => 4 | 46 => 247 | 5 => 5 | 9 => 9 | n => n, fun | n => n⟩
theorem Tryz.lays134 : Go.Proofs.Lays.n134 Tryz.prog Tryz.lays134_ren := {
 mixed := by kernel_rfl
 f129 := Tryz.func153.trans (congrArg some (by kernel_rfl))
 f134 := Tryz.func204.trans (congrArg some (by kernel_rfl))
 t3 := Tryz.underlying3
 a3 := Tryz.isAgg3
 z3 := Tryz.sizeOf3
 v3 := Tryz.zeroValue3
 t4 := Tryz.underlying4
 a4 := Tryz.isAgg4
 z4 := Tryz.sizeOf4
 v4 := Tryz.zeroValue4
 t5 := Tryz.underlying5
 a5 := Tryz.isAgg5
 z5 := Tryz.sizeOf5
 v5 := Tryz.zeroValue5
 t9 := Tryz.underlying9
 a9 := Tryz.isAgg9
 z9 := Tryz.sizeOf9
 v9 := Tryz.zeroValue9
 t46 := Tryz.underlying247
 a46 := Tryz.isAgg247
 z46 := Tryz.sizeOf247
 v46 := Tryz.zeroValue247
 t53 := Tryz.underlying217
 a53 := Tryz.isAgg217
 z53 := Tryz.sizeOf217
 v53 := Tryz.zeroValue217 }
theorem Tryz.bits_LeadingZeros64 (x : Int) (w : World) (h0 : 0 ≤ x) (h1 : x ≤ 18446744073709551615) :
  Calls Tryz.prog 204 #[.int .u64 x] w fun e w' => e = .returned (.int .i64 (64 - (Lib.bitLen x.toNat : Int))) ∧ w' = w := Any.bits_LeadingZeros64 Tryz.lays134 x w h0 h1
def Tryz.laysM176_ren : Go.Shelf.Ren := ⟨fun | 176 => 148 | 249 => 168 | 288 => 181 | 283 => 132 | 284 => 133 | 285 => 134 | 286 => 135 | 129 => 153 | 317 => 152 | 318 => 154 | 319 => 155 | 320 => 156 | 337 => 170 | 338 => 171 | n => n, fun | 37 => 47 | 2 => 2 | 3 => 3 | 53 => 217 | 4 => 4 | 9 => 9 | 171 => 216 | 0 => 0 | 173 => 220 | 212 => 244 | 51 => 94 | 5 => 5 | 20 => 20 | 213 => 245 | 46 => 247 | 232 => 271 | 233 => 272 | n => n, fun | 17 => 0 | 18 => 2 | 19 => 3 | n => n⟩
theorem Tryz.laysM176 : Go.Proofs.LaysM.n176 Tryz.prog Tryz.laysM176_ren := {
 mixed := by kernel_rfl
 f129 := Tryz.func153.trans (congrArg some (by kernel_rfl))
 f176 := Tryz.func148.trans (congrArg some (by kernel_rfl))
 f249 := Tryz.func168.trans (congrArg some (by kernel_rfl))
 f283 := Tryz.func132.trans (congrArg some (by kernel_rfl))
 f284 := Tryz.func133.trans (congrArg some (by kernel_rfl))
 f285 := Tryz.func134.trans (congrArg some (by kernel_rfl))
 f286 := Tryz.func135.trans (congrArg some (by kernel_rfl))
 f288 := Tryz.func181.trans (congrArg some (by kernel_rfl))
 f317 := Tryz.func152.trans (congrArg some (by kernel_rfl))
 f318 := Tryz.func154.trans (congrArg some (by kernel_rfl))
 f319 := Tryz.func155.trans (congrArg some (by kernel_rfl))
 f320 := Tryz.func156.trans (congrArg some (by kernel_rfl))
 f337 := Tryz.func170.trans (congrArg some (by kernel_rfl))
 f338 := Tryz.func171.trans (congrArg some (by kernel_rfl))
 t0 := Tryz.underlying0
 a0 := Tryz.isAgg0
 z0 := Tryz.sizeOf0
 v0 := Tryz.zeroValue0
 t2 := Tryz.underlying2
 a2 := Tryz.isAgg2
 z2 := Tryz.sizeOf2
 v2 := Tryz.zeroValue2
 t3 := Tryz.underlying3
 a3 := Tryz.isAgg3
 z3 := Tryz.sizeOf3
 v3 := Tryz.zeroValue3
 t4 := Tryz.underlying4
 a4 := Tryz.isAgg4
 z4 := Tryz.sizeOf4
 v4 := Tryz.zeroValue4
 t5 := Tryz.underlying5
 a5 := Tryz.isAgg5
 z5 := Tryz.sizeOf5
 v5 := Tryz.zeroValue5
 t9 := Tryz.underlying9
 a9 := Tryz.isAgg9
 z9 := Tryz.sizeOf9
 v9 := Tryz.zeroValue9
 t20 := Tryz.underlying20
 a20 := Tryz.isAgg20
 z20 := Tryz.sizeOf20
 v20 := Tryz.zeroValue20
 t37 := Tryz.underlying47
 a37 := Tryz.isAgg47
 z37 := Tryz.sizeOf47
 v37 := Tryz.zeroValue47
 t46 := Tryz.underlying247
 a46 := Tryz.isAgg247
 z46 := Tryz.sizeOf247
 v46 := Tryz.zeroValue247
 t51 := Tryz.underlying94
 a51 := Tryz.isAgg94
 z51 := Tryz.sizeOf94
 v51 := Tryz.zeroValue94
 t53 := Tryz.underlying217
 a53 := Tryz.isAgg217
 z53 := Tryz.sizeOf217
 v53 := Tryz.zeroValue217
 t171 := Tryz.underlying216
 a171 := Tryz.isAgg216
 z171 := Tryz.sizeOf216
 v171 := Tryz.zeroValue216
 t173 := Tryz.underlying220
 a173 := Tryz.isAgg220
 z173 := Tryz.sizeOf220
 v173 := Tryz.zeroValue220
 t212 := Tryz.underlying244
 a212 := Tryz.isAgg244
 z212 := Tryz.sizeOf244
 v212 := Tryz.zeroValue244
 t213 := Tryz.underlying245
 a213 := Tryz.isAgg245
 z213 := Tryz.sizeOf245
 t232 := Tryz.underlying271
 a232 := Tryz.isAgg271
 z232 := Tryz.sizeOf271
 v232 := Tryz.zeroValue271
 t233 := Tryz.underlying272
 a233 := Tryz.isAgg272
 z233 := Tryz.sizeOf272
 v233 := Tryz.zeroValue272
 g17 := by kernel_rfl
 g18 := by kernel_rfl
 g19 := by kernel_rfl
 i0 := by kernel_rfl
 i2 := by kernel_rfl
 i3 := by kernel_rfl
 i4 := by kernel_rfl
 i5 := by kernel_rfl
 i9 := by kernel_rfl
 i20 := by kernel_rfl
 i37 := by kernel_rfl
 i46 := by kernel_rfl
 i51 := by kernel_rfl
 i53 := by kernel_rfl
 i171 := by kernel_rfl
 i173 := by kernel_rfl
 i212 := by kernel_rfl
 i232 := by kernel_rfl
 i233 := by kernel_rfl
 m17 := by kernel_rfl
 m18 := by kernel_rfl
 m19 := by kernel_rfl }
open Go.RowKit Go.Sort Go.Lib in
theorem Tryz.strconv_AppendInt_10 (B n : Nat) (i : Int) (h0 : -9223372036854775808 ≤ i) (h1 : i ≤ 9223372036854775807) (sv : Value) (xs : List Value) (w : World) (hown : w.ownsRow B 5 1 sv n xs) (hBw : B ≤ w.heap.size) (hlim : n + 21 ≤ 140737488355328) (htab : Lib.TabBelow Tryz.prog B w "internal/strconv.uint64pow10" .u64 Lib.pow10Tab) :
  Calls Tryz.prog 148 #[sv, .int .i64 i, .int .i64 10] w fun e w' => ∃ v', e = .returned v' ∧ w'.ownsRow B 5 1 v' (n + (Lib.itoa i).length) (xs ++ Lib.byteCells (Lib.itoa i)) ∧ Below B w w' ∧ Lib.OthersKept 5 none w w' := Any.strconv_AppendInt_10 Tryz.laysM176 B n i h0 h1 sv xs w hown hBw hlim htab
def Tryz.lays264_ren : Go.Shelf.Ren := ⟨fun | 264 => 198 | n => n, fun | 53 => 217 | 46 => 247 | n => n, fun | n => n⟩
theorem Tryz.lays264 : Go.Proofs.Lays.n264 Tryz.prog Tryz.lays264_ren := {
 mixed := by kernel_rfl
 f264 := Tryz.func198.trans (congrArg some (by kernel_rfl))
 t46 := Tryz.underlying247
 a46 := Tryz.isAgg247
 z46 := Tryz.sizeOf247
 v46 := Tryz.zeroValue247
 t53 := Tryz.underlying217
 a53 := Tryz.isAgg217
 z53 := Tryz.sizeOf217
 v53 := Tryz.zeroValue217 }
open Go.RowKit Go.Lib in
theorem Tryz.bits_Mul64 (x y : Nat) (hx : x < 18446744073709551616) (hy : y < 18446744073709551616) (w : World) :
  Calls Tryz.prog 198 #[.int .u64 x, .int .u64 y] w fun e w' => e = .returned (.tuple #[.int .u64 ((x * y / 18446744073709551616 : Nat) : Int), .int .u64 ((x * y % 18446744073709551616 : Nat) : Int)]) ∧ w' = w := Any.bits_Mul64 Tryz.lays264 x y hx hy w
end Go.Proofs
namespace Go.Proofs.YthlileddhgglnaaGreatDoor
open Go.RowKit
theorem u8_info : ∃ i, Tryz.prog.info? 5 = some i ∧ i.zero = some (.int .u8 0) ∧ i.size = 1 ∧ i.bytes = 1 :=
 Go.info_parts (by kernel_rfl)
def Grows (B n : Nat) (xs : List Value) (t : List UInt8) (w : World) (e : Ending) (w' : World) : Prop :=
 ∃ v', e = .returned v' ∧ w'.ownsRow B 5 1 v' (n + t.length) (xs ++ Lib.byteCells t) ∧ Below B w w' ∧ Lib.OthersKept 5 none w w'
theorem iappendBool_any (B n : Nat) (b : Bool) (sv : Value) (xs : List Value) (w : World) (hown : w.ownsRow B 5 1 sv n xs) (hBw : B ≤ w.heap.size) (hlim : n + 5 ≤ 140737488355328) :
  Calls Tryz.prog 167 #[sv, .bool b] w (Grows B n xs (boolText b) w) := by
 obtain ⟨i0, hi, hz0, hz1, hz2⟩ := u8_info
 cases b
 ·go_enter Tryz.func167, Tryz.ntmps167
  go_wp2_with (at_builtin; refine Lib.wpList_append_own_string _ rfl _ _ 47 9 rfl B 5 i0 (by kernel_rfl) (by kernel_rfl) hi hz0 hz1 hz2 _ _ _ rfl hown ⟨#[102, 97, 108, 115, 101]⟩ rfl (by show n + 5 ≤ maxLen; unfold maxLen; omega) (by show n + 5 ≤ _; omega) hBw ?_)
  intro v1 w1 hown1 hgrow _
  go_wp2
  go_ret
  exact ⟨v1, rfl, hown1, (Below.refl B _).grown hgrow hBw (fun k hk => (hown.lt k hk).1), (Lib.OthersKept.refl _ _ _).grown hgrow (Lib.ownsRow_kind hown)⟩
 ·go_enter Tryz.func167, Tryz.ntmps167
  go_wp2_with (at_builtin; refine Lib.wpList_append_own_string _ rfl _ _ 47 9 rfl B 5 i0 (by kernel_rfl) (by kernel_rfl) hi hz0 hz1 hz2 _ _ _ rfl hown ⟨#[116, 114, 117, 101]⟩ rfl (by show n + 4 ≤ maxLen; unfold maxLen; omega) (by show n + 4 ≤ _; omega) hBw ?_)
  intro v1 w1 hown1 hgrow _
  go_wp2
  go_ret
  exact ⟨v1, rfl, hown1, (Below.refl B _).grown hgrow hBw (fun k hk => (hown.lt k hk).1), (Lib.OthersKept.refl _ _ _).grown hgrow (Lib.ownsRow_kind hown)⟩
theorem appendBool_any (B n : Nat) (b : Bool) (sv : Value) (xs : List Value) (w : World) (hown : w.ownsRow B 5 1 sv n xs) (hBw : B ≤ w.heap.size) (hlim : n + 5 ≤ 140737488355328) :
  Calls Tryz.prog 147 #[sv, .bool b] w (Grows B n xs (boolText b) w) := by
 have c := fun w hown hBw => iappendBool_any B n b sv xs w hown hBw hlim
 go_enter Tryz.func147, Tryz.ntmps147
 go_wp2_with fail
 refine (c _ hown hBw).mono ?_
 rintro e w1 ⟨v1, rfl, h1, h2, h3⟩
 go_wp2
 go_ret
 exact ⟨v1, rfl, h1, h2, h3⟩
theorem alloc_at (w : World) (o : Obj) : (w.alloc o).heap[w.heap.size]? = some o := by
 show (w.heap.push o)[w.heap.size]? = some o
 simp
theorem arr5_get (x : Nat → Int) (k : Nat) (hk : k < 5) (w : World) : (Instr.index 239 (Value.agg #[.int .i64 (x 0), .int .i64 (x 1), .int .i64 (x 2), .int .i64 (x 3), .int .i64 (x 4)]) (Value.int .i64 (k : Int))).run Tryz.prog w = .ok (.int .i64 (x k)) w := by
 have hu : Tryz.prog.underlying 239 = some (.array 5 2) := by kernel_rfl
 match k, hk with
 | 0, _ => simp [Instr.index, run_underlying hu, asIntOf, part, go_sem]
 | 1, _ => simp [Instr.index, run_underlying hu, asIntOf, part, go_sem]
 | 2, _ => simp [Instr.index, run_underlying hu, asIntOf, part, go_sem]
 | 3, _ => simp [Instr.index, run_underlying hu, asIntOf, part, go_sem]
 | 4, _ => simp [Instr.index, run_underlying hu, asIntOf, part, go_sem]
theorem text_of (B n : Nat) (t : List UInt8) (v : Value) (w : World) (h : w.ownsRow B 5 1 v n (Lib.byteCells t)) :
  (convert 47 9 v).run Tryz.prog w = .ok (.string ⟨t.toArray⟩) w := by
 have hs : Tryz.prog.underlying 47 = some (.slice 5) := by kernel_rfl
 have he : Tryz.prog.underlying 5 = some (.int .u8) := by kernel_rfl
 have hd : Tryz.prog.underlying 9 = some .string := by kernel_rfl
 obtain ⟨hl, ⟨rfl, rfl⟩ | ⟨g, cap, cur, rfl, hb, hg, h1, h2, h3, h4⟩⟩ := h
 ·have : t = [] := by simpa [Lib.byteCells] using hl
  subst this
  exact Lib.run_convert_nil_bytes w _ _ _ 0 hs he hd
 ·have hn : n = t.length := by simpa [Lib.byteCells] using hl.symm
  subst hn
  exact run_convert_bytes_back w _ _ _ _ _ t hs he hd (Lib.bytes_of_row hg (by simpa using h4))
set_option maxRecDepth 100000 in
set_option maxHeartbeats 4000000 in
theorem key_row (a : Addr) (cap : Nat) (l : List Sec) (hl10 : l.length ≤ 10) (w : World) (h4 : ∀ i s, l[i]? = some s → s.I ∧ SecAt w (a.add (i * 6)) s)
  (htab : Lib.TabIs Tryz.prog w "internal/strconv.uint64pow10" .u64 Lib.pow10Tab) :
  Calls Tryz.prog 126 #[.slice (some a) l.length cap] w fun e w' => e = .returned (.string (keyS l)) ∧ B w w' := by
 obtain ⟨i0, hi, hz0, hz1, hz2⟩ := u8_info
 replace htab := Lib.tabBelow_of_tabIs htab
 have hI : ∀ s ∈ l, s.I := fun s hs => by
  obtain ⟨i, hi⟩ := List.getElem?_of_mem hs
  exact (h4 i s hi).1
 have hlen : ∀ k, (keyText (l.take k)).length ≤ 1150 := fun k => by
  have := key_len (l.take k) (fun s hs => hI s (List.mem_of_mem_take hs))
  have := List.length_take (i := k) (l := l)
  omega
 clear hI
 obtain ⟨BB, hBB⟩ : ∃ BB, w.heap.size = BB := ⟨_, rfl⟩
 go_enter Tryz.func126, Tryz.ntmps126
 go_wp2
 rw [hBB] at htab
 go_loopw [3, 10] (fun t i wr => ∃ (k n : Nat), k ≤ l.length ∧ i = .int .i64 k ∧ wr.ownsRow BB 5 1 t n (Lib.byteCells (keyText (l.take k))) ∧ B w wr) (fun _ i _ => l.length - (intOf i).toNat)
 case atStart => exact ⟨0, 0, Nat.zero_le _, rfl, ⟨rfl, .inl ⟨rfl, rfl⟩⟩, B.refl w⟩
 case round =>
  obtain ⟨k, n, hk, rfl, hown, hq⟩ := hrel
  have hn : n ≤ 1150 := by
   have h1 := hown.1
   have := hlen k
   simp [Lib.byteCells] at h1
   omega
  have hB0 : BB ≤ wr.heap.size := by rw [← hBB]; exact hq.below.size
  by_cases hl : k < l.length
  ·have hlB : decide (k < l.length) = true := decide_eq_true hl
   have hg := List.getElem?_eq_getElem hl
   obtain ⟨hIs, hs⟩ := h4 k _ hg
   replace hs := hs.keepB hq
   have hkt := key_take l k _ hg
   have HT := Lib.hid (hlen k)
   clear h4 hlen
   generalize l[k] = s at *
   generalize keyText (l.take k) = T at *
   obtain ⟨r, h, a0, b0, a1, b1⟩ := s
   obtain ⟨f0, f1, f2, f3, f4, f5⟩ := hs
   simp only at f0 f1 f2 f3 f4 f5
   have HKT := Lib.hid hkt
   have HM := Lib.hid hg
   have HI := Lib.hid hIs
   clear hkt hg hIs
   have cB := fun w hown hBw => appendBool_any BB n r u3 (Lib.byteCells T) w hown hBw (by omega)
   go_wp2_with fail
   refine (cB _ (hown.alloc _) (by simp; omega)).mono ?_
   rintro e w1 ⟨v1, rfl, hown1, hb1, ho1⟩
   have hx := ho1 wr.heap.size (.cells #[.bool r, .int .i64 h, .int .i64 a0, .int .i64 b0, .int .i64 a1, .int .i64 b1] 37 (0, 0)) (alloc_at wr _) (by simp) (by intro c fz e; cases e)
   have z1 : w1.cell? ⟨wr.heap.size, 1, none⟩ = some (.int .i64 h) := by simp [World.cell?, hx]
   have z2 : w1.cell? ⟨wr.heap.size, 2, none⟩ = some (.int .i64 a0) := by simp [World.cell?, hx]
   have z3 : w1.cell? ⟨wr.heap.size, 3, none⟩ = some (.int .i64 b0) := by simp [World.cell?, hx]
   have z4 : w1.cell? ⟨wr.heap.size, 4, none⟩ = some (.int .i64 a1) := by simp [World.cell?, hx]
   have z5 : w1.cell? ⟨wr.heap.size, 5, none⟩ = some (.int .i64 b1) := by simp [World.cell?, hx]
   have g1 : B w w1 := ⟨(hq.alloc _ _).below.trans (by rw [hBB]; exact hb1)⟩
   clear hx ho1 hb1 hq hown cB
   go_wp2
   have hget := fun j hj w => arr5_get (fieldNo ⟨r, h, a0, b0, a1, b1⟩) j hj w
   change ∀ j : Nat, j < 5 → ∀ w : World, (Instr.index 239 (Value.agg #[.int .i64 h, .int .i64 a0, .int .i64 b0, .int .i64 a1, .int .i64 b1]) (Value.int .i64 (j : Int))).run Tryz.prog w = .ok (.int .i64 (fieldNo ⟨r, h, a0, b0, a1, b1⟩ j)) w at hget
   have H1 := Lib.hid hown1
   clear hown1 z1 z2 z3 z4 z5 f0 f1 f2 f3 f4 f5
   obtain ⟨wo, rfl⟩ : ∃ wo : World, wo = wr := ⟨_, rfl⟩
   go_loopw [3, 29] (fun t i wr => ∃ (j m : Nat), j ≤ 5 ∧ i = .int .i64 j ∧ wr.ownsRow BB 5 1 t m (Lib.byteCells (T ++ (boolText r ++ numsTo ⟨r, h, a0, b0, a1, b1⟩ j))) ∧ B w wr) (fun _ i _ => 5 - (intOf i).toNat)
   case atStart =>
    refine ⟨0, n + (boolText r).length, Nat.zero_le _, rfl, ?_, g1⟩
    have := H1.out
    simpa [numsTo, Lib.byteCells] using this
   case round =>
    obtain ⟨j, m, hj, rfl, hown2, g2⟩ := hrel
    have hB2 : BB ≤ wr.heap.size := by rw [← hBB]; exact g2.below.size
    by_cases hj5 : j < 5
    ·have hjB : decide ((j : Int) < 5) = true := decide_eq_true (by omega)
     have hm : m ≤ 1275 := by
      have h1 := hown2.1
      have h2 := bool_len r
      have h3 := knums_len HI.out j hj
      have h4 := HT.out
      simp [Lib.byteCells] at h1
      omega
     obtain ⟨i1, i2⟩ := field_I HI.out j hj5
     have hns := nums_succ ⟨r, h, a0, b0, a1, b1⟩ j hj5
     have hx := hget j hj5
     generalize fieldNo ⟨r, h, a0, b0, a1, b1⟩ j = x at *
     generalize numsTo ⟨r, h, a0, b0, a1, b1⟩ j = Nj at *
     have HN := Lib.hid hns
     clear hns hget
     have cI := fun w hown hBw htab => Tryz.strconv_AppendInt_10 BB m x i1 i2 u3 (Lib.byteCells (T ++ (boolText r ++ Nj))) w hown hBw (by omega) htab
     have il : (Lib.itoa x).length ≤ 21 := Lib.itoa_length_le x i1 i2
     go_wp2_with fail
     refine (cI _ hown2 hB2 (htab.on (by rw [← hBB]; exact g2.below))).mono ?_
     rintro e w2 ⟨v2, rfl, hown3, hb3, ho3⟩
     have g3 : B w w2 := ⟨g2.below.trans (by rw [hBB]; exact hb3)⟩
     have hB3 : BB ≤ w2.heap.size := by rw [← hBB]; exact g3.below.size
     clear hb3 ho3 hown2 g2 cI
     go_wp2_with (at_builtin; refine wpList_append_own _ rfl _ _ 47 rfl BB 5 i0 (.int .u8 0) 1 1 (by kernel_rfl) hi hz0 hz1 hz2 rfl (by decide) _ _ _ rfl (hown3.alloc _) ⟨w2.heap.size, 0, none⟩ 1 1 [Value.int .u8 32] rfl rfl (by intro j u' hj; match j, hj with | 0, hj => simp at hj; subst hj; simp [Addr.add]) (by intro u' hu'; simp at hu'; subst hu'; rfl) (by unfold maxLen; omega) (by omega) (by simp; omega) ?_)
     intro v3 w3 hown4 hgrow _
     have g4 : B w w3 := (g3.alloc _ _).grownBy hgrow (fun k hk => by rw [hBB]; exact (hown3.lt k hk).1)
     go_wp2
     go_roundw
     case rel =>
      refine ⟨j + 1, m + (Lib.itoa x).length + 1, by omega, by go_num, ?_, g4⟩
      rw [HN.out]
      simpa [numText, Lib.byteCells] using hown4
     case measure => simp [intOf]; omega
    ·have hjB : decide ((j : Int) < 5) = false := decide_eq_false (by omega)
     obtain rfl : j = 5 := by omega
     have hna := nums_all ⟨r, h, a0, b0, a1, b1⟩
     simp only at hna
     rw [hna] at hown2
     clear hget
     go_wp2
     go_roundw
     case rel => exact ⟨k + 1, m, by omega, by go_num, by rw [HKT.out]; exact hown2, g2⟩
     case measure => simp [intOf]; omega
  ·have hlB : decide (k < l.length) = false := decide_eq_false hl
   obtain rfl : k = l.length := by omega
   have hT := text_of BB n (keyText l) u3 wr (by simpa using hown)
   clear h4 hlen hown
   go_wp2
   go_ret
   exact ⟨rfl, hq⟩
theorem key_any (v : Value) (l : List Sec) (hl10 : l.length ≤ 10) (w : World) (hv : IsSecs w v l) (htab : Lib.TabIs Tryz.prog w "internal/strconv.uint64pow10" .u64 Lib.pow10Tab) :
  Calls Tryz.prog 126 #[v] w fun e w' => e = .returned (.string (keyS l)) ∧ B w w' := by
 rcases hv with ⟨rfl, rfl⟩ | ⟨a, cap, rfl, h2, h3, h4⟩
 ·have hT := text_of 0 0 [] (.slice none 0 0) w ⟨rfl, .inl ⟨rfl, rfl⟩⟩
  clear htab
  go_enter Tryz.func126, Tryz.ntmps126
  go_wp2
  go_loop [3, 10] (fun t i => t = .slice none 0 0 ∧ i = .int .i64 0) (fun _ _ => 0)
  case atStart => exact ⟨rfl, rfl⟩
  case round =>
   obtain ⟨rfl, rfl⟩ := hrel
   go_wp2
   go_ret
   exact ⟨rfl, B.refl w⟩
 ·exact key_row a cap l hl10 w h4 htab
end Go.Proofs.YthlileddhgglnaaGreatDoor
namespace Go.Proofs.YthlileddhgglnaaGreatDoor
open Go.RowKit
def boundS (s : Sec) : Bool := inB s.a0 0 20000 && inB s.b0 0 20000 && inB s.a1 0 20000 && inB s.b1 0 20000
def sideNo (s : Sec) (k : Nat) : Int := [s.a0, s.b0, s.a1, s.b1].getD k 0
theorem inB_ways (x : Int) : (inB x 0 20000 = true ∧ decide (x < 0) = false ∧ decide (20000 < x) = false) ∨ (inB x 0 20000 = false ∧ decide (x < 0) = true) ∨ (inB x 0 20000 = false ∧ decide (x < 0) = false ∧ decide (20000 < x) = true) := by
 unfold inB
 by_cases h1 : x < 0
 ·exact .inr (.inl ⟨by simp; omega, decide_eq_true h1⟩)
 ·by_cases h2 : 20000 < x
  ·exact .inr (.inr ⟨by simp; omega, decide_eq_false h1, decide_eq_true h2⟩)
  ·exact .inl ⟨by simp; omega, decide_eq_false h1, decide_eq_false h2⟩
theorem boundS_no (s : Sec) (k : Nat) (hk : k < 4) (h : inB (sideNo s k) 0 20000 = false) : boundS s = false := by
 unfold boundS
 match k, hk with
 | 0, _ => have h' : inB s.a0 0 20000 = false := h; rw [h']; simp
 | 1, _ => have h' : inB s.b0 0 20000 = false := h; rw [h']; simp
 | 2, _ => have h' : inB s.a1 0 20000 = false := h; rw [h']; simp
 | 3, _ => have h' : inB s.b1 0 20000 = false := h; rw [h']; simp
theorem boundS_yes (s : Sec) (h : ∀ j, j < 4 → inB (sideNo s j) 0 20000 = true) : boundS s = true := by
 unfold boundS
 have h0 : inB s.a0 0 20000 = true := h 0 (by omega)
 have h1 : inB s.b0 0 20000 = true := h 1 (by omega)
 have h2 : inB s.a1 0 20000 = true := h 2 (by omega)
 have h3 : inB s.b1 0 20000 = true := h 3 (by omega)
 rw [h0, h1, h2, h3]; rfl
theorem arr4_get (x : Nat → Int) (k : Nat) (hk : k < 4) (w : World) : (Instr.index 222 (Value.agg #[.int .i64 (x 0), .int .i64 (x 1), .int .i64 (x 2), .int .i64 (x 3)]) (Value.int .i64 (k : Int))).run Tryz.prog w = .ok (.int .i64 (x k)) w := by
 have hu : Tryz.prog.underlying 222 = some (.array 4 2) := by kernel_rfl
 match k, hk with
 | 0, _ => simp [Instr.index, run_underlying hu, asIntOf, part, go_sem]
 | 1, _ => simp [Instr.index, run_underlying hu, asIntOf, part, go_sem]
 | 2, _ => simp [Instr.index, run_underlying hu, asIntOf, part, go_sem]
 | 3, _ => simp [Instr.index, run_underlying hu, asIntOf, part, go_sem]
set_option maxHeartbeats 1000000 in
theorem bounded_any (r : Bool) (h a0 b0 a1 b1 : Int) (w : World) :
  Calls Tryz.prog 114 #[.agg #[.bool r, .int .i64 h, .int .i64 a0, .int .i64 b0, .int .i64 a1, .int .i64 b1]] w fun e w' => e = .returned (.bool (boundS ⟨r, h, a0, b0, a1, b1⟩)) ∧ Q w w' := by
 have hno := boundS_no ⟨r, h, a0, b0, a1, b1⟩
 have hyes := boundS_yes ⟨r, h, a0, b0, a1, b1⟩
 have hg := fun k hk w => arr4_get (sideNo ⟨r, h, a0, b0, a1, b1⟩) k hk w
 change ∀ k : Nat, k < 4 → ∀ w : World, (Instr.index 222 (Value.agg #[.int .i64 a0, .int .i64 b0, .int .i64 a1, .int .i64 b1]) (Value.int .i64 (k : Int))).run Tryz.prog w = .ok (.int .i64 (sideNo ⟨r, h, a0, b0, a1, b1⟩ k)) w at hg
 generalize hB : boundS ⟨r, h, a0, b0, a1, b1⟩ = B0 at *
 clear hB
 go_enter Tryz.func114, Tryz.ntmps114
 go_wp2
 have hq := (Q.refl w).alloc #[.bool r, .int .i64 h, .int .i64 a0, .int .i64 b0, .int .i64 a1, .int .i64 b1] 37
 generalize w.alloc _ = W1 at *
 go_loop [14] (fun i => ∃ k : Nat, k ≤ 4 ∧ i = .int .i64 k ∧ ∀ j, j < k → inB (sideNo ⟨r, h, a0, b0, a1, b1⟩ j) 0 20000 = true) (fun i => 4 - (intOf i).toNat)
 case atStart => exact ⟨0, Nat.zero_le _, rfl, fun j hj => absurd hj (by omega)⟩
 case round =>
  obtain ⟨k, hk, rfl, hall⟩ := hrel
  by_cases hl : k < 4
  ·have hlB : decide ((k : Int) < 4) = true := decide_eq_true (by omega)
   have ho := hno k hl
   have hx := hg k hl
   have hw := inB_ways (sideNo ⟨r, h, a0, b0, a1, b1⟩ k)
   have hn : inB (sideNo ⟨r, h, a0, b0, a1, b1⟩ k) 0 20000 = true → ∀ j, j < k + 1 → inB (sideNo ⟨r, h, a0, b0, a1, b1⟩ j) 0 20000 = true := fun hk j hj => by
    by_cases e : j = k
    ·rw [e]; exact hk
    ·exact hall j (by omega)
   clear hall hno hyes hg
   rcases hw with ⟨e0, e1, e2⟩ | ⟨e0, e1⟩ | ⟨e0, e1, e2⟩
   ·have HN := Lib.hid (hn e0)
    clear hn ho
    go_wp2
    go_round
    case rel => exact ⟨k + 1, by omega, by go_num, HN.out⟩
    case measure => simp [intOf]; omega
   ·have HO := Lib.hid (ho e0)
    clear hn ho
    go_wp2
    go_ret
    exact ⟨by rw [HO.out]; rfl, hq⟩
   ·have HO := Lib.hid (ho e0)
    clear hn ho
    go_wp2
    go_ret
    exact ⟨by rw [HO.out]; rfl, hq⟩
  ·have hlB : decide ((k : Int) < 4) = false := decide_eq_false (by omega)
   obtain rfl : k = 4 := by omega
   have HY := Lib.hid (hyes hall)
   clear hno hyes hg hall
   go_wp2
   go_ret
   exact ⟨by rw [HY.out]; rfl, hq⟩
end Go.Proofs.YthlileddhgglnaaGreatDoor
namespace Go.Proofs.YthlileddhgglnaaGreatDoor
open Go.RowKit
def RightC : Prop := ∀ (v : Value) (l : List Sec) (w : World), IsSecs w v l → Calls Tryz.prog 45 #[v] w fun e w' => e = .returned (.bool (rightS l)) ∧ B w w'
def soundS (s : Sec) : Bool := boundS s && (s.a1 != 0) && (if s.r then (s.b0 == 0) && (s.b1 == 0) else decide (0 < s.b1))
set_option maxHeartbeats 1000000 in
theorem sound_any (r : Bool) (h a0 b0 a1 b1 : Int) (w : World) :
  Calls Tryz.prog 86 #[.agg #[.bool r, .int .i64 h, .int .i64 a0, .int .i64 b0, .int .i64 a1, .int .i64 b1]] w fun e w' => e = .returned (.bool (soundS ⟨r, h, a0, b0, a1, b1⟩)) ∧ Q w w' := by
 have cB := fun w => bounded_any r h a0 b0 a1 b1 w
 have hS : soundS ⟨r, h, a0, b0, a1, b1⟩ = (boundS ⟨r, h, a0, b0, a1, b1⟩ && (a1 != 0) && (if r then (b0 == 0) && (b1 == 0) else decide (0 < b1))) := rfl
 generalize boundS ⟨r, h, a0, b0, a1, b1⟩ = B0 at *
 rw [hS]
 clear hS
 have hA : ((a1 == 0) = true ∧ (a1 != 0) = false) ∨ ((a1 == 0) = false ∧ (a1 != 0) = true) := by by_cases a1 = 0 <;> simp [*]
 have hZ : (b0 == 0) = true ∨ (b0 == 0) = false := by cases (b0 == 0) <;> simp
 cases B0
 ·simp only [Bool.false_and]
  go_enter Tryz.func86, Tryz.ntmps86
  go_wp2_with fail
  refine (cB _).mono ?_
  rintro e w1 ⟨rfl, g⟩
  replace g := ((Q.refl w).alloc _ _).trans g
  go_wp2
  go_ret
  exact ⟨rfl, g⟩
 rcases hA with ⟨a2, a3⟩ | ⟨a2, a3⟩
 ·rw [a3]
  simp only [Bool.false_and, Bool.and_false]
  go_enter Tryz.func86, Tryz.ntmps86
  go_wp2_with fail
  refine (cB _).mono ?_
  rintro e w1 ⟨rfl, g⟩
  have z4 := g.keep (p := ⟨w.heap.size, 4, none⟩) (v := .int .i64 a1) (by simp [go_sem])
  replace g := ((Q.refl w).alloc _ _).trans g
  go_wp2
  go_ret
  exact ⟨rfl, g⟩
 rw [a3]
 cases r
 ·go_enter Tryz.func86, Tryz.ntmps86
  go_wp2_with fail
  refine (cB _).mono ?_
  rintro e w1 ⟨rfl, g⟩
  have z0 := g.keep (p := ⟨w.heap.size, 0, none⟩) (v := .bool false) (by simp [go_sem])
  have z1 := g.keep (p := ⟨w.heap.size, 1, none⟩) (v := .int .i64 h) (by simp [go_sem])
  have z2 := g.keep (p := ⟨w.heap.size, 2, none⟩) (v := .int .i64 a0) (by simp [go_sem])
  have z3 := g.keep (p := ⟨w.heap.size, 3, none⟩) (v := .int .i64 b0) (by simp [go_sem])
  have z4 := g.keep (p := ⟨w.heap.size, 4, none⟩) (v := .int .i64 a1) (by simp [go_sem])
  have z5 := g.keep (p := ⟨w.heap.size, 5, none⟩) (v := .int .i64 b1) (by simp [go_sem])
  replace g := ((Q.refl w).alloc _ _).trans g
  go_wp2
  go_ret
  exact ⟨by simp, g⟩
 rcases hZ with hZ | hZ
 all_goals
  rw [hZ]
  go_enter Tryz.func86, Tryz.ntmps86
  go_wp2_with fail
  refine (cB _).mono ?_
  rintro e w1 ⟨rfl, g⟩
  have z0 := g.keep (p := ⟨w.heap.size, 0, none⟩) (v := .bool true) (by simp [go_sem])
  have z1 := g.keep (p := ⟨w.heap.size, 1, none⟩) (v := .int .i64 h) (by simp [go_sem])
  have z2 := g.keep (p := ⟨w.heap.size, 2, none⟩) (v := .int .i64 a0) (by simp [go_sem])
  have z3 := g.keep (p := ⟨w.heap.size, 3, none⟩) (v := .int .i64 b0) (by simp [go_sem])
  have z4 := g.keep (p := ⟨w.heap.size, 4, none⟩) (v := .int .i64 a1) (by simp [go_sem])
  have z5 := g.keep (p := ⟨w.heap.size, 5, none⟩) (v := .int .i64 b1) (by simp [go_sem])
  replace g := ((Q.refl w).alloc _ _).trans g
  go_wp2
  go_ret
  exact ⟨by simp, g⟩
theorem secOk_sound (s : Sec) (m : Int) (hm : s.h.tmod 100 = m) : secOk s = (!(decide (s.h < 1)) && !(decide (60000 < s.h)) && !(m != 0) && soundS s) := by
 rw [secOk_eq s m hm]
 have e : soundS s = (inB s.a0 0 20000 && inB s.a1 1 20000 && (if s.r then !(s.b0 != 0) && !(s.b1 != 0) else inB s.b0 0 20000 && inB s.b1 1 20000)) := by
  unfold soundS boundS inB
  cases hr : s.r
  ·rw [Bool.eq_iff_iff]
   simp
   omega
  ·rw [Bool.eq_iff_iff]
   simp
   omega
 rw [e]
 simp only [Bool.and_assoc]
theorem hsum_mono (l : List Sec) (hl : ∀ s ∈ l, 0 ≤ s.h) (j n : Nat) (hjn : j ≤ n) : hsumI l j ≤ hsumI l n := by
 induction n with
 | zero => obtain rfl : j = 0 := by omega
           omega
 | succ n ih =>
  by_cases e : j = n + 1
  ·subst e; omega
  ·have h1 := ih (by omega)
   cases hg : l[n]? with
   | none =>
    have e1 : l.take (n + 1) = l.take n := by rw [List.take_add_one, hg]; simp
    unfold hsumI at *
    rw [e1]; exact h1
   | some s =>
    have := hl s (List.mem_of_getElem? hg)
    rw [hsumI_succ l n s hg]
    omega
theorem rightS_over (l : List Sec) (k : Nat) (s : Sec) (h : l[k]? = some s) (ho : 60000 < hsumI l k + s.h) : rightS l = false := by
 cases e : rightS l
 ·rfl
 ·unfold rightS at e
  simp only [Bool.and_eq_true, decide_eq_true_eq, List.all_eq_true] at e
  obtain ⟨⟨_, ha⟩, hs⟩ := e
  have hk : k < l.length := by
   rw [List.getElem?_eq_some_iff] at h
   exact h.1
  have := hsum_mono l (fun s hs => by have := secOk_h s (ha s hs); omega) (k + 1) l.length (by omega)
  rw [hsumI_succ l k s h] at this
  omega
set_option maxRecDepth 100000 in
set_option maxHeartbeats 2000000 in
theorem right_row (a : Addr) (cap : Nat) (l : List Sec) (h2 : l.length ≤ cap) (h3 : cap ≤ maxLen) (w : World) (h4 : ∀ i s, l[i]? = some s → s.I ∧ SecAt w (a.add (i * 6)) s) :
  Calls Tryz.prog 45 #[.slice (some a) l.length cap] w fun e w' => e = .returned (.bool (rightS l)) ∧ Q w w' := by
 unfold maxLen at h3
 have h5 : l.length ≤ 2 ^ 63 - 1 := Nat.le_trans h2 h3
 clear h2 h3
 by_cases n1 : l.length < 1
 ·rw [rightS_short l n1]
  have n1B : decide ((l.length : Int) < 1) = true := decide_eq_true (by omega)
  clear h4
  go_enter Tryz.func45, Tryz.ntmps45
  go_wp2
  go_ret
  exact ⟨rfl, Q.refl w⟩
 have n1B : decide ((l.length : Int) < 1) = false := decide_eq_false (by omega)
 by_cases n2 : 4 < l.length
 ·rw [rightS_long l n2]
  have n2B : decide ((4 : Int) < (l.length : Int)) = true := decide_eq_true (by omega)
  clear h4
  go_enter Tryz.func45, Tryz.ntmps45
  go_wp2
  go_ret
  exact ⟨rfl, Q.refl w⟩
 have n2B : decide ((4 : Int) < (l.length : Int)) = false := decide_eq_false (by omega)
 go_enter Tryz.func45, Tryz.ntmps45
 go_wp2
 go_loopw [3, 16] (fun lf i wr => ∃ (k : Nat), k ≤ l.length ∧ i = .int .i64 k ∧ lf = .int .i64 (60000 - hsumI l k) ∧ 0 ≤ hsumI l k ∧ hsumI l k ≤ 60000 ∧ okTo l k = true ∧ Q w wr) (fun _ i _ => l.length - (intOf i).toNat)
 case atStart => exact ⟨0, Nat.zero_le _, rfl, rfl, by simp [hsumI], by simp [hsumI], rfl, Q.refl w⟩
 case round =>
  obtain ⟨k, hk, rfl, rfl, t1, t2, hok, hq⟩ := hrel
  by_cases hl : k < l.length
  ·have hlB : decide (k < l.length) = true := decide_eq_true hl
   have hg := List.getElem?_eq_getElem hl
   have hs := (h4 k _ hg).2.keep hq
   have hsu := hsumI_succ l k _ hg
   have hoku := okTo_succ l k _ hg hok
   have hbad := rightS_bad l k _ hg
   have hover := rightS_over l k _ hg
   clear h4 hok
   generalize l[k] = s at *
   generalize hsumI l k = t at *
   obtain ⟨r, h, a0, b0, a1, b1⟩ := s
   obtain ⟨f0, f1, f2, f3, f4, f5⟩ := hs
   obtain ⟨m, hm1⟩ : ∃ m, h.tmod 100 = m := ⟨_, rfl⟩
   have hsec := secOk_sound ⟨r, h, a0, b0, a1, b1⟩ m hm1
   have cS := fun w => sound_any r h a0 b0 a1 b1 w
   obtain ⟨lf, hlf⟩ : ∃ lf, 60000 - t = lf := ⟨_, rfl⟩
   rw [hlf]
   simp only at f0 f1 f2 f3 f4 f5 hsu hsec hover
   have HS := Lib.hid hsu
   have HM := Lib.hid hg
   clear hsu hg
   by_cases k1' : h < 1
   ·have k1 : decide (h < 1) = true := decide_eq_true k1'
    have HB := Lib.hid (hbad (by rw [hsec]; simp [k1]))
    clear hbad hsec hoku hover cS
    go_wp2
    go_ret
    exact ⟨by rw [HB.out]; rfl, hq.alloc _ _⟩
   have k1 : decide (h < 1) = false := decide_eq_false k1'
   by_cases k2' : lf < h
   ·have k2 : decide (lf < h) = true := decide_eq_true k2'
    have HB := Lib.hid (hover (by omega))
    clear hbad hsec hoku hover cS
    go_wp2
    go_ret
    exact ⟨by rw [HB.out]; rfl, hq.alloc _ _⟩
   have k2 : decide (lf < h) = false := decide_eq_false k2'
   have k2b : decide (60000 < h) = false := decide_eq_false (by omega)
   have k3 : (m != 0) = true ∨ (m != 0) = false := by cases (m != 0) <;> simp
   rcases k3 with k3 | k3
   ·have HB := Lib.hid (hbad (by rw [hsec]; simp [k1, k2b, k3]))
    clear hbad hsec hoku hover cS k2b
    go_wp2
    go_ret
    exact ⟨by rw [HB.out]; rfl, hq.alloc _ _⟩
   generalize soundS ⟨r, h, a0, b0, a1, b1⟩ = s0 at *
   cases s0
   ·have HB := Lib.hid (hbad (by rw [hsec]; simp))
    clear hbad hsec hoku hover k2b
    go_wp2_with fail
    refine (cS _).mono ?_
    rintro e w1 ⟨rfl, g⟩
    replace g := (hq.alloc _ _).trans g
    go_wp2
    go_ret
    exact ⟨by rw [HB.out]; rfl, g⟩
   ·have HO := Lib.hid (hoku (by rw [hsec]; simp [k1, k2b, k3]))
    have e1 : IntKind.i64.wrap (lf - h) = lf - h := wrapI (by omega) (by omega)
    clear hbad hsec hoku hover k2b
    go_wp2_with fail
    refine (cS _).mono ?_
    rintro e w1 ⟨rfl, g⟩
    have z1 := g.keep (p := ⟨wr.heap.size, 1, none⟩) (v := .int .i64 h) (by simp [go_sem])
    replace g := (hq.alloc _ _).trans g
    go_wp2
    go_roundw
    case rel => exact ⟨k + 1, by omega, by go_num, by rw [HS.out]; congr 1; omega, by rw [HS.out]; omega, by rw [HS.out]; omega, HO.out, g⟩
    case measure => simp [intOf]; omega
  ·have hlB : decide (k < l.length) = false := decide_eq_false hl
   obtain rfl : k = l.length := by omega
   have HE := Lib.hid ((rightS_end l (by omega) (by omega) hok).trans (decide_eq_true t2))
   clear h4 hok
   go_wp2
   go_ret
   exact ⟨by rw [HE.out]; rfl, hq⟩
theorem right_code : RightC := by
 intro v l w hv
 rcases hv with ⟨rfl, rfl⟩ | ⟨a, cap, rfl, h2, h3, h4⟩
 ·rw [rightS_short [] (by simp)]
  go_enter Tryz.func45, Tryz.ntmps45
  go_wp2
  go_ret
  exact ⟨rfl, B.refl w⟩
 ·exact (right_row a cap l h2 h3 w h4).mono fun _ _ h => ⟨h.1, h.2.b⟩
end Go.Proofs.YthlileddhgglnaaGreatDoor
namespace Go.Proofs.YthlileddhgglnaaGreatDoor
open Go.RowKit
section
variable {T : World → Value → List (Int × Int) → Prop} {c bm base n BB : Nat} {E : List Ent}
theorem asked_up (w : World) (hC : CacheC T w c bm base n E) : CacheC T (w.setCell ⟨c, 0, none⟩ (.int .i64 ((n : Int) + 1))) c bm base (n + 1) E :=
 CacheM.put hC (one_own w c 0 _) (by
  have := obj_set hC.obj 0 (.int .i64 ((n : Int) + 1))
  rw [this]
  simp)
set_option maxRecDepth 100000 in
set_option maxHeartbeats 1600000 in
theorem ctable_yes (hOf : OfN T) (w : World) (v : Value) (l : List Sec) (hC : CacheC T w c bm base n E) (hn : n < 1000000) (hE : E.length < 1000000) (hv : IsSecs w v l) (hr : rightS l = true) (htab : Lib.TabBelow Tryz.prog BB w "internal/strconv.uint64pow10" .u64 Lib.pow10Tab) (hB : BB ≤ bm) :
  Calls Tryz.prog 107 #[.pointer (some ⟨c, 0, none⟩), v] w fun e w' => ∃ E' e0, e = .returned (.tuple #[e0.p, .int .i64 0]) ∧ e0 ∈ E' ∧ e0.l = l ∧ (E' = E ∨ (∀ x ∈ E, x.l ≠ l) ∧ w.heap.size ≤ e0.b ∧ E' = E ++ [e0]) ∧ CacheC T w' c bm base (n + 1) E' ∧ G (CS c bm) w w' := by
 have wE : wrap64 ((n : Int) + 1) = (n : Int) + 1 := by unfold wrap64; omega
 obtain ⟨ao, cap, rfl⟩ := hv.formL
 have q2 := ((B.refl w).alloc #[.pointer (some ⟨c, 0, none⟩)] 133).alloc #[.slice ao l.length cap] 31
 have hC2 := CacheM.keepB hC q2
 have s2 : ((w.alloc (.cells #[.pointer (some ⟨c, 0, none⟩)] 133)).alloc (.cells #[.slice ao l.length cap] 31)).cell? ⟨w.heap.size + 1, 0, none⟩ = some (.slice ao l.length cap) := by simp
 have r2 : ((w.alloc (.cells #[.pointer (some ⟨c, 0, none⟩)] 133)).alloc (.cells #[.slice ao l.length cap] 31)).cell? ⟨w.heap.size, 0, none⟩ = some (.pointer (some ⟨c, 0, none⟩)) := by rw [World.cell?_alloc_past _ _ _ (by simp)]; simp
 have g2 := q2.g (CS c bm)
 have hv2 := hv.keepB q2
 have lt2 : c < w.heap.size := obj_lt hC.obj
 have lt3 := hC.lt
 clear hC hv q2
 have hnot : ∀ (x : Bool) (w : World), (Op.unary .not (.bool x)).run Tryz.prog w = .ok (.bool (!x)) w := fun _ _ => rfl
 go_enter Tryz.func107, Tryz.ntmps107
 go_wp2_with fail
 generalize (w.alloc (.cells #[.pointer (some ⟨c, 0, none⟩)] 133)).alloc (.cells #[.slice ao l.length cap] 31) = w2 at *
 have cA := count_any c 0 n 1 w2 (by rw [obj_cell hC2.obj]; rfl) (obj_free hC2.obj 0)
 rw [wE] at cA
 have hC3 := asked_up w2 hC2
 have g3 := g2.trans (cs_own w2 c bm 0 (.int .i64 ((n : Int) + 1)))
 have hv3 := hC2.secs hv2 (cs_own w2 c bm 0 (.int .i64 ((n : Int) + 1)))
 have s3 := (cs_own w2 c bm 0 (.int .i64 ((n : Int) + 1))).keep (p := ⟨w.heap.size + 1, 0, none⟩) (by unfold CS; show ¬ (w.heap.size + 1 = c ∨ w.heap.size + 1 = bm); omega) s2
 have r3 := (cs_own w2 c bm 0 (.int .i64 ((n : Int) + 1))).keep (p := ⟨w.heap.size, 0, none⟩) (by unfold CS; show ¬ (w.heap.size = c ∨ w.heap.size = bm); omega) r2
 generalize w2.setCell ⟨c, 0, none⟩ (.int .i64 ((n : Int) + 1)) = w3 at *
 have cR := right_code _ l w3 hv3
 rw [hr] at cR
 clear hv2 hC2
 refine cA.mono ?_
 rintro e w4 ⟨rfl, rfl⟩
 go_wp2_with fail
 refine cR.mono ?_
 rintro e w5 ⟨rfl, q5⟩
 have hC5 := CacheM.keepB hC3 q5
 have hv5 := hv3.keepB q5
 have s5 := q5.keep s3
 have r5 := q5.keep r3
 have g5 := g3.trans (q5.g _)
 clear hC3 hv3 s3 r3 g3 q5 cR cA s2 r2 g2
 obtain ⟨hl1, hl4, _⟩ := right_all hr
 have hkl : (keyText l).length ≤ 1150 := by
  have := key_len l (by
   rcases hv5 with ⟨_, rfl⟩ | ⟨a, _, _, _, _, h4⟩
   ·intro s hs; cases hs
   ·intro s hs
    obtain ⟨i, hi⟩ := List.getElem?_of_mem hs
    exact (h4 i s hi).1)
  omega
 have htab5 : ∀ w', B w5 w' → Lib.TabIs Tryz.prog w' "internal/strconv.uint64pow10" .u64 Lib.pow10Tab := fun w' q =>
  (htab.on ((g5.trans (q.g _)).below (fun i hi => by rcases hi with rfl | rfl <;> omega) (by omega))).here
 have cK : ∀ w', B w5 w' → Calls Tryz.prog 126 #[.slice ao l.length cap] w' fun e w'' => e = .returned (.string (keyS l)) ∧ B w' w'' := fun w' q => key_any _ l (by omega) w' (hv5.keepB q) (htab5 w' q)
 have cE : ∀ w', B w5 w' → Calls Tryz.prog 125 #[.pointer (some ⟨c, 0, none⟩), .string (keyS l)] w' fun e w'' => ∃ b, e = .returned (.pointer (some ⟨b, 0, none⟩)) ∧ (b < w5.heap.size ∨ w'.heap.size ≤ b) ∧ b < w''.heap.size ∧ AtE T c bm base (n + 1) E l w5.heap.size b w'' ∧ G (CS c bm) w' w'' := fun w' q => by
  by_cases ex : ∃ e0 ∈ E, e0.l = l
  ·obtain ⟨e0, k1, k2⟩ := ex
   refine (entry_hit w' l hkl (CacheM.keepB hC5 q) e0 k1 k2).mono ?_
   rintro e w'' ⟨rfl, h1, h2⟩
   have := CacheM.his hC5 e0 k1
   have := CacheM.his h1 e0 k1
   exact ⟨_, rfl, .inl (by omega), by omega, .inl ⟨e0, k1, k2, rfl, h1⟩, h2⟩
  ·have hne : ∀ e ∈ E, e.l ≠ l := fun e he h => ex ⟨e, he, h⟩
   refine (entry_new w' l hkl (CacheM.keepB hC5 q) hne hE).mono ?_
   rintro e w'' ⟨b, rfl, h1, h2, h3, h4⟩
   exact ⟨b, rfl, .inr h1, obj_lt h2, .inr ⟨hne, fun e he => by have := CacheM.his (CacheM.keepB hC5 q) e he; omega, ⟨by have := (CacheM.keepB hC5 q).le; omega, by have := q.below.size; omega⟩, h2, h3⟩, h4⟩
 have hst : ∀ b w1 w6, B w5 w1 → G (CS c bm) w1 w6 → AtE T c bm base (n + 1) E l w5.heap.size b w6 → ∀ eB, w5.heap.size ≤ eB → b ≠ eB → ∀ u, w6.cell? ⟨eB, 0, none⟩ = some u →
   Mid T c bm base (n + 1) E l (.slice ao l.length cap) w5 b eB (w.heap.size + 1) w.heap.size (w6.setCell ⟨eB, 0, none⟩ (.pointer (some ⟨b, 0, none⟩))) :=
  fun b w1 w6 q g hA eB h1 h2 u hu => mid_store hC5 hv5 s5 r5 (by omega) (by omega) ((q.g _).trans g) hA h1 h2 hu
 have hnw : ∀ b w1 w6, B w5 w1 → G (CS c bm) w1 w6 → AtE T c bm base (n + 1) E l w5.heap.size b w6 →
   Mid T c bm base (n + 1) E l (.slice ao l.length cap) w5 b w6.heap.size (w.heap.size + 1) w.heap.size (w6.alloc (.cells #[.pointer (some ⟨b, 0, none⟩)] 209)) :=
  fun b w1 w6 q g hA => mid_new hC5 hv5 s5 r5 (by omega) (by omega) ((q.g _).trans g) hA
 have G5 := Lib.hid g5
 have HC := Lib.hid hC5
 have HV := Lib.hid hv5
 clear htab htab5 hC5 hv5 g5
 have sA : ∀ o, (w5.alloc o).cell? ⟨w.heap.size + 1, 0, none⟩ = some (.slice ao l.length cap) := fun o => by rw [World.cell?_alloc_past _ _ _ (World.block_lt_of_cell? w5 _ s5)]; exact s5
 have rA : ∀ o, (w5.alloc o).cell? ⟨w.heap.size, 0, none⟩ = some (.pointer (some ⟨c, 0, none⟩)) := fun o => by rw [World.cell?_alloc_past _ _ _ (World.block_lt_of_cell? w5 _ r5)]; exact r5
 have nCS : ∀ i, w5.heap.size ≤ i → ¬ CS c bm i := fun i hi hs => by have := obj_lt HC.out.obj; rcases hs with rfl | rfl <;> omega
 go_wp2_with fail
 refine Code.wp_mono (Q := fun x a' w' => ∃ b eB, x = .normal ∧ a' = { tmps := #[.pointer (some ⟨c, 0, none⟩), .slice ao l.length cap, .pointer (some ⟨w.heap.size, 0, none⟩), .pointer (some ⟨w.heap.size + 1, 0, none⟩), .pointer none, .int .i64 0, .pointer (some ⟨eB, 0, none⟩), .pointer (some ⟨c, 0, none⟩), .pointer (some ⟨c, 0, none⟩), .pointer (some ⟨c, 0, none⟩), .int .i64 ((n : Int) + 1), .slice ao l.length cap, .bool true, .bool false, .pointer (some ⟨c, 0, none⟩), .slice ao l.length cap, .string (keyS l), .pointer (some ⟨b, 0, none⟩), undef, undef, undef, undef, undef, undef, undef, undef, undef], defers := [] } ∧
  Mid T c bm base (n + 1) E l (.slice ao l.length cap) w5 b eB (w.heap.size + 1) w.heap.size w') ?_ ?_
 ·rintro x a' w7 ⟨b, eB, rfl, rfl, hM⟩
  have eC := hM.eC
  have hG := G5.out.trans hM.g
  rcases hM.at_ with ⟨e0, k1, k2, rfl, k4⟩ | ⟨k1, k2, ⟨k3, k3'⟩, k4, k5⟩
  ·have ob := (k4.ents e0 k1).obj
   obtain ⟨x, hx, _, _⟩ := (k4.ents e0 k1).tab.at_
   have d0 : w7.cell? ⟨e0.b, 0, none⟩ = some (.int .u32 1) := by rw [obj_cell ob]; rfl
   have d3 : w7.cell? ⟨e0.b, 3, none⟩ = some (.pointer (some ⟨x, 0, none⟩)) := by rw [obj_cell ob, ← hx]; rfl
   have K4 := Lib.hid k4
   have HX := Lib.hid hx
   clear hx k4 ob hM sA rA nCS hst hnw cK cE
   go_wp2_with (go_at_call 105; refine (do_done e0.b 0 _ _ d0).mono ?_; rintro e w8 ⟨rfl, rfl⟩)
   go_ret2
   exact ⟨E, e0, by rw [HX.out]; rfl, k1, k2, .inl rfl, K4.out, hG⟩
  ·obtain ⟨m1, m2, m3⟩ := new_locked k2 k3 k4 k5
   have hlt : b < (w7.setCell ⟨b, 1, none⟩ (.int .i32 1)).heap.size := obj_lt m2
   have z0 : w7.cell? ⟨b, 0, none⟩ = some (.int .u32 0) := by rw [obj_cell k4]; rfl
   have z1 : w7.cell? ⟨b, 1, none⟩ = some (.int .i32 0) := by rw [obj_cell k4]; rfl
   have ne : ∀ x v, w7.cell? ⟨x, 0, none⟩ = some v → v ≠ .int .u32 0 → ¬ x = b := fun x v h1 h2 h3 => by
    subst h3
    rw [z0] at h1
    exact h2 (Option.some.inj h1).symm
   have nS := ne _ _ hM.sC (by intro h; cases h)
   have nE := ne _ _ hM.eC (by intro h; cases h)
   have nC := ne _ _ hM.cC (by intro h; cases h)
   have nEc : ¬ eB = c := fun h => by
    subst h
    rw [obj_cell k5.obj] at eC
    cases eC
   have hs := isSecs_keepG hM.secs (S := fun i => i = b) (fun i hi j r => by
    subst hi
    rw [obj_cell k4]
    match j with
    | 0 => simp
    | 1 => simp
    | 2 => simp
    | 3 => simp
    | j + 4 => simp) m3
   have hf := made_any hOf (w7.setCell ⟨b, 1, none⟩ (.int .i32 1)) _ l b (w.heap.size + 1) eB w.heap.size m1 hE hs hr k3 k2 m2 (m3.keep nS hM.sC) (m3.keep nE hM.eC) (m3.keep nC hM.cC)
   have hD := do_first b 0 #[.pointer (some ⟨w.heap.size + 1, 0, none⟩), .pointer (some ⟨eB, 0, none⟩), .pointer (some ⟨w.heap.size, 0, none⟩)] _ w7 z0 z1 (obj_free k4 1) hf (fun w' ⟨p, lo, hi, h⟩ => by
    refine ⟨?_, ?_, obj_free h.obj 0, obj_free h.obj 1⟩
    ·rw [obj_cell h.obj]; rfl
    ·rw [obj_cell h.obj]; rfl)
   simp only [Nat.zero_add] at hD
   have hEnd := fun p lo hi w8 h => made_end (T := T) (c := c) (bm := bm) (base := base) (n := n + 1) (E := E) (p := p) (lo := lo) (hi := hi) (w8 := w8) hr k1 k3 k2 hlt h
   have e1 := m3.keep nE eC
   have M3 := Lib.hid m3
   clear hM sA rA nCS hst hnw cK cE k4 k5 m1 m2 m3 hf hs z0 z1 ne
   go_wp2_with (go_at_call 105; refine hD.mono ?_; rintro e w9 ⟨rfl, w8, ⟨p, lo, hi, hm⟩, rfl⟩; obtain ⟨y1, y2, y3⟩ := hEnd p lo hi w8 hm; obtain ⟨x, rfl, _, _⟩ := hm.tab.at_; have e2 := y3.keep (by rintro (h | h); exact nEc h; exact nE h) e1; have Y1 := Lib.hid y1; have Y3 := Lib.hid y3; clear y1 y3 hm; generalize (w8.drew.setCell ⟨b, 0, none⟩ (.int .u32 1)).setCell ⟨b, 1, none⟩ (.int .i32 0) = w9 at *)
   go_ret2
   exact ⟨E ++ [⟨l, b, .pointer (some ⟨x, 0, none⟩), lo, hi⟩], ⟨l, b, .pointer (some ⟨x, 0, none⟩), lo, hi⟩, rfl, List.mem_append.2 (.inr (List.mem_singleton.2 rfl)), rfl, .inr ⟨k1, Nat.le_trans G5.out.size k3', rfl⟩, Y1.out,
    hG.then_ ((M3.out.mono (S' := fun i => i = c ∨ i = b) (fun _ _ h => .inr h)).trans Y3.out) (fun i hi => by
     rcases hi with rfl | rfl
     ·exact .inl (.inl rfl)
     ·exact .inr (Nat.le_trans G5.out.size k3'))⟩
 ·go_region_with (first
   | (go_at_call 126; with_reducible refine (cK _ ((B.refl w5).drew)).mono ?_; rintro e w1 ⟨rfl, q1⟩; have r1 : w1.cell? ⟨w.heap.size, 0, none⟩ = some (.pointer (some ⟨c, 0, none⟩)) := q1.keep (by simpa using r5); have rB : ∀ o, (w1.alloc o).cell? ⟨w.heap.size, 0, none⟩ = some (.pointer (some ⟨c, 0, none⟩)) := fun o => by rw [World.cell?_alloc_past _ _ _ (World.block_lt_of_cell? w1 _ r1)]; exact r1)
   | (go_at_call 126; with_reducible refine (cK _ (((B.refl w5).alloc _ _).drew)).mono ?_; rintro e w1 ⟨rfl, q1⟩; have r1 : w1.cell? ⟨w.heap.size, 0, none⟩ = some (.pointer (some ⟨c, 0, none⟩)) := q1.keep (by simpa using rA _); have e1 := q1.keep (p := ⟨w5.heap.size, 0, none⟩) (v := .pointer none) (by simp); have f1 := q1.unfrozen (p := ⟨w5.heap.size, 0, none⟩) (v := .pointer none) (by simp) (by simp))
   | (go_at_call 125; with_reducible refine (cE _ (((B.refl w5).drew).trans q1)).mono ?_; rintro e w6 ⟨b, rfl, hb1, hb2, hA, g6⟩; have hM := hnw b w1 w6 (((B.refl w5).drew).trans q1) g6 hA)
   | (go_at_call 125; with_reducible refine (cE _ ((((B.refl w5).alloc _ _).drew).trans q1)).mono ?_; rintro e w6 ⟨b, rfl, hb1, hb2, hA, g6⟩; have hq0 := q1.below.size; simp at hq0; have hq1 : ¬ CS c bm w5.heap.size := nCS _ (Nat.le_refl _); have e6 := g6.keep (by show ¬ CS c bm w5.heap.size; exact hq1) e1; have f6 := g6.unfrozen (by show ¬ CS c bm w5.heap.size; exact hq1) e1 f1; have hM := hst b w1 w6 ((((B.refl w5).alloc _ _).drew).trans q1) g6 hA w5.heap.size (Nat.le_refl _) (by omega) _ e6)
   | (go_at_call 125; with_reducible refine (cE _ ((((B.refl w5).drew).trans q1).alloc _ _)).mono ?_; rintro e w6 ⟨b, rfl, hb1, hb2, hA, g6⟩; have hq0 := q1.below.size; simp at hq0 hb1; have hq1 : ¬ CS c bm w1.heap.size := nCS _ hq0; have e6 := g6.keep (p := ⟨w1.heap.size, 0, none⟩) (v := .pointer none) (by show ¬ CS c bm w1.heap.size; exact hq1) (by simp); have f6 := g6.unfrozen (p := ⟨w1.heap.size, 0, none⟩) (v := .pointer none) (by show ¬ CS c bm w1.heap.size; exact hq1) (by simp) (by simp); have hM := hst b _ w6 ((((B.refl w5).drew).trans q1).alloc _ _) g6 hA w1.heap.size hq0 (by omega) _ e6))
  all_goals exact ⟨_, _, rfl, rfl, hM⟩
end
end Go.Proofs.YthlileddhgglnaaGreatDoor
namespace Go.Proofs.YthlileddhgglnaaGreatDoor
open Go.RowKit
theorem B.map {a w : World} (h : B a w) (es : Array MapEntry) (k : Nat) : B a (w.alloc (.map es k)) := ⟨h.below.alloc h.below.size _⟩
section
variable {T : World → Value → List (Int × Int) → Prop} {c bm base n : Nat} {E : List Ent}
theorem new_at (T : World → Value → List (Int × Int) → Prop) (w : World) : CacheC T ((w.alloc (.map #[] 0)).alloc (.cells #[.int .i64 0, .int .i64 0, .int .i32 0, .int .u32 0, .map (some w.heap.size)] 191)) (w.heap.size + 1) w.heap.size (w.heap.size + 2) 0 [] := by
 have o := obj_new (w.alloc (.map #[] 0)) (.cells #[.int .i64 0, .int .i64 0, .int .i32 0, .int .u32 0, .map (some w.heap.size)] 191)
 have e : (w.alloc (.map #[] 0)).heap.size = w.heap.size + 1 := by simp
 rw [e] at o
 refine ⟨o, ⟨_, (World.ownsMap_made w Tryz.prog 9 ptrElem).alloc _, fun l => rfl⟩, by omega, by omega, by simp, fun _ h => (by cases h), List.Pairwise.nil⟩
set_option maxRecDepth 100000 in
set_option maxHeartbeats 1600000 in
theorem cnew_any (T : World → Value → List (Int × Int) → Prop) (w : World) : Calls Tryz.prog 70 #[] w fun e w' => ∃ c bm base, e = .returned (.pointer (some ⟨c, 0, none⟩)) ∧ CacheC T w' c bm base 0 [] ∧ w.heap.size ≤ bm ∧ w'.heap.size = base ∧ B w w' := by
 have hmm := @run_makeMap Tryz.prog
 have hC := new_at T w
 have hB : B w ((w.alloc (.map #[] 0)).alloc (.cells #[.int .i64 0, .int .i64 0, .int .i32 0, .int .u32 0, .map (some w.heap.size)] 191)) := ((B.refl w).map _ _).alloc _ _
 have hs : ((w.alloc (.map #[] 0)).alloc (.cells #[.int .i64 0, .int .i64 0, .int .i32 0, .int .u32 0, .map (some w.heap.size)] 191)).heap.size = w.heap.size + 2 := by simp
 have HC := Lib.hid hC
 have HB := Lib.hid hB
 have HS := Lib.hid hs
 clear hC hB hs
 go_enter Tryz.func70, Tryz.ntmps70
 go_wp2
 go_ret
 exact ⟨_, _, _, rfl, HC.out, Nat.le_refl _, HS.out, HB.out⟩
set_option maxRecDepth 100000 in
theorem cbuilt_any (w : World) (hC : CacheC T w c bm base n E) : Calls Tryz.prog 97 #[.pointer (some ⟨c, 0, none⟩)] w fun e w' => e = .returned (.int .i64 E.length) ∧ w' = w := by
 have cL := load64_any c 1 E.length w (by rw [obj_cell hC.obj]; rfl)
 clear hC
 go_enter Tryz.func97, Tryz.ntmps97
 go_wp2_with (go_at_call 119; refine cL.mono ?_; rintro e w' ⟨rfl, rfl⟩)
 go_ret
 exact ⟨rfl, rfl⟩
end
end Go.Proofs.YthlileddhgglnaaGreatDoor
namespace Go.Proofs.YthlileddhgglnaaGreatDoor
open Go.RowKit
def lack (y : Value) : Nat := 4294967296 - (intOf y).toNat
theorem mul64_any (x y : Nat) (hx : x < 18446744073709551616) (hy : y < 18446744073709551616) (w : World) :
  Calls Tryz.prog 198 #[.int .u64 x, .int .u64 y] w fun e w' => e = .returned (.tuple #[.int .u64 ((x * y / 18446744073709551616 : Nat) : Int), .int .u64 ((x * y % 18446744073709551616 : Nat) : Int)]) ∧ w = w' :=
 (Tryz.bits_Mul64 x y hx hy w).mono fun _ _ h => ⟨h.1, h.2.symm⟩
theorem lz_any (y s : Nat) (h1 : 9223372036854775808 ≤ y * 2 ^ s) (h2 : y * 2 ^ s < 18446744073709551616) (hs : s ≤ 63) (hy : y < 18446744073709551616) (w : World) :
  Calls Tryz.prog 204 #[.int .u64 y] w fun e w' => e = .returned (.int .i64 s) ∧ w = w' :=
 (Tryz.bits_LeadingZeros64 y w (by omega) (by omega)).mono fun _ _ h => ⟨by rw [h.1, Int.toNat_natCast, bitLen_of y s h1 h2 hs], h.2.symm⟩
theorem div64_zero (lo y : Nat) (h0 : 0 < y) (h2 : lo < 18446744073709551616) (h3 : y < 18446744073709551616) (w : World) :
  Calls Tryz.prog 200 #[.int .u64 0, .int .u64 lo, .int .u64 y] w fun e w' => e = .returned (.tuple #[.int .u64 (dq 0 lo y : Int), .int .u64 (dr 0 lo y : Int)]) ∧ Dr w w' := by
 have hw : IntKind.u64.wrap ((lo : Int) / (y : Int)) = ((lo / y : Nat) : Int) := by
  rw [← Int.natCast_ediv]
  exact wrapN _ (Nat.lt_of_le_of_lt (Nat.div_le_self _ _) h2)
 go_enter Tryz.func200, Tryz.ntmps200
 go_wp2
 go_quiet (fail)
 go_wp2
 go_ret2
 exact ⟨by rw [dq, dr, Nat.zero_mul, Nat.zero_add, Int.natCast_ediv, Int.natCast_emod]; rfl, _, rfl⟩
set_option maxRecDepth 100000 in
set_option maxHeartbeats 1000000 in
theorem div64_big (hi lo y s : Nat) (hh : 0 < hi) (h0 : hi < y) (h2 : lo < 18446744073709551616) (h3 : y < 18446744073709551616) (h4 : 9223372036854775808 ≤ y * 2 ^ s) (h5 : y * 2 ^ s < 18446744073709551616) (h6 : s ≤ 63) (w : World) :
  Calls Tryz.prog 200 #[.int .u64 hi, .int .u64 lo, .int .u64 y] w fun e w' => e = .returned (.tuple #[.int .u64 (dq hi lo y : Int), .int .u64 (dr hi lo y : Int)]) ∧ w = w' := by
 obtain ⟨Y, a, b, H, K, U, L, c, d, r1, r2, r3, r4, r5, r6, r7, r8, r9, e1, e2, e3, e4, e5, e6, hU⟩ := div_ahead hi lo y s h6 h0 h2 h5
 have ba : 2147483648 ≤ a ∧ a < 4294967296 ∧ b < 4294967296 ∧ Y < 18446744073709551616 ∧ c < 4294967296 ∧ d < 4294967296 := by
  rw [← e1] at h4 h5
  have : b < 4294967296 := by
   have : (Y : Int) % 4294967296 = b := by
    have := maskN Y h5
    rw [r3] at this; omega
   omega
  omega
 obtain ⟨ba1, ba2, bb, bY, bc, bd⟩ := ba
 have hUab : U < a * 4294967296 + b := by omega
 obtain ⟨p1, t1, g1, s1, s2, s3, D1, G1⟩ := first_guess U a b c ba1 ba2 bb bc hUab
 have lz := fun w => lz_any y s h4 h5 h6 h3 w
 go_enter Tryz.func200, Tryz.ntmps200
 have f1 := e2
 have f2 : 0 < Y := by omega
 have E1 := Lib.hid e1
 have E2 := Lib.hid e2
 have E3 := Lib.hid e3
 have E4 := Lib.hid e4
 have E5 := Lib.hid e5
 have E6 := Lib.hid e6
 have F1 := Lib.hid f1
 clear e1 e2 e3 e4 e5 e6 h4 h5 hU f1
 go_wp2_with fail
 refine (lz _).mono ?_
 rintro e w1 ⟨rfl, rfl⟩
 clear lz
 go_wp2
 clear r1 r2 r3 r4 r5 r6 r7 r8 r9 s1 s2 s3
 go_loop [15, 16] (fun x y => ∃ q r : Nat, Dig U a b c q r ∧ r < 4294967296 ∧ x = .int .u64 q ∧ y = .int .u64 r) (fun _ y => lack y)
 case atStart => exact ⟨p1, g1, D1, G1, rfl, rfl⟩
 case round =>
  clear D1 G1
  obtain ⟨q, r, hd, hr, rfl, rfl⟩ := hrel
  rcases dig_ways bb bc hUab hd with ⟨k1, k2, k3, k4, k5, k6⟩ | ⟨k1, k2, k3, k4, k5, k6, k7, k8⟩ | ⟨Q, k1, k2, k3, k4, k5, hQ⟩ | ⟨Q, k1, k2, k3, k4, k5, k6, k7, hQ⟩ | ⟨k1, k2, k3, k4, hQ⟩
  ·clear hd
   go_wp2
   go_round
   case rel => exact ⟨q - 1, r + a, k6, k5, by go_num, by go_num⟩
   case measure => unfold lack; simp only [intOf]; omega
  ·clear hd
   go_wp2
   go_round
   case rel => exact ⟨q - 1, r + a, k8, k7, by go_num, by go_num⟩
   case measure => unfold lack; simp only [intOf]; omega
  all_goals
   have hQs := dig_small U a b c bc hUab
   rw [← hQ] at hQs
   rw [← F1.out] at hQ
   obtain ⟨M, Z, R, l1, l2, l3, l4, l5, l6⟩ := left_behind U c Y _ bc f2 bY hQ
   have hRab : R < a * 4294967296 + b := by have := F1.out; omega
   obtain ⟨p2, t2, g2, s1, s2, s3, D2, G2⟩ := first_guess R a b d ba1 ba2 bb bd hRab
   have HQ := Lib.hid hQ
   have HR := Lib.hid l6
   clear hQ l6 hd
   go_wp2
   clear l1 l2 l3 l4 s1 s2 s3 k1 k2 k3
   go_loop [18, 16] (fun x y => ∃ q r : Nat, Dig R a b d q r ∧ r < 4294967296 ∧ x = .int .u64 q ∧ y = .int .u64 r) (fun _ y => lack y)
   case atStart => exact ⟨p2, g2, D2, G2, rfl, rfl⟩
   case round =>
    clear D2 G2
    obtain ⟨v, r, hd, hr, rfl, rfl⟩ := hrel
    rcases dig_ways bb bd hRab hd with ⟨m1, m2, m3, m4, m5, m6⟩ | ⟨m1, m2, m3, m4, m5, m6, m7, m8⟩ | ⟨V, m1, m2, m3, m4, m5, hV⟩ | ⟨V, m1, m2, m3, m4, m5, m6, m7, hV⟩ | ⟨m1, m2, m3, m4, hV⟩
    ·clear hd
     go_wp2
     go_round
     case rel => exact ⟨v - 1, r + a, m6, m5, by go_num, by go_num⟩
     case measure => unfold lack; simp only [intOf]; omega
    ·clear hd
     go_wp2
     go_round
     case rel => exact ⟨v - 1, r + a, m8, m7, by go_num, by go_num⟩
     case measure => unfold lack; simp only [intOf]; omega
    all_goals
     have hVs := dig_small R a b d bd hRab
     rw [← hV] at hVs
     rw [← F1.out] at hV
     obtain ⟨M', Z', E, l1, l2, l3, l4, l5', l6⟩ := left_behind R d Y _ bd f2 bY hV
     have fin := Lib.hid (div_end h6 h0 h2 E1.out E3.out E4.out E5.out E6.out HQ.out HR.out hV l6)
     clear hV l6 hd
     go_wp2
     go_ret2
     rw [← fin.out.1, ← fin.out.2]
     exact ⟨rfl, rfl⟩
theorem div64_any (hi lo y : Nat) (h0 : hi < y) (h2 : lo < 18446744073709551616) (h3 : y < 18446744073709551616) (w : World) :
  Calls Tryz.prog 200 #[.int .u64 hi, .int .u64 lo, .int .u64 y] w fun e w' => e = .returned (.tuple #[.int .u64 (dq hi lo y : Int), .int .u64 (dr hi lo y : Int)]) ∧ Dr w w' := by
 by_cases hh : hi = 0
 ·subst hh
  exact div64_zero lo y h0 h2 h3 w
 ·obtain ⟨s, h6, h4, h5⟩ := exists_s y (by omega) h3
  exact (div64_big hi lo y s (by omega) h0 h2 h3 h4 h5 h6 w).mono fun _ _ h => ⟨h.1, 0, by rw [h.2, World.drewN_zero]⟩
end Go.Proofs.YthlileddhgglnaaGreatDoor
