/-
 Contracts and what they rest on.
-/
import Derived.Lib.Builder
import Derived.Lib.AppendStr
import Derived.Lib.UnsafeStr
import Derived.Laws.Externs
import Derived.Shelf.Strings.Builder1
import Derived.Shelf.Strings.BuilderF
import Derived.Shelf.Strings.BuilderK
import Derived.Shelf.Strconv.Itoa0
import Derived.Shelf.Strconv.Itoa1
import Derived.Shelf.LaysM
import Derived.Shelf.Strconv.Itoa2
import Derived.Shelf.Strconv.Itoa3
import Derived.Shelf.Strconv.Itoa4
import Derived.Shelf.Strings.Search1
import Derived.Shelf.Strings.Search2
import Derived.Shelf.Strings.Cut
import Derived.Shelf.Strings.Shaped
import Derived.Test.YtglniapfnhedoaaGreatDoorProg
import Derived.Lib.AppendIntMem
import Derived.Test.YtglniapfnhedoaaGreatDoorY14
namespace Go.Proofs.YtglniapfnhedoaaGreatDoor
open Go.RowKit
set_option linter.unusedVariables false
def secN (s : Sec) : Prop := ∃ h a0 b0 a1 b1 : Nat, s = { r := s.r, h := h, a0 := a0, b0 := b0, a1 := a1, b1 := b1 } ∧ h ≤ 10000000000000 ∧ a0 ≤ 10000000000000 ∧ b0 ≤ 10000000000000 ∧ a1 ≤ 10000000000000 ∧ b1 ≤ 10000000000000
end Go.Proofs.YtglniapfnhedoaaGreatDoor
namespace Go.Proofs.YtglniapfnhedoaaGreatDoor
open Go.RowKit
theorem secOk_N {s : Sec} (h : secOk s = true) : secN s := by
 obtain ⟨h1, h2, h3, h4, h5, h6, h7, h8, h9, h10, h11⟩ := secOk_all h
 obtain ⟨r, hh, a0, b0, a1, b1⟩ := s
 simp only at h1 h2 h3 h4 h5 h6 h7 h8 h9 h10 h11
 refine ⟨hh.toNat, a0.toNat, b0.toNat, a1.toNat, b1.toNat, ?_, by omega, by omega, by omega, by omega, by omega⟩
 simp only [Sec.mk.injEq, true_and]
 refine ⟨?_, ?_, ?_, ?_, ?_⟩ <;> omega
structure RecN (r : Wr) (x y z : Nat) : Prop where
 ex : r.x = x
 ey : r.y = y
 ez : r.z = z
 bx : x ≤ 10000000000000
 by_ : y ≤ 10000000000000
 bz : z ≤ 10000000000000
 n : r.n.data.toList.length ≤ 16
 l : ∀ s ∈ r.l, secN s
 l4 : r.l.length ≤ 4
theorem nameS_16 {n : ByteArray} (hn : nameS n = true) : n.data.toList.length ≤ 16 := by
 have e : n.data.toList.length = n.size := Array.length_toList
 rw [e]
 unfold nameS at hn
 exact of_decide_eq_true (Bool.and_eq_true_iff.1 (Bool.and_eq_true_iff.1 (Bool.and_eq_true_iff.1 hn).1).1).2
theorem rightS_parts {l : List Sec} (h : rightS l = true) : (∀ s ∈ l, secN s) ∧ l.length ≤ 4 := by
 unfold rightS at h
 simp only [Bool.and_eq_true, decide_eq_true_eq, List.all_eq_true] at h
 exact ⟨fun s hs => secOk_N (h.1.2 s hs), h.1.1.2⟩
theorem wareOk_N {r : Wr} (h : wareOk r = true) : ∃ x y z, RecN r x y z := by
 unfold wareOk at h
 have h5 := (Bool.and_eq_true_iff.1 h).2
 have h4 := (Bool.and_eq_true_iff.1 (Bool.and_eq_true_iff.1 h).1).2
 have h3 := (Bool.and_eq_true_iff.1 (Bool.and_eq_true_iff.1 (Bool.and_eq_true_iff.1 h).1).1).2
 have h2 := (Bool.and_eq_true_iff.1 (Bool.and_eq_true_iff.1 (Bool.and_eq_true_iff.1 (Bool.and_eq_true_iff.1 h).1).1).1).2
 have h1 := (Bool.and_eq_true_iff.1 (Bool.and_eq_true_iff.1 (Bool.and_eq_true_iff.1 (Bool.and_eq_true_iff.1 h).1).1).1).1
 rw [inB_iff] at h2 h3 h4
 obtain ⟨s1, s2⟩ := rightS_parts h5
 exact ⟨r.x.toNat, r.y.toNat, r.z.toNat, by omega, by omega, by omega, by omega, by omega, by omega, nameS_16 h1, s1, s2⟩
theorem tipOk_N {r : Wr} (h : tipOk r = true) : ∃ x y z, RecN r x y z := by
 unfold tipOk at h
 have h5 := (Bool.and_eq_true_iff.1 h).2
 have h4 := (Bool.and_eq_true_iff.1 (Bool.and_eq_true_iff.1 h).1).2
 have h3 := (Bool.and_eq_true_iff.1 (Bool.and_eq_true_iff.1 (Bool.and_eq_true_iff.1 h).1).1).2
 have h2 := (Bool.and_eq_true_iff.1 (Bool.and_eq_true_iff.1 (Bool.and_eq_true_iff.1 (Bool.and_eq_true_iff.1 h).1).1).1).2
 have h1 := (Bool.and_eq_true_iff.1 (Bool.and_eq_true_iff.1 (Bool.and_eq_true_iff.1 (Bool.and_eq_true_iff.1 h).1).1).1).1
 rw [inB_iff] at h3 h4 h5
 obtain ⟨s1, s2⟩ := rightS_parts h2
 exact ⟨r.x.toNat, r.y.toNat, r.z.toNat, by omega, by omega, by omega, by omega, by omega, by omega, nameS_16 h1, s1, s2⟩
theorem right_parts {d : Dk} (h : rightD d = true) : d.ws.length ≤ 8 ∧ d.ts.length ≤ 4 ∧ (∀ r ∈ d.ws, ∃ x y z, RecN r x y z) ∧ (∀ r ∈ d.ts, ∃ x y z, RecN r x y z) ∧
  ∀ f ∈ d.fs, nameS f.n = true ∧ (0 ≤ f.r ∧ f.r < 8) ∧ (0 ≤ f.c ∧ f.c < 12) ∧ 0 ≤ f.v ∧ f.v ≤ 20000000 := by
 unfold rightD at h
 simp only [Bool.and_eq_true, decide_eq_true_eq] at h
 obtain ⟨⟨⟨⟨h1, h2⟩, h3⟩, h4⟩, h5⟩ := h
 rw [apartW_iff] at h3 h4
 have hwr : ∀ w ∈ d.ws, wareOk w = true := fun w hw => by
  obtain ⟨i, hi⟩ := List.getElem?_of_mem hw
  exact (h3 i w hi).1
 have htr : ∀ w ∈ d.ts, tipOk w = true := fun w hw => by
  obtain ⟨i, hi⟩ := List.getElem?_of_mem hw
  exact (h4 i w hi).1
 refine ⟨h1, h2, fun r hr => wareOk_N (hwr r hr), fun r hr => tipOk_N (htr r hr), fun f hf => ?_⟩
 obtain ⟨i, hi⟩ := List.getElem?_of_mem hf
 unfold fillsOk at h5
 rw [List.all_eq_true] at h5
 have h6 := h5 i (List.mem_range.2 (List.getElem?_eq_some_iff.1 hi).1)
 rw [hi] at h6
 simp only [Bool.and_eq_true, inB_iff, Bool.not_eq_true'] at h6
 obtain ⟨v, hv, e, r0, r1, c0, c1⟩ := has_ware d.ws 0 f.n f.r f.c h6.1.1
 have hv2 := hwr v hv
 unfold wareOk at hv2
 have k3 := (Bool.and_eq_true_iff.1 (Bool.and_eq_true_iff.1 (Bool.and_eq_true_iff.1 hv2).1).1).2
 have k2 := (Bool.and_eq_true_iff.1 (Bool.and_eq_true_iff.1 (Bool.and_eq_true_iff.1 (Bool.and_eq_true_iff.1 hv2).1).1).1).2
 have k1 := (Bool.and_eq_true_iff.1 (Bool.and_eq_true_iff.1 (Bool.and_eq_true_iff.1 (Bool.and_eq_true_iff.1 hv2).1).1).1).1
 rw [inB_iff] at k2 k3
 exact ⟨e ▸ k1, ⟨r0, by omega⟩, ⟨c0, by omega⟩, h6.1.2.1, h6.1.2.2⟩
def recT (k : List UInt8) (r : Wr) : List UInt8 := lineT (k :: r.n.data.toList :: [decI r.x, decI r.y, decI r.z]) ++ r.l.flatMap fun s => lineT (secL s)
theorem deck_text (d : Dk) : (deckL d).flatMap lineT = (d.ws.flatMap (recT kWare) ++ d.ts.flatMap (recT kTip)) ++ d.fs.flatMap fun f => lineT (fillL f) := by
 have e : ∀ k r, (recL k r).flatMap lineT = recT k r := fun k r => by unfold recL recT; rw [List.flatMap_cons, List.flatMap_map]
 unfold deckL
 rw [List.flatMap_append, List.flatMap_append, List.flatMap_assoc, List.flatMap_assoc, List.flatMap_map]
 simp only [e]
theorem psec_len {s : Sec} (h : secN s) : (lineT (secL s)).length ≤ 130 := by
 obtain ⟨hh, a0, b0, a1, b1, e, y1, y2, y3, y4, y5⟩ := h
 have dl : ∀ {x : Nat}, x ≤ 10000000000000 → (decI (x : Int)).length ≤ 20 := fun h => by
  have := decS_size h
  rw [decS_strB, strB_size] at this
  exact this
 have := dl y1
 have := dl y2
 have := dl y3
 have := dl y4
 have := dl y5
 rw [e]
 unfold secL
 split <;> simp [lineT, kRound, kBox] <;> omega
theorem flat_len9 {α : Type} (f : α → List UInt8) (m : Nat) : ∀ l : List α, (∀ x ∈ l, (f x).length ≤ m) → (l.flatMap f).length ≤ m * l.length
 | [], _ => by simp
 | x :: l, h => by
  have h1 := h x (List.mem_cons_self ..)
  have h2 := flat_len9 f m l fun y hy => h y (List.mem_cons_of_mem _ hy)
  rw [List.flatMap_cons, List.length_append, List.length_cons, Nat.mul_succ]
  omega
theorem recT_len {k : List UInt8} (hk : k.length ≤ 10) {r : Wr} {x y z : Nat} (h : RecN r x y z) : (recT k r).length ≤ 1000 := by
 have dl : ∀ {x : Nat}, x ≤ 10000000000000 → (decI (x : Int)).length ≤ 20 := fun h => by
  have := decS_size h
  rw [decS_strB, strB_size] at this
  exact this
 have d1 := dl h.bx
 have d2 := dl h.by_
 have d3 := dl h.bz
 have h1 := flat_len9 (fun s => lineT (secL s)) 130 r.l fun s hs => psec_len (h.l s hs)
 have h2 := h.l4
 have h3 := h.n
 have h4 : 130 * r.l.length ≤ 520 := by omega
 unfold recT
 rw [h.ex, h.ey, h.ez, List.length_append]
 simp only [lineT, List.length_append, List.length_cons, List.length_nil]
 omega
end Go.Proofs.YtglniapfnhedoaaGreatDoor
namespace Go.Proofs
open Go.Shelf
def Tryz.lays169_ren : Go.Shelf.Ren := ⟨fun | 169 => 23 | n => n, fun | 70 => 66 | 9 => 9 | 0 => 0 | 72 => 68 | 37 => 47 | 127 => 115 | 3 => 3 | 5 => 5 | n => n, fun | n => n⟩
theorem Tryz.lays169 : Go.Proofs.Lays.n169 Tryz.prog Tryz.lays169_ren := {
 mixed := by kernel_rfl
 f169 := Tryz.func23.trans (congrArg some (by kernel_rfl))
 t0 := Tryz.underlying0
 a0 := Tryz.isAgg0
 z0 := Tryz.sizeOf0
 v0 := Tryz.zeroValue0
 t3 := Tryz.underlying3
 a3 := Tryz.isAgg3
 z3 := Tryz.sizeOf3
 v3 := Tryz.zeroValue3
 t9 := Tryz.underlying9
 a9 := Tryz.isAgg9
 z9 := Tryz.sizeOf9
 v9 := Tryz.zeroValue9
 t37 := Tryz.underlying47
 a37 := Tryz.isAgg47
 z37 := Tryz.sizeOf47
 v37 := Tryz.zeroValue47
 t70 := Tryz.underlying66
 a70 := Tryz.isAgg66
 z70 := Tryz.sizeOf66
 v70 := Tryz.zeroValue66
 t72 := Tryz.underlying68
 a72 := Tryz.isAgg68
 z72 := Tryz.sizeOf68
 v72 := Tryz.zeroValue68
 t127 := Tryz.underlying115
 a127 := Tryz.isAgg115
 z127 := Tryz.sizeOf115
 v127 := Tryz.zeroValue115 }
theorem Tryz.Builder_Extra_169 : Builder.Extra Tryz.prog Tryz.lays169_ren := {
 sizeBuilder := by kernel_rfl
 liesBuilder := by kernel_rfl
 t5 := Tryz.underlying5
 a5 := Tryz.isAgg5
 z5 := Tryz.sizeOf5
 v5 := Tryz.zeroValue5
 infoByte := by kernel_rfl
 cellsByte := by kernel_rfl
 sizeByte := by kernel_rfl
 neB5 := by decide }
open Go.RowKit in
theorem Tryz.Builder_String_any (B b : Nat) (l : List UInt8) (w : World) (h : Lib.IsBuilder 68 5 B b (Lib.byteCells l) w) (hBw : B ≤ w.heap.size) :
  Calls Tryz.prog 23 #[.pointer (some ⟨b, 0, none⟩)] w fun e w' => e = .returned (.string ⟨l.toArray⟩) ∧ Below B w w' := Any.Builder_String_any Tryz.lays169 Tryz.Builder_Extra_169 B b l w h hBw
def Tryz.laysM171_ren : Go.Shelf.Ren := ⟨fun | 171 => 55 | 243 => 73 | 246 => 72 | 283 => 82 | 284 => 83 | 285 => 84 | 286 => 85 | 129 => 92 | 317 => 91 | 318 => 93 | 319 => 94 | 320 => 95 | 337 => 97 | 338 => 98 | n => n, fun | 3 => 3 | 9 => 9 | 2 => 2 | 4 => 4 | 171 => 135 | 0 => 0 | 53 => 136 | 37 => 47 | 5 => 5 | 173 => 139 | 212 => 149 | 51 => 65 | 20 => 20 | 213 => 150 | 46 => 152 | 232 => 157 | 233 => 158 | n => n, fun | 17 => 0 | 18 => 2 | 19 => 3 | n => n⟩
theorem Tryz.laysM171 : Go.Proofs.LaysM.n171 Tryz.prog Tryz.laysM171_ren := {
 mixed := by kernel_rfl
 f129 := Tryz.func92.trans (congrArg some (by kernel_rfl))
 f171 := Tryz.func55.trans (congrArg some (by kernel_rfl))
 f243 := Tryz.func73.trans (congrArg some (by kernel_rfl))
 f246 := Tryz.func72.trans (congrArg some (by kernel_rfl))
 f283 := Tryz.func82.trans (congrArg some (by kernel_rfl))
 f284 := Tryz.func83.trans (congrArg some (by kernel_rfl))
 f285 := Tryz.func84.trans (congrArg some (by kernel_rfl))
 f286 := Tryz.func85.trans (congrArg some (by kernel_rfl))
 f317 := Tryz.func91.trans (congrArg some (by kernel_rfl))
 f318 := Tryz.func93.trans (congrArg some (by kernel_rfl))
 f319 := Tryz.func94.trans (congrArg some (by kernel_rfl))
 f320 := Tryz.func95.trans (congrArg some (by kernel_rfl))
 f337 := Tryz.func97.trans (congrArg some (by kernel_rfl))
 f338 := Tryz.func98.trans (congrArg some (by kernel_rfl))
 t0 := Tryz.underlying0
 a0 := Tryz.isAgg0
 z0 := Tryz.sizeOf0
 v0 := Tryz.zeroValue0
 t2 := Tryz.underlying2
 a2 := Tryz.isAgg2
 z2 := Tryz.sizeOf2
 v2 := Tryz.zeroValue2
 t3 := Tryz.underlying3
 a3 := Tryz.isAgg3
 z3 := Tryz.sizeOf3
 v3 := Tryz.zeroValue3
 t4 := Tryz.underlying4
 a4 := Tryz.isAgg4
 z4 := Tryz.sizeOf4
 v4 := Tryz.zeroValue4
 t5 := Tryz.underlying5
 a5 := Tryz.isAgg5
 z5 := Tryz.sizeOf5
 v5 := Tryz.zeroValue5
 t9 := Tryz.underlying9
 a9 := Tryz.isAgg9
 z9 := Tryz.sizeOf9
 v9 := Tryz.zeroValue9
 t20 := Tryz.underlying20
 a20 := Tryz.isAgg20
 z20 := Tryz.sizeOf20
 v20 := Tryz.zeroValue20
 t37 := Tryz.underlying47
 a37 := Tryz.isAgg47
 z37 := Tryz.sizeOf47
 v37 := Tryz.zeroValue47
 t46 := Tryz.underlying152
 a46 := Tryz.isAgg152
 z46 := Tryz.sizeOf152
 v46 := Tryz.zeroValue152
 t51 := Tryz.underlying65
 a51 := Tryz.isAgg65
 z51 := Tryz.sizeOf65
 v51 := Tryz.zeroValue65
 t53 := Tryz.underlying136
 a53 := Tryz.isAgg136
 z53 := Tryz.sizeOf136
 v53 := Tryz.zeroValue136
 t171 := Tryz.underlying135
 a171 := Tryz.isAgg135
 z171 := Tryz.sizeOf135
 v171 := Tryz.zeroValue135
 t173 := Tryz.underlying139
 a173 := Tryz.isAgg139
 z173 := Tryz.sizeOf139
 v173 := Tryz.zeroValue139
 t212 := Tryz.underlying149
 a212 := Tryz.isAgg149
 z212 := Tryz.sizeOf149
 v212 := Tryz.zeroValue149
 t213 := Tryz.underlying150
 a213 := Tryz.isAgg150
 z213 := Tryz.sizeOf150
 t232 := Tryz.underlying157
 a232 := Tryz.isAgg157
 z232 := Tryz.sizeOf157
 v232 := Tryz.zeroValue157
 t233 := Tryz.underlying158
 a233 := Tryz.isAgg158
 z233 := Tryz.sizeOf158
 v233 := Tryz.zeroValue158
 g17 := by kernel_rfl
 g18 := by kernel_rfl
 g19 := by kernel_rfl
 i0 := by kernel_rfl
 i2 := by kernel_rfl
 i3 := by kernel_rfl
 i4 := by kernel_rfl
 i5 := by kernel_rfl
 i9 := by kernel_rfl
 i20 := by kernel_rfl
 i37 := by kernel_rfl
 i46 := by kernel_rfl
 i51 := by kernel_rfl
 i53 := by kernel_rfl
 i171 := by kernel_rfl
 i173 := by kernel_rfl
 i212 := by kernel_rfl
 i232 := by kernel_rfl
 i233 := by kernel_rfl
 m17 := by kernel_rfl
 m18 := by kernel_rfl
 m19 := by kernel_rfl }
open Go.RowKit Go.Sort Go.Lib in
theorem Tryz.strconv_Itoa (n : Int) (h0 : -9223372036854775808 ≤ n) (h1 : n ≤ 9223372036854775807) (w : World) (htab : Lib.TabIs Tryz.prog w "internal/strconv.uint64pow10" .u64 Lib.pow10Tab) :
  Calls Tryz.prog 55 #[.int .i64 n] w fun e w' => e = .returned (.string ⟨(Lib.itoa n).toArray⟩) ∧ ∃ k os, w' = grow (w.drewN k) os := Any.strconv_Itoa Tryz.laysM171 n h0 h1 w htab
def Tryz.laysM173_ren : Go.Shelf.Ren := ⟨fun | 173 => 54 | 246 => 72 | 283 => 82 | 284 => 83 | 285 => 84 | 286 => 85 | 129 => 92 | 317 => 91 | 318 => 93 | 319 => 94 | 320 => 95 | 337 => 97 | 338 => 98 | n => n, fun | 2 => 2 | 3 => 3 | 9 => 9 | 4 => 4 | 171 => 135 | 0 => 0 | 53 => 136 | 37 => 47 | 5 => 5 | 173 => 139 | 212 => 149 | 51 => 65 | 20 => 20 | 213 => 150 | 46 => 152 | 232 => 157 | 233 => 158 | n => n, fun | 17 => 0 | 18 => 2 | 19 => 3 | n => n⟩
theorem Tryz.laysM173 : Go.Proofs.LaysM.n173 Tryz.prog Tryz.laysM173_ren := {
 mixed := by kernel_rfl
 f129 := Tryz.func92.trans (congrArg some (by kernel_rfl))
 f173 := Tryz.func54.trans (congrArg some (by kernel_rfl))
 f246 := Tryz.func72.trans (congrArg some (by kernel_rfl))
 f283 := Tryz.func82.trans (congrArg some (by kernel_rfl))
 f284 := Tryz.func83.trans (congrArg some (by kernel_rfl))
 f285 := Tryz.func84.trans (congrArg some (by kernel_rfl))
 f286 := Tryz.func85.trans (congrArg some (by kernel_rfl))
 f317 := Tryz.func91.trans (congrArg some (by kernel_rfl))
 f318 := Tryz.func93.trans (congrArg some (by kernel_rfl))
 f319 := Tryz.func94.trans (congrArg some (by kernel_rfl))
 f320 := Tryz.func95.trans (congrArg some (by kernel_rfl))
 f337 := Tryz.func97.trans (congrArg some (by kernel_rfl))
 f338 := Tryz.func98.trans (congrArg some (by kernel_rfl))
 t0 := Tryz.underlying0
 a0 := Tryz.isAgg0
 z0 := Tryz.sizeOf0
 v0 := Tryz.zeroValue0
 t2 := Tryz.underlying2
 a2 := Tryz.isAgg2
 z2 := Tryz.sizeOf2
 v2 := Tryz.zeroValue2
 t3 := Tryz.underlying3
 a3 := Tryz.isAgg3
 z3 := Tryz.sizeOf3
 v3 := Tryz.zeroValue3
 t4 := Tryz.underlying4
 a4 := Tryz.isAgg4
 z4 := Tryz.sizeOf4
 v4 := Tryz.zeroValue4
 t5 := Tryz.underlying5
 a5 := Tryz.isAgg5
 z5 := Tryz.sizeOf5
 v5 := Tryz.zeroValue5
 t9 := Tryz.underlying9
 a9 := Tryz.isAgg9
 z9 := Tryz.sizeOf9
 v9 := Tryz.zeroValue9
 t20 := Tryz.underlying20
 a20 := Tryz.isAgg20
 z20 := Tryz.sizeOf20
 v20 := Tryz.zeroValue20
 t37 := Tryz.underlying47
 a37 := Tryz.isAgg47
 z37 := Tryz.sizeOf47
 v37 := Tryz.zeroValue47
 t46 := Tryz.underlying152
 a46 := Tryz.isAgg152
 z46 := Tryz.sizeOf152
 v46 := Tryz.zeroValue152
 t51 := Tryz.underlying65
 a51 := Tryz.isAgg65
 z51 := Tryz.sizeOf65
 v51 := Tryz.zeroValue65
 t53 := Tryz.underlying136
 a53 := Tryz.isAgg136
 z53 := Tryz.sizeOf136
 v53 := Tryz.zeroValue136
 t171 := Tryz.underlying135
 a171 := Tryz.isAgg135
 z171 := Tryz.sizeOf135
 v171 := Tryz.zeroValue135
 t173 := Tryz.underlying139
 a173 := Tryz.isAgg139
 z173 := Tryz.sizeOf139
 v173 := Tryz.zeroValue139
 t212 := Tryz.underlying149
 a212 := Tryz.isAgg149
 z212 := Tryz.sizeOf149
 v212 := Tryz.zeroValue149
 t213 := Tryz.underlying150
 a213 := Tryz.isAgg150
 z213 := Tryz.sizeOf150
 t232 := Tryz.underlying157
 a232 := Tryz.isAgg157
 z232 := Tryz.sizeOf157
 v232 := Tryz.zeroValue157
 t233 := Tryz.underlying158
 a233 := Tryz.isAgg158
 z233 := Tryz.sizeOf158
 v233 := Tryz.zeroValue158
 g17 := by kernel_rfl
 g18 := by kernel_rfl
 g19 := by kernel_rfl
 i0 := by kernel_rfl
 i2 := by kernel_rfl
 i3 := by kernel_rfl
 i4 := by kernel_rfl
 i5 := by kernel_rfl
 i9 := by kernel_rfl
 i20 := by kernel_rfl
 i37 := by kernel_rfl
 i46 := by kernel_rfl
 i51 := by kernel_rfl
 i53 := by kernel_rfl
 i171 := by kernel_rfl
 i173 := by kernel_rfl
 i212 := by kernel_rfl
 i232 := by kernel_rfl
 i233 := by kernel_rfl
 m17 := by kernel_rfl
 m18 := by kernel_rfl
 m19 := by kernel_rfl }
open Go.RowKit Go.Sort Go.Lib in
theorem Tryz.strconv_FormatInt_10 (n : Int) (h0 : -9223372036854775808 ≤ n) (h1 : n ≤ 9223372036854775807) (w : World) (htab : Lib.TabIs Tryz.prog w "internal/strconv.uint64pow10" .u64 Lib.pow10Tab) :
  Calls Tryz.prog 54 #[.int .i64 n, .int .i64 10] w fun e w' => e = .returned (.string ⟨(Lib.itoa n).toArray⟩) ∧ ∃ k os, w' = grow (w.drewN k) os := Any.strconv_FormatInt_10 Tryz.laysM173 n h0 h1 w htab
def Tryz.lays219_ren : Go.Shelf.Ren := ⟨fun | 219 => 100 | 217 => 101 | 225 => 102 | 224 => 103 | 267 => 104 | 266 => 105 | 314 => 106 | n => n, fun | 9 => 9 | 3 => 3 | 4 => 4 | 5 => 5 | 46 => 152 | 146 => 161 | 51 => 65 | n => n, fun | 1 => 1 | n => n⟩
theorem Tryz.lays219 : Go.Proofs.Lays.n219 Tryz.prog Tryz.lays219_ren := {
 mixed := by kernel_rfl
 f217 := Tryz.func101.trans (congrArg some (by kernel_rfl))
 f219 := Tryz.func100.trans (congrArg some (by kernel_rfl))
 f224 := Tryz.func103.trans (congrArg some (by kernel_rfl))
 f225 := Tryz.func102.trans (congrArg some (by kernel_rfl))
 f266 := Tryz.func105.trans (congrArg some (by kernel_rfl))
 f267 := Tryz.func104.trans (congrArg some (by kernel_rfl))
 f314 := Tryz.func106.trans (congrArg some (by kernel_rfl))
 t3 := Tryz.underlying3
 a3 := Tryz.isAgg3
 z3 := Tryz.sizeOf3
 v3 := Tryz.zeroValue3
 t4 := Tryz.underlying4
 a4 := Tryz.isAgg4
 z4 := Tryz.sizeOf4
 v4 := Tryz.zeroValue4
 t5 := Tryz.underlying5
 a5 := Tryz.isAgg5
 z5 := Tryz.sizeOf5
 v5 := Tryz.zeroValue5
 t9 := Tryz.underlying9
 a9 := Tryz.isAgg9
 z9 := Tryz.sizeOf9
 v9 := Tryz.zeroValue9
 t46 := Tryz.underlying152
 a46 := Tryz.isAgg152
 z46 := Tryz.sizeOf152
 v46 := Tryz.zeroValue152
 t51 := Tryz.underlying65
 a51 := Tryz.isAgg65
 z51 := Tryz.sizeOf65
 v51 := Tryz.zeroValue65
 t146 := Tryz.underlying161
 a146 := Tryz.isAgg161
 z146 := Tryz.sizeOf161
 v146 := Tryz.zeroValue161
 g1 := by kernel_rfl }
open Go.RowKit Go.Lib in
theorem Tryz.stringslite_Index_one (s : ByteArray) (c : UInt8) (w : World) :
  Calls Tryz.prog 100 #[.string s, .string ⟨#[c]⟩] w fun e w' => e = .returned (.int .i64 (Lib.indexByte s.data.toList c)) ∧ w' = w := Any.stringslite_Index_one Tryz.lays219 s c w
end Go.Proofs
namespace Go.Proofs.YtglniapfnhedoaaGreatDoor
open Go.RowKit
set_option linter.unusedVariables false
def kBd : List (Option TypeId) := [some 68, some 5]
def Bd (BB b : Nat) (l : List UInt8) (w : World) : Prop := Lib.IsBuilder 68 5 BB b (Lib.byteCells l) w
theorem pb_und : Tryz.prog.underlying 66 = some (.pointer 68) := by kernel_rfl
theorem pu_und : Tryz.prog.underlying 133 = some .unsafePointer := by kernel_rfl
theorem sb_size : (Tryz.prog.info? 68).map (·.size) = some 2 := by kernel_rfl
theorem sb_lies : liesAt Tryz.prog Tryz.prog.depth 68 (2 / Tryz.prog.cellsOf 68) 0 68 1 = true := by kernel_rfl
theorem u8_info3 : (Tryz.prog.info? 5).map (fun i => (i.zero, i.size, i.bytes)) = some (some (.int .u8 0), 1, 1) := by kernel_rfl
theorem u8s_und : Tryz.prog.underlying 47 = some (.slice 5) := by kernel_rfl
theorem str_und : Tryz.prog.underlying 9 = some .string := by kernel_rfl
set_option maxHeartbeats 1000000 in
set_option maxRecDepth 100000 in
theorem check_used (b : Nat) (w : World) (h0 : w.cell? ⟨b, 0, none⟩ = some (.pointer (some ⟨b, 0, none⟩))) :
  Calls Tryz.prog 71 #[.pointer (some ⟨b, 0, none⟩)] w fun e w' => e = .returned (.tuple #[]) ∧ w' = w := by
 obtain ⟨j, hj, _⟩ := Option.map_eq_some_iff.1 sb_size
 go_enter Tryz.func71, Tryz.ntmps71
 go_wp2
 rw [Lib.run_neq_ptr_same w _ pb_und hj]
 go_wp2
 go_end0
 exact ⟨rfl, rfl⟩
set_option maxHeartbeats 1000000 in
set_option maxRecDepth 100000 in
theorem check_fresh (b : Nat) (w : World) (h0 : w.cell? ⟨b, 0, none⟩ = some (.pointer none)) (hsh : w.shape? b = some (68, 2)) (hfz : w.frozen? ⟨b, 0, none⟩ = false) :
  Calls Tryz.prog 71 #[.pointer (some ⟨b, 0, none⟩)] w fun e w' => e = .returned (.tuple #[]) ∧ w' = w.setCell ⟨b, 0, none⟩ (.pointer (some ⟨b, 0, none⟩)) := by
 obtain ⟨j, hj, hjs⟩ := Option.map_eq_some_iff.1 sb_size
 go_enter Tryz.func71, Tryz.ntmps71
 go_wp2
 rw [Lib.run_to_unsafe w ⟨b, 0, none⟩ pb_und pu_und hj (by rw [hjs]; decide) hsh (Nat.zero_lt_succ 1)]
 simp only [Result.andThen]
 rw [Oper.upon_value]
 go_wp2
 rw [run_callFunc_extern Tryz.func81 (by kernel_rfl) (by kernel_rfl) (by kernel_rfl) (e := Extern.AbiNoEscape.same) (by kernel_rfl)]
 rw [Lib.run_noEscape]
 simp only [Result.andThen]
 rw [Oper.upon_value]
 go_wp2
 rw [Lib.run_from_unsafe w ⟨b, 0, none⟩ pu_und pb_und hj hsh sb_lies]
 simp only [Result.andThen]
 rw [Oper.upon_value]
 go_wp2
 go_end0
 exact ⟨rfl, rfl⟩
theorem check_any (BB b : Nat) (bs : List Value) (w : World) (h : Lib.IsBuilder 68 5 BB b bs w) :
  Calls Tryz.prog 71 #[.pointer (some ⟨b, 0, none⟩)] w fun e w' => e = .returned (.tuple #[]) ∧ (Lib.BuilderAt 68 5 BB b (.pointer (some ⟨b, 0, none⟩)) bs w' ∧ Tn kBd BB w w') := by
 rcases h with h | h
 ·refine (check_fresh b w h.cell0 h.shape h.frozen0).mono ?_
  rintro e w' ⟨rfl, rfl⟩
  obtain ⟨v, hv, _⟩ := h.2
  exact ⟨rfl, h.used _, (Tn.refl kBd BB w).set (p := ⟨b, 0, none⟩) hv (by decide) h.1 _⟩
 ·refine (check_used b w h.cell0).mono ?_
  rintro e w' ⟨rfl, rfl⟩
  exact ⟨rfl, h, Tn.refl kBd BB _⟩
set_option maxHeartbeats 2000000 in
set_option maxRecDepth 100000 in
theorem wbyte_any (BB b : Nat) (l : List UInt8) (c : UInt8) (w : World) (h : Bd BB b l w) (hlen : l.length ≤ 1000000) (hBw : BB ≤ w.heap.size) :
  Calls Tryz.prog 53 #[.pointer (some ⟨b, 0, none⟩), .int .u8 c.toNat] w fun e w' => e = .returned .nilIface ∧ (Bd BB b (l ++ [c]) w' ∧ Tn kBd BB w w') := by
 obtain ⟨bs, hbs⟩ : ∃ bs, Lib.byteCells l = bs := ⟨_, rfl⟩
 have hbl : bs.length ≤ 1000000 := by rw [← hbs, Lib.byteCells_length]; exact hlen
 have hgoal : Lib.byteCells (l ++ [c]) = bs ++ [.int .u8 c.toNat] := by rw [Lib.byteCells_append, hbs]; rfl
 unfold Bd at h ⊢
 rw [hgoal]
 rw [hbs] at h
 obtain ⟨cv, hcv⟩ : ∃ cv : Int, (c.toNat : Int) = cv := ⟨_, rfl⟩
 rw [hcv]
 clear hcv hgoal hbs hlen
 obtain ⟨i0, hi, hz0, hz1, hz2⟩ := info_parts u8_info3
 go_enter Tryz.func53, Tryz.ntmps53
 go_wp2_with fail
 refine (check_any BB b bs _ h).mono ?_
 rintro e w1 ⟨rfl, h1, hb1⟩
 obtain ⟨hB, v, hbk, hown, hne⟩ := h1
 have c0 : w1.cell? ⟨b, 0, none⟩ = some (.pointer (some ⟨b, 0, none⟩)) := by rw [Lib.cell_of_heap hbk]; rfl
 have c1 : w1.cell? ⟨b, 1, none⟩ = some v := by rw [Lib.cell_of_heap hbk]; rfl
 go_wp2_with (at_builtin; refine wpList_append_own _ rfl _ _ 47 rfl BB 5 i0 (.int .u8 0) 1 1 u8s_und hi hz0 hz1 hz2 rfl (by decide) _ _ _ rfl (hown.alloc _) ⟨w1.heap.size, 0, none⟩ 1 1 [.int .u8 cv] rfl rfl ?c1 ?c2 ?c3 ?c4 ?c5 ?_)
 case c1 =>
  intro j u hj
  match j, hj with
  | 0, hj => simp at hj; subst hj; simp [Addr.add]
 case c2 => intro u hu; simp at hu; subst hu; rfl
 case c3 => unfold maxLen; omega
 case c4 => omega
 case c5 => have := hb1.size; simp; omega
 intro v' w2 hown' hgrow _
 have hlt : b < w1.heap.size := by
  rcases Nat.lt_or_ge b w1.heap.size with h' | h'
  ·exact h'
  ·simp [Array.getElem?_eq_none h'] at hbk
 have hb2 : w2.heap[b]? = some (.cells #[.pointer (some ⟨b, 0, none⟩), v] 68 (0, 0)) := by
  rw [hgrow.block b (by simp; omega) (fun e => hne e.symm), Lib.alloc_old w1 _ b hlt]
  exact hbk
 have d0 : w2.cell? ⟨b, 0, none⟩ = some (.pointer (some ⟨b, 0, none⟩)) := by rw [Lib.cell_of_heap hb2]; rfl
 have d1 : w2.cell? ⟨b, 1, none⟩ = some v := by rw [Lib.cell_of_heap hb2]; rfl
 have f1 : w2.frozen? ⟨b, 1, none⟩ = false := Lib.frozen_of_heap hb2 1
 obtain ⟨g, cap, rfl⟩ : ∃ g cap, v' = .slice (some ⟨g, 0, none⟩) (bs.length + 1) cap := by
  rcases hown'.2 with ⟨_, h0⟩ | ⟨g, cap, cur, hv, _⟩
  ·omega
  ·exact ⟨g, cap, hv⟩
 go_wp2
 go_ret
 refine ⟨rfl, .inr ?_, ?_⟩
 ·exact Lib.BuilderAt.put (T := 68) (e := 5) hB hb2 (bs' := bs ++ [.int .u8 cv]) (by simpa using hown') (by decide)
 ·exact ((hb1.alloc _ _).appended (hown.alloc _) hgrow (Nat.le_refl _) (by decide)).set (p := ⟨b, 1, none⟩) hb2 (by decide) hB _
set_option maxHeartbeats 2000000 in
set_option maxRecDepth 100000 in
theorem wstr_any (BB b : Nat) (l l2 : List UInt8) (w : World) (h : Bd BB b l w) (hlen : l.length ≤ 1000000) (hl2 : l2.length ≤ 1000000) (hBw : BB ≤ w.heap.size) :
  Calls Tryz.prog 52 #[.pointer (some ⟨b, 0, none⟩), .string (strB l2)] w fun e w' => (∃ n, e = .returned (.tuple #[.int .i64 n, .nilIface])) ∧ (Bd BB b (l ++ l2) w' ∧ Tn kBd BB w w') := by
 obtain ⟨bs, hbs⟩ : ∃ bs, Lib.byteCells l = bs := ⟨_, rfl⟩
 have hbl : bs.length ≤ 1000000 := by rw [← hbs, Lib.byteCells_length]; exact hlen
 have hs2 : (strB l2).size ≤ 1000000 := by rw [strB_size]; exact hl2
 have hgoal : Lib.byteCells (l ++ l2) = bs ++ Lib.strCells (strB l2) := by rw [Lib.byteCells_append, hbs, Lib.strCells_eq]; rfl
 unfold Bd at h ⊢
 rw [hgoal]
 rw [hbs] at h
 clear hgoal hbs hlen hl2
 generalize strB l2 = s at *
 obtain ⟨i0, hi, hz0, hz1, hz2⟩ := info_parts u8_info3
 go_enter Tryz.func52, Tryz.ntmps52
 go_wp2_with fail
 refine (check_any BB b bs _ h).mono ?_
 rintro e w1 ⟨rfl, h1, hb1⟩
 obtain ⟨hB, v, hbk, hown, hne⟩ := h1
 have c0 : w1.cell? ⟨b, 0, none⟩ = some (.pointer (some ⟨b, 0, none⟩)) := by rw [Lib.cell_of_heap hbk]; rfl
 have c1 : w1.cell? ⟨b, 1, none⟩ = some v := by rw [Lib.cell_of_heap hbk]; rfl
 go_wp2_with (at_builtin; refine Lib.wpList_append_own_string _ rfl _ _ 47 9 rfl BB 5 i0 u8s_und str_und hi hz0 hz1 hz2 _ _ _ rfl hown s rfl ?c3 ?c4 ?c5 ?_)
 case c3 => unfold maxLen; omega
 case c4 => omega
 case c5 => have := hb1.size; omega
 intro v' w2 hown' hgrow _
 have hlt : b < w1.heap.size := by
  rcases Nat.lt_or_ge b w1.heap.size with h' | h'
  ·exact h'
  ·simp [Array.getElem?_eq_none h'] at hbk
 have hb2 : w2.heap[b]? = some (.cells #[.pointer (some ⟨b, 0, none⟩), v] 68 (0, 0)) := by
  rw [hgrow.block b hlt (fun e => hne e.symm)]
  exact hbk
 have d0 : w2.cell? ⟨b, 0, none⟩ = some (.pointer (some ⟨b, 0, none⟩)) := by rw [Lib.cell_of_heap hb2]; rfl
 have d1 : w2.cell? ⟨b, 1, none⟩ = some v := by rw [Lib.cell_of_heap hb2]; rfl
 have f1 : w2.frozen? ⟨b, 1, none⟩ = false := Lib.frozen_of_heap hb2 1
 obtain ⟨ao, n', cap, rfl⟩ : ∃ ao n' cap, v' = .slice ao n' cap := by
  rcases hown'.2 with ⟨hv, _⟩ | ⟨g, cap, cur, hv, _⟩
  ·exact ⟨_, _, _, hv⟩
  ·exact ⟨_, _, _, hv⟩
 go_wp2
 go_ret2
 refine ⟨⟨_, rfl⟩, .inr ?_, ?_⟩
 ·exact Lib.BuilderAt.put (T := 68) (e := 5) hB hb2 (bs' := bs ++ Lib.strCells s) (by simpa [Lib.strCells_length] using hown') (by decide)
 ·exact (hb1.appended hown hgrow (Nat.le_refl _) (by decide)).set (p := ⟨b, 1, none⟩) hb2 (by decide) hB _
theorem bd_new (w : World) : Bd w.heap.size w.heap.size [] (w.alloc (.cells #[.pointer none, .slice none 0 0] 68)) := Lib.fresh_isBuilder _ _ w
theorem str_of_any (BB b : Nat) (l : List UInt8) (w : World) (h : Bd BB b l w) (hBw : BB ≤ w.heap.size) :
  Calls Tryz.prog 23 #[.pointer (some ⟨b, 0, none⟩)] w fun e w' => e = .returned (.string (strB l)) ∧ Below BB w w' := Tryz.Builder_String_any BB b l w h hBw
end Go.Proofs.YtglniapfnhedoaaGreatDoor
namespace Go.Proofs.YtglniapfnhedoaaGreatDoor
open Go.RowKit
set_option linter.unusedVariables false
def NumRow (w : World) (v : Value) (ns : List Nat) : Prop := ∃ g, v = .slice (some ⟨g, 0, none⟩) ns.length ns.length ∧ w.heap[g]? = some (.cells (ns.map fun (x : Nat) => Value.int .i64 (x : Int)).toArray 2 (0, 0))
theorem NumRow.tn {BB : Nat} {w w' : World} {v : Value} {ns : List Nat} (h : NumRow w v ns) (q : Tn kBd BB w w') : NumRow w' v ns := by
 obtain ⟨g, rfl, h2⟩ := h
 exact ⟨g, rfl, q.objc h2 (by decide)⟩
def T10 (BB : Nat) (w : World) : Prop := Lib.TabBelow Tryz.prog BB w "internal/strconv.uint64pow10" .u64 Lib.pow10Tab
theorem T10.tn {BB : Nat} {w w' : World} (h : T10 BB w) (q : Tn kBd BB w w') (hs : BB ≤ w.heap.size) : T10 BB w' := Lib.TabBelow.on h (q.below (Nat.le_refl _) hs)
theorem T10.b {BB : Nat} {w w' : World} (h : T10 BB w) (q : B w w') (hs : BB ≤ w.heap.size) : T10 BB w' := h.tn (q.tn kBd BB) hs
theorem Bd.b {BB b : Nat} {l : List UInt8} {w w' : World} (h : Bd BB b l w) (q : B w w') : Bd BB b l w' := by
 have key : ∀ p, Lib.BuilderAt 68 5 BB b p (Lib.byteCells l) w → Lib.BuilderAt 68 5 BB b p (Lib.byteCells l) w' := by
  rintro p ⟨hB, v, hv, ho, hn⟩
  exact ⟨hB, v, q.obj hv, row_keep ho q, hn⟩
 exact Or.imp (key _) (key _) h
theorem decI_le {x : Nat} (h : x ≤ 10000000000000) : (decI (x : Int)).length ≤ 20 := by
 have := decS_size h
 rw [decS_strB, strB_size] at this
 exact this
theorem fmt_any (BB x : Nat) (hx : x ≤ 10000000000000) (w : World) (ht : T10 BB w) : Calls Tryz.prog 54 #[.int .i64 (x : Int), .int .i64 10] w fun e w' => e = .returned (.string (strB (decI (x : Int)))) ∧ B w w' := by
 refine (Tryz.strconv_FormatInt_10 (x : Int) (by omega) (by omega) w (Lib.TabBelow.here ht)).mono ?_
 rintro e w' ⟨rfl, k, os, rfl⟩
 refine ⟨?_, ?_⟩
 ·unfold Lib.itoa decI strB
  rw [if_neg (by omega)]
 ·exact ⟨⟨rfl, rfl, rfl, by simp [Sort.grow, World.drewN], fun j hj => by rw [Sort.heap_grow_old _ _ (by simpa [World.drewN] using hj)]; rfl⟩⟩
end Go.Proofs.YtglniapfnhedoaaGreatDoor
namespace Go.Proofs.YtglniapfnhedoaaGreatDoor
open Go.RowKit
set_option linter.unusedVariables false
theorem bd_size {BB b : Nat} {l : List UInt8} {w : World} (h : Bd BB b l w) : BB ≤ w.heap.size := by
 rcases h with h | h
 ·exact Nat.le_trans h.1 (Nat.le_of_lt h.lt)
 ·exact Nat.le_trans h.1 (Nat.le_of_lt h.lt)
theorem lineT_two (f s : List UInt8) (ns : List (List UInt8)) : lineT (f :: s :: ns) = f ++ [32] ++ s ++ (ns.flatMap fun n => 32 :: n) ++ [10] := by
 have key : ∀ (ns : List (List UInt8)) (s : List UInt8), lineT (s :: ns) = s ++ (ns.flatMap fun n => 32 :: n) ++ [10] := by
  intro ns
  induction ns with
  | nil => intro s; simp [lineT]
  | cons n ns ih => intro s; rw [lineT, ih n]; simp; simp
 rw [lineT, key ns s]
 simp
 simp
theorem num_get {ns : List Nat} {i : Nat} {x : Nat} (h : ns[i]? = some x) : (ns.map fun (x : Nat) => Value.int .i64 (x : Int)).toArray[i]? = some (.int .i64 (x : Int)) := by simp [h]
set_option maxRecDepth 100000 in
set_option maxHeartbeats 4000000 in
theorem pline_any (BB b : Nat) (l f s : List UInt8) (ns : List Nat) (v : Value) (w : World) (h : Bd BB b l w) (hv : NumRow w v ns) (ht : T10 BB w)
  (hl : l.length ≤ 900000) (hf : f.length ≤ 1000) (hs : s.length ≤ 1000) (hn : ns.length ≤ 10) (hns : ∀ x ∈ ns, x ≤ 10000000000000) :
  Calls Tryz.prog 20 #[.pointer (some ⟨b, 0, none⟩), .string (strB f), .string (strB s), v] w fun e w' => e = .returned (.tuple #[]) ∧ Bd BB b (l ++ lineT (f :: s :: ns.map fun (x : Nat) => decI (x : Int))) w' ∧ Tn kBd BB w w' := by
 obtain ⟨g, rfl, _⟩ := id hv
 obtain ⟨LL, hLL⟩ : ∃ LL, l ++ lineT (f :: s :: ns.map fun (x : Nat) => decI (x : Int)) = LL := ⟨_, rfl⟩
 rw [hLL]
 rw [lineT_two, List.flatMap_map] at hLL
 have HL := Lib.hid hLL
 clear hLL
 have c1 := wstr_any BB b l f w h (by omega) (by omega) (bd_size h)
 go_enter Tryz.func20, Tryz.ntmps20
 go_wp2_with fail
 refine c1.mono ?_
 rintro _ w1 ⟨⟨n1, rfl⟩, h1, t1⟩
 clear c1
 have c2 := wbyte_any BB b (l ++ f) 32 w1 h1 (by simp; omega) (bd_size h1)
 go_wp2_with fail
 refine c2.mono ?_
 rintro _ w2 ⟨rfl, h2, t2⟩
 clear c2
 have c3 := wstr_any BB b (l ++ f ++ [32]) s w2 h2 (by simp; omega) (by omega) (bd_size h2)
 go_wp2_with fail
 refine c3.mono ?_
 rintro _ w3 ⟨⟨n3, rfl⟩, h3, t3⟩
 clear c3
 have t03 := (t1.trans t2).trans t3
 go_wp2
 go_loopw [20] (fun iv wr => ∃ (i : Nat), i ≤ ns.length ∧ iv = .int .i64 i ∧ Bd BB b (l ++ f ++ [32] ++ s ++ ((ns.take i).flatMap fun (x : Nat) => 32 :: decI (x : Int))) wr ∧ ((ns.take i).flatMap fun (x : Nat) => 32 :: decI (x : Int)).length ≤ 21 * i ∧ Tn kBd BB w wr) (fun iv _ => ns.length + 1 - (intOf iv).toNat)
 case atStart => exact ⟨0, Nat.zero_le _, rfl, by simpa using h3, by simp, t03⟩
 case round =>
  obtain ⟨i, hi, rfl, hB, hsz, tt⟩ := hrel
  obtain ⟨wo, rfl⟩ : ∃ wo : World, wo = wr := ⟨_, rfl⟩
  by_cases hlt : i < ns.length
  ·have hlB : decide ((i : Int) < (ns.length : Int)) = true := decide_eq_true (by omega)
   have hlI : (i : Int) < (ns.length : Int) := by omega
   have hi0 : (0 : Int) ≤ (i : Int) := by omega
   have wk1 : IntKind.i64.wrap ((i : Int) + 1) = (i : Int) + 1 := by rw [IntKind.wrap_i64]; omega
   obtain ⟨x, hx⟩ : ∃ x, ns[i]? = some x := ⟨_, List.getElem?_eq_getElem hlt⟩
   have hx13 := hns x (List.mem_of_getElem? hx)
   have oN := hv.tn tt
   obtain ⟨g', e1, o1⟩ := oN
   obtain rfl : g = g' := by simpa using e1
   have cx : wo.cell? ⟨g, i, none⟩ = some (.int .i64 (x : Int)) := by rw [obj_cell o1]; exact num_get hx
   have tt0 : T10 BB wo := ht.tn tt (bd_size h)
   generalize hT : ((ns.take i).flatMap fun (x : Nat) => 32 :: decI (x : Int)) = T at *
   have hT1 : ((ns.take (i + 1)).flatMap fun (x : Nat) => 32 :: decI (x : Int)) = T ++ 32 :: decI (x : Int) := by rw [take_flat hx, hT]
   have hd := decI_le hx13
   have c1 := wbyte_any BB b _ 32 wo hB (by simp; omega) (bd_size hB)
   go_wp2_with fail
   refine c1.mono ?_
   rintro _ w5 ⟨rfl, h5, t5⟩
   clear c1
   have c2 := fmt_any BB x hx13 w5 (tt0.tn t5 (bd_size hB))
   go_wp2_with fail
   refine c2.mono ?_
   rintro _ w6 ⟨rfl, q6⟩
   clear c2
   have h6 := h5.b q6
   have c3 := wstr_any BB b _ (decI (x : Int)) w6 h6 (by simp; omega) (by omega) (bd_size h6)
   go_wp2_with fail
   refine c3.mono ?_
   rintro _ w7 ⟨⟨n7, rfl⟩, h7, t7⟩
   clear c3
   go_wp2
   have t67 := (t5.trans (q6.tn kBd BB)).trans t7
   refine ⟨⟨i + 1, by omega, by go_num, ?_, ?_, tt.trans t67⟩, by simp [intOf]; omega⟩
   ·rw [hT1]
    simpa using h7
   ·rw [hT1]
    simp only [List.length_append, List.length_cons]
    omega
  ·obtain rfl : i = ns.length := by omega
   have hlB : decide ((ns.length : Int) < (ns.length : Int)) = false := decide_eq_false (by omega)
   rw [List.take_length] at hB hsz
   generalize hT : (ns.flatMap fun (x : Nat) => 32 :: decI (x : Int)) = T at *
   have c1 := wbyte_any BB b _ 10 wo hB (by simp; omega) (bd_size hB)
   go_wp2_with fail
   refine c1.mono ?_
   rintro _ w5 ⟨rfl, h5, t5⟩
   clear c1
   go_wp2
   go_end0
   have hLL := HL.out
   refine ⟨rfl, ?_, tt.trans t5⟩
   rw [← hLL]
   simpa using h5
end Go.Proofs.YtglniapfnhedoaaGreatDoor
namespace Go.Proofs.YtglniapfnhedoaaGreatDoor
open Go.RowKit
set_option linter.unusedVariables false
theorem secs_at' {w : World} {v : Value} {l : List Sec} (h : IsSecs w v l) {i : Nat} {s : Sec} (hs : l[i]? = some s) : ∃ a, (∃ cap, v = .slice (some a) l.length cap) ∧ SecAt w (a.add (i * 6)) s := by
 rcases h with ⟨_, rfl⟩ | ⟨a, cap, h1, _, _, h4⟩
 ·simp at hs
 ·exact ⟨a, ⟨cap, h1⟩, (h4 i s hs).2⟩
end Go.Proofs.YtglniapfnhedoaaGreatDoor
namespace Go.Proofs.YtglniapfnhedoaaGreatDoor
open Go.RowKit
set_option linter.unusedVariables false
structure PSt (BB b : Nat) (T : List UInt8) (w0 w : World) : Prop where
 bd : Bd BB b T w
 t10 : T10 BB w
 tn : Tn kBd BB w0 w
section
variable {BB bb : Nat} {T T' : List UInt8} {w0 w w' : World}
theorem PSt.b (h : PSt BB bb T w0 w) (q : B w w') : PSt BB bb T w0 w' := ⟨h.bd.b q, h.t10.b q (bd_size h.bd), h.tn.trans (q.tn kBd BB)⟩
theorem PSt.drew (h : PSt BB bb T w0 w) : PSt BB bb T w0 w.drew := h.b ((B.refl w).drew)
theorem PSt.alloc (h : PSt BB bb T w0 w) (cs : Array Value) (t : TypeId) : PSt BB bb T w0 (w.alloc (.cells cs t)) := h.b ((B.refl w).alloc cs t)
theorem PSt.put (h : PSt BB bb T w0 w) (k : Bd BB bb T' w') (q : Tn kBd BB w w') : PSt BB bb T' w0 w' := ⟨k, h.t10.tn q (bd_size h.bd), h.tn.trans q⟩
end
theorem NumRow.b {w w' : World} {v : Value} {ns : List Nat} (h : NumRow w v ns) (q : B w w') : NumRow w' v ns := by
 obtain ⟨g, rfl, h2⟩ := h
 exact ⟨g, rfl, q.obj h2⟩
theorem num_three (w : World) (a b c : Nat) : NumRow (w.alloc (.cells #[.int .i64 (a : Int), .int .i64 (b : Int), .int .i64 (c : Int)] 2)) (.slice (some ⟨w.heap.size, 0, none⟩) 3 3) [a, b, c] := ⟨_, rfl, obj_new _ _⟩
theorem slot_num (ns : List Nat) : Slot.stays (fun v w => NumRow w v ns) := fun _ _ _ h q => h.b q
theorem pl_any {BB b : Nat} {T : List UInt8} {w0 : World} (f s : List UInt8) (ns : List Nat) (hl : T.length ≤ 900000) (hf : f.length ≤ 1000) (hs : s.length ≤ 1000) (hn : ns.length ≤ 10) (hns : ∀ x ∈ ns, x ≤ 10000000000000) (v : Value) (w : World) (h : PSt BB b T w0 w) (hv : NumRow w v ns) :
  Calls Tryz.prog 20 #[.pointer (some ⟨b, 0, none⟩), .string (strB f), .string (strB s), v] w fun e w' => e = .returned (.tuple #[]) ∧ PSt BB b (T ++ lineT (f :: s :: ns.map fun (x : Nat) => decI (x : Int))) w0 w' :=
 (pline_any BB b T f s ns v w h.bd hv h.t10 hl hf hs hn hns).mono fun _ _ ⟨e, k, q⟩ => ⟨e, h.put k q⟩
set_option maxRecDepth 100000 in
set_option maxHeartbeats 4000000 in
theorem psecs_any (BB b : Nat) (T0 : List UInt8) (v : Value) (l : List Sec) (W w : World) (hB : Bd BB b T0 w) (hWB : B W w) (hb : W.heap.size ≤ BB) (hv : IsSecs W v l) (ht : T10 BB w)
  (hl : T0.length ≤ 800000) (hn : ∀ s ∈ l, secN s) (hl10 : l.length ≤ 100) :
  Calls Tryz.prog 21 #[.pointer (some ⟨b, 0, none⟩), v] w fun e w' => e = .returned (.tuple #[]) ∧ Bd BB b (T0 ++ l.flatMap fun s => lineT (secL s)) w' ∧ Tn kBd BB w w' := by
 obtain ⟨ao, ac, rfl⟩ := secs_form hv
 obtain ⟨LL, hLL⟩ : ∃ LL, (T0 ++ l.flatMap fun s => lineT (secL s)) = LL := ⟨_, rfl⟩
 rw [hLL]
 have HL := Lib.hid hLL
 clear hLL
 go_enter Tryz.func21, Tryz.ntmps21
 go_wp2
 go_loopw [8] (fun iv wr => ∃ (i : Nat), i ≤ l.length ∧ iv = .int .i64 i ∧ PSt BB b (T0 ++ (l.take i).flatMap fun s => lineT (secL s)) w wr ∧ ((l.take i).flatMap fun s => lineT (secL s)).length ≤ 130 * i) (fun iv _ => l.length + 1 - (intOf iv).toNat)
 case atStart => exact ⟨0, Nat.zero_le _, rfl, by simpa using (⟨hB, ht, Tn.refl _ _ _⟩ : PSt BB b T0 w w), by simp⟩
 case round =>
  obtain ⟨i, hi, rfl, hP, hsz⟩ := hrel
  obtain ⟨wo, rfl⟩ : ∃ wo : World, wo = wr := ⟨_, rfl⟩
  by_cases hlt : i < l.length
  ·have hlB : decide ((i : Int) < (l.length : Int)) = true := decide_eq_true (by omega)
   have hlI : (i : Int) < (l.length : Int) := by omega
   have hi0 : (0 : Int) ≤ (i : Int) := by omega
   have wk1 : IntKind.i64.wrap ((i : Int) + 1) = (i : Int) + 1 := by rw [IntKind.wrap_i64]; omega
   obtain ⟨F, hF⟩ : ∃ F, l[i]? = some F := ⟨_, List.getElem?_eq_getElem hlt⟩
   obtain ⟨a, ⟨cap, e1⟩, g1⟩ := secs_at' (hv.keepB (hP.tn.toB hWB hb)) hF
   obtain rfl : ao = some a := by
    simp only [Value.slice.injEq] at e1
    exact e1.1
   have hN := hn F (List.mem_of_getElem? hF)
   generalize hT : ((l.take i).flatMap fun s => lineT (secL s)) = T at *
   have hT1 : ((l.take (i + 1)).flatMap fun s => lineT (secL s)) = T ++ lineT (secL F) := by rw [take_flat hF, hT]
   obtain ⟨g0, g1, g2, g3, g4, g5⟩ := g1
   obtain ⟨R, H0, A0, B0, A1, B1⟩ := F
   obtain ⟨h', a0, b0, a1, b1, hE, y1, y2, y3, y4, y5⟩ := hN
   simp only [Sec.mk.injEq, true_and] at hE
   obtain ⟨rfl, rfl, rfl, rfl, rfl⟩ := hE
   simp only at g0 g1 g2 g3 g4 g5
   have z1 := decI_le y1
   have z2 := decI_le y2
   have z3 := decI_le y3
   have z4 := decI_le y4
   have z5 := decI_le y5
   have hPa := hP.alloc #[.bool R, .int .i64 (h' : Nat), .int .i64 (a0 : Nat), .int .i64 (b0 : Nat), .int .i64 (a1 : Nat), .int .i64 (b1 : Nat)] 37
   obtain ⟨W1, hW1⟩ : ∃ W1, wo.alloc (.cells #[.bool R, .int .i64 (h' : Nat), .int .i64 (a0 : Nat), .int .i64 (b0 : Nat), .int .i64 (a1 : Nat), .int .i64 (b1 : Nat)] 37) = W1 := ⟨_, rfl⟩
   have oS := obj_new wo (.cells #[.bool R, .int .i64 (h' : Nat), .int .i64 (a0 : Nat), .int .i64 (b0 : Nat), .int .i64 (a1 : Nat), .int .i64 (b1 : Nat)] 37)
   rw [hW1] at hPa oS
   have p0 : W1.cell? ⟨wo.heap.size, 0, none⟩ = some (.bool R) := obj_cell oS 0
   cases R
   ·go_wp2_with fail
    try rw [hW1]
    clear hW1 g0 g1 g2 g3 g4 g5
    generalize wo.heap.size = G at *
    have kB : ∀ w', B W1 w' → w'.cell? ⟨G, 1, none⟩ = some (.int .i64 (h' : Int)) ∧ w'.cell? ⟨G, 2, none⟩ = some (.int .i64 (a0 : Int)) ∧ w'.cell? ⟨G, 3, none⟩ = some (.int .i64 (b0 : Int)) ∧ w'.cell? ⟨G, 4, none⟩ = some (.int .i64 (a1 : Int)) ∧ w'.cell? ⟨G, 5, none⟩ = some (.int .i64 (b1 : Int)) := by
     intro w' q
     have oS' := q.obj oS
     exact ⟨obj_cell oS' 1, obj_cell oS' 2, obj_cell oS' 3, obj_cell oS' 4, obj_cell oS' 5⟩
    have hns : ∀ x ∈ [a0, b0, a1, b1], x ≤ 10000000000000 := by
     intro x hx
     simp only [List.mem_cons, List.not_mem_nil, or_false] at hx
     rcases hx with rfl | rfl | rfl | rfl <;> assumption
    have cF : ∀ w6, B W1 w6 → Calls Tryz.prog 54 #[.int .i64 (h' : Int), .int .i64 10] w6 fun e w' => e = .returned (.string (strB (decI (h' : Int)))) ∧ B w6 w' := fun w6 q => fmt_any BB h' y1 w6 (hPa.b q).t10
    have cP : ∀ w6 g, B W1 w6 → w6.heap[g]? = some (.cells ([a0, b0, a1, b1].map fun (x : Nat) => Value.int .i64 (x : Int)).toArray 2 (0, 0)) → Calls Tryz.prog 20 #[.pointer (some ⟨b, 0, none⟩), .string ({ data := #[98, 111, 120] } : ByteArray), .string (strB (decI (h' : Int))), .slice (some ⟨g, 0, none⟩) ([a0, b0, a1, b1] : List Nat).length ([a0, b0, a1, b1] : List Nat).length] w6 fun e w' => e = .returned (.tuple #[]) ∧ PSt BB b (T0 ++ T ++ lineT (kBox :: decI (h' : Int) :: [a0, b0, a1, b1].map fun (x : Nat) => decI (x : Int))) w w' :=
     fun w6 g q6 o6 => pl_any kBox (decI (h' : Int)) [a0, b0, a1, b1] (by simp; omega) (by decide) (by omega) (by simp) hns _ _ (hPa.b q6) ⟨g, rfl, o6⟩
    have hLn : lineT (secL { r := false, h := (h' : Int), a0 := (a0 : Int), b0 := (b0 : Int), a1 := (a1 : Int), b1 := (b1 : Int) }) = lineT (kBox :: decI (h' : Int) :: [a0, b0, a1, b1].map fun (x : Nat) => decI (x : Int)) := rfl
    have hLz : (lineT (kBox :: decI (h' : Int) :: [a0, b0, a1, b1].map fun (x : Nat) => decI (x : Int))).length ≤ 130 := by
     rw [lineT_two]
     simp [kBox]
     omega
    rw [hLn] at hT1
    generalize hLL2 : lineT (kBox :: decI (h' : Int) :: [a0, b0, a1, b1].map fun (x : Nat) => decI (x : Int)) = LN at *
    generalize strB (decI (h' : Int)) = Dh at *
    have HU := Lib.hid (And.intro hT1 (And.intro hLz (And.intro hsz hlt)))
    clear hT1 hLz hsz hlt hF hns hLn hLL2 z1 z2 z3 z4 z5 hP y1 y2 y3 y4 y5 hT hB ht hWB hb hv hn hPa oS
    refine wp_region_noPanic ?_
    refine wp_region_slots [(0, 24), (1, 25), (2, 26), (3, 27), (4, 28), (5, 29), (6, 30), (7, 31), (8, 32), (9, 33), (10, 34), (11, 35), (12, 36)] [(13, 2)] [0, 0, 2, 4, 0, 16, 0, 64, 0, 256, 0, 1024, 2720, 4105] [0, 0, 2, 4, 0, 16, 0, 64, 0, 256, 0, 1024, 2720, 4105] [0, 0, 2, 6, 0, 16, 0, 64, 0, 256, 0, 1024, 4080, 8191] 8191 [(fun v _ => v = .pointer (some ⟨b, 0, none⟩)), (fun v _ => v = .pointer (some ⟨G, 1, none⟩)), (fun v _ => v = (.int .i64 (h' : Int))), (fun v _ => v = .string Dh), (fun v _ => v = .pointer (some ⟨G, 2, none⟩)), (fun v _ => v = (.int .i64 (a0 : Int))), (fun v _ => v = .pointer (some ⟨G, 3, none⟩)), (fun v _ => v = (.int .i64 (b0 : Int))), (fun v _ => v = .pointer (some ⟨G, 4, none⟩)), (fun v _ => v = (.int .i64 (a1 : Int))), (fun v _ => v = .pointer (some ⟨G, 5, none⟩)), (fun v _ => v = (.int .i64 (b1 : Int))), (fun v w => NumRow w v [a0, b0, a1, b1])] (by kernel_rfl) (by kernel_rfl) (fun _ _ _ _ h => h) ⟨slot_val _, slot_val _, slot_val _, slot_val _, slot_val _, slot_val _, slot_val _, slot_val _, slot_val _, slot_val _, slot_val _, slot_val _, slot_num _, trivial⟩ ⟨?_, ?_, ?_, ?_, ?_, ?_, ?_, ?_, ?_, ?_, ?_, ?_, ?_, trivial⟩ ?_
    ·intro f w' hf hB
     clear hf
     refine slot_op rfl (fun _ => rfl) (fun T hT K hK => ?_)
     simp only [putsL, List.set_cons_zero, List.set_cons_succ] at hT
     subst hT
     go_simp
     exact hK.out _ _ rfl (B.refl _)
    ·intro f w' hf hB
     clear hf
     refine slot_op rfl (fun _ => rfl) (fun T hT K hK => ?_)
     simp only [putsL, List.set_cons_zero, List.set_cons_succ] at hT
     subst hT
     go_simp
     exact hK.out _ _ rfl (B.refl _)
    ·intro f w' hf hB
     have h1 := hf (1, 25) (by simp) (by rfl)
     clear hf
     have e1 : f 1 = .pointer (some ⟨G, 1, none⟩) := h1
     obtain ⟨k1, k2, k3, k4, k5⟩ := kB _ hB
     refine slot_op rfl (fun _ => rfl) (fun T hT K hK => ?_)
     simp only [putsL, List.set_cons_zero, List.set_cons_succ, e1] at hT
     subst hT
     go_simp
     exact hK.out _ _ rfl (B.refl _)
    ·intro f w' hf hB
     have h2 := hf (2, 26) (by simp) (by rfl)
     clear hf
     have e2 : f 2 = (.int .i64 (h' : Int)) := h2
     refine slot_op rfl (fun _ => rfl) (fun T hT K hK => ?_)
     simp only [putsL, List.set_cons_zero, List.set_cons_succ, e2] at hT
     subst hT
     go_simp
     (with_reducible refine (cF _ hB).mono ?_)
     rintro e w2 ⟨rfl, q⟩
     exact hK.out _ _ rfl q
    ·intro f w' hf hB
     clear hf
     refine slot_op rfl (fun _ => rfl) (fun T hT K hK => ?_)
     simp only [putsL, List.set_cons_zero, List.set_cons_succ] at hT
     subst hT
     go_simp
     exact hK.out _ _ rfl (B.refl _)
    ·intro f w' hf hB
     have h4 := hf (4, 28) (by simp) (by rfl)
     clear hf
     have e4 : f 4 = .pointer (some ⟨G, 2, none⟩) := h4
     obtain ⟨k1, k2, k3, k4, k5⟩ := kB _ hB
     refine slot_op rfl (fun _ => rfl) (fun T hT K hK => ?_)
     simp only [putsL, List.set_cons_zero, List.set_cons_succ, e4] at hT
     subst hT
     go_simp
     exact hK.out _ _ rfl (B.refl _)
    ·intro f w' hf hB
     clear hf
     refine slot_op rfl (fun _ => rfl) (fun T hT K hK => ?_)
     simp only [putsL, List.set_cons_zero, List.set_cons_succ] at hT
     subst hT
     go_simp
     exact hK.out _ _ rfl (B.refl _)
    ·intro f w' hf hB
     have h6 := hf (6, 30) (by simp) (by rfl)
     clear hf
     have e6 : f 6 = .pointer (some ⟨G, 3, none⟩) := h6
     obtain ⟨k1, k2, k3, k4, k5⟩ := kB _ hB
     refine slot_op rfl (fun _ => rfl) (fun T hT K hK => ?_)
     simp only [putsL, List.set_cons_zero, List.set_cons_succ, e6] at hT
     subst hT
     go_simp
     exact hK.out _ _ rfl (B.refl _)
    ·intro f w' hf hB
     clear hf
     refine slot_op rfl (fun _ => rfl) (fun T hT K hK => ?_)
     simp only [putsL, List.set_cons_zero, List.set_cons_succ] at hT
     subst hT
     go_simp
     exact hK.out _ _ rfl (B.refl _)
    ·intro f w' hf hB
     have h8 := hf (8, 32) (by simp) (by rfl)
     clear hf
     have e8 : f 8 = .pointer (some ⟨G, 4, none⟩) := h8
     obtain ⟨k1, k2, k3, k4, k5⟩ := kB _ hB
     refine slot_op rfl (fun _ => rfl) (fun T hT K hK => ?_)
     simp only [putsL, List.set_cons_zero, List.set_cons_succ, e8] at hT
     subst hT
     go_simp
     exact hK.out _ _ rfl (B.refl _)
    ·intro f w' hf hB
     clear hf
     refine slot_op rfl (fun _ => rfl) (fun T hT K hK => ?_)
     simp only [putsL, List.set_cons_zero, List.set_cons_succ] at hT
     subst hT
     go_simp
     exact hK.out _ _ rfl (B.refl _)
    ·intro f w' hf hB
     have h10 := hf (10, 34) (by simp) (by rfl)
     clear hf
     have e10 : f 10 = .pointer (some ⟨G, 5, none⟩) := h10
     obtain ⟨k1, k2, k3, k4, k5⟩ := kB _ hB
     refine slot_op rfl (fun _ => rfl) (fun T hT K hK => ?_)
     simp only [putsL, List.set_cons_zero, List.set_cons_succ, e10] at hT
     subst hT
     go_simp
     exact hK.out _ _ rfl (B.refl _)
    ·intro f w' hf hB
     have h5 := hf (5, 29) (by simp) (by rfl)
     have h7 := hf (7, 31) (by simp) (by rfl)
     have h9 := hf (9, 33) (by simp) (by rfl)
     have h11 := hf (11, 35) (by simp) (by rfl)
     clear hf
     have e5 : f 5 = (.int .i64 (a0 : Int)) := h5
     have e7 : f 7 = (.int .i64 (b0 : Int)) := h7
     have e9 : f 9 = (.int .i64 (a1 : Int)) := h9
     have e11 : f 11 = (.int .i64 (b1 : Int)) := h11
     refine slot_op rfl (fun _ => rfl) (fun T hT K hK => ?_)
     simp only [putsL, List.set_cons_zero, List.set_cons_succ, e5, e7, e9, e11] at hT
     subst hT
     go_simp
     exact hK.out _ _ ⟨_, rfl, obj_new _ _⟩ ((B.refl _).alloc _ _)
    ·intro f w' hf hB T hT
     have h0 : f 0 = _ := hf (0, 24) (by simp)
     have h3 : f 3 = _ := hf (3, 27) (by simp)
     have h8 := hf (12, 36) (by simp)
     obtain ⟨g, e8, o8⟩ := h8
     clear hf
     simp only [putsL, List.set_cons_zero, List.set_cons_succ, h0, h3, e8] at hT
     subst hT
     have cP1 := cP w' g hB o8
     clear cP cF kB o8 e8 h0 h3 hB
     refine wpSeq_call rfl (by kernel_rfl) (fun K hK => ?_)
     go_simp
     (with_reducible refine (Calls.mono cP1 ?_))
     rintro _ w7 ⟨rfl, P7⟩
     refine hK.out _ _ trivial (fun _ => ?_)
     clear hK cP1
     refine wpSeq_done ?_
     refine NoPanic.normal ?_
     have HP7 := Lib.hid P7
     clear P7
     go_wp2
     go_roundw
     case rel =>
      obtain ⟨u1, u2, u3, u4⟩ := HU.out
      refine ⟨i + 1, by omega, by go_num, ?_, ?_⟩
      ·rw [u1]
       simpa using HP7.out
      ·rw [u1, List.length_append]
       omega
     case measure => have := HU.out.2.2.2; simp [intOf]; omega
   ·go_wp2_with fail
    try rw [hW1]
    clear hW1 g0 g1 g2 g3 g4 g5
    generalize wo.heap.size = G at *
    have kB : ∀ w', B W1 w' → w'.cell? ⟨G, 1, none⟩ = some (.int .i64 (h' : Int)) ∧ w'.cell? ⟨G, 2, none⟩ = some (.int .i64 (a0 : Int)) ∧ w'.cell? ⟨G, 3, none⟩ = some (.int .i64 (b0 : Int)) ∧ w'.cell? ⟨G, 4, none⟩ = some (.int .i64 (a1 : Int)) ∧ w'.cell? ⟨G, 5, none⟩ = some (.int .i64 (b1 : Int)) := by
     intro w' q
     have oS' := q.obj oS
     exact ⟨obj_cell oS' 1, obj_cell oS' 2, obj_cell oS' 3, obj_cell oS' 4, obj_cell oS' 5⟩
    have hns : ∀ x ∈ [a0, a1], x ≤ 10000000000000 := by
     intro x hx
     simp only [List.mem_cons, List.not_mem_nil, or_false] at hx
     rcases hx with rfl | rfl <;> assumption
    have cF : ∀ w6, B W1 w6 → Calls Tryz.prog 54 #[.int .i64 (h' : Int), .int .i64 10] w6 fun e w' => e = .returned (.string (strB (decI (h' : Int)))) ∧ B w6 w' := fun w6 q => fmt_any BB h' y1 w6 (hPa.b q).t10
    have cP : ∀ w6 g, B W1 w6 → w6.heap[g]? = some (.cells ([a0, a1].map fun (x : Nat) => Value.int .i64 (x : Int)).toArray 2 (0, 0)) → Calls Tryz.prog 20 #[.pointer (some ⟨b, 0, none⟩), .string ({ data := #[114, 111, 117, 110, 100] } : ByteArray), .string (strB (decI (h' : Int))), .slice (some ⟨g, 0, none⟩) ([a0, a1] : List Nat).length ([a0, a1] : List Nat).length] w6 fun e w' => e = .returned (.tuple #[]) ∧ PSt BB b (T0 ++ T ++ lineT (kRound :: decI (h' : Int) :: [a0, a1].map fun (x : Nat) => decI (x : Int))) w w' :=
     fun w6 g q6 o6 => pl_any kRound (decI (h' : Int)) [a0, a1] (by simp; omega) (by decide) (by omega) (by simp) hns _ _ (hPa.b q6) ⟨g, rfl, o6⟩
    have hLn : lineT (secL { r := true, h := (h' : Int), a0 := (a0 : Int), b0 := (b0 : Int), a1 := (a1 : Int), b1 := (b1 : Int) }) = lineT (kRound :: decI (h' : Int) :: [a0, a1].map fun (x : Nat) => decI (x : Int)) := rfl
    have hLz : (lineT (kRound :: decI (h' : Int) :: [a0, a1].map fun (x : Nat) => decI (x : Int))).length ≤ 130 := by
     rw [lineT_two]
     simp [kRound]
     omega
    rw [hLn] at hT1
    generalize hLL2 : lineT (kRound :: decI (h' : Int) :: [a0, a1].map fun (x : Nat) => decI (x : Int)) = LN at *
    generalize strB (decI (h' : Int)) = Dh at *
    have HU := Lib.hid (And.intro hT1 (And.intro hLz (And.intro hsz hlt)))
    clear hT1 hLz hsz hlt hF hns hLn hLL2 z1 z2 z3 z4 z5 hP y1 y2 y3 y4 y5 hT hB ht hWB hb hv hn hPa oS
    refine wp_region_noPanic ?_
    refine wp_region_slots [(0, 14), (1, 15), (2, 16), (3, 17), (4, 18), (5, 19), (6, 20), (7, 21), (8, 22)] [(9, 2)] [0, 0, 2, 4, 0, 16, 0, 64, 160, 265] [0, 0, 2, 4, 0, 16, 0, 64, 160, 265] [0, 0, 2, 6, 0, 16, 0, 64, 240, 511] 511 [(fun v _ => v = .pointer (some ⟨b, 0, none⟩)), (fun v _ => v = .pointer (some ⟨G, 1, none⟩)), (fun v _ => v = (.int .i64 (h' : Int))), (fun v _ => v = .string Dh), (fun v _ => v = .pointer (some ⟨G, 2, none⟩)), (fun v _ => v = (.int .i64 (a0 : Int))), (fun v _ => v = .pointer (some ⟨G, 4, none⟩)), (fun v _ => v = (.int .i64 (a1 : Int))), (fun v w => NumRow w v [a0, a1])] (by kernel_rfl) (by kernel_rfl) (fun _ _ _ _ h => h) ⟨slot_val _, slot_val _, slot_val _, slot_val _, slot_val _, slot_val _, slot_val _, slot_val _, slot_num _, trivial⟩ ⟨?_, ?_, ?_, ?_, ?_, ?_, ?_, ?_, ?_, trivial⟩ ?_
    ·intro f w' hf hB
     clear hf
     refine slot_op rfl (fun _ => rfl) (fun T hT K hK => ?_)
     simp only [putsL, List.set_cons_zero, List.set_cons_succ] at hT
     subst hT
     go_simp
     exact hK.out _ _ rfl (B.refl _)
    ·intro f w' hf hB
     clear hf
     refine slot_op rfl (fun _ => rfl) (fun T hT K hK => ?_)
     simp only [putsL, List.set_cons_zero, List.set_cons_succ] at hT
     subst hT
     go_simp
     exact hK.out _ _ rfl (B.refl _)
    ·intro f w' hf hB
     have h1 := hf (1, 15) (by simp) (by rfl)
     clear hf
     have e1 : f 1 = .pointer (some ⟨G, 1, none⟩) := h1
     obtain ⟨k1, k2, k3, k4, k5⟩ := kB _ hB
     refine slot_op rfl (fun _ => rfl) (fun T hT K hK => ?_)
     simp only [putsL, List.set_cons_zero, List.set_cons_succ, e1] at hT
     subst hT
     go_simp
     exact hK.out _ _ rfl (B.refl _)
    ·intro f w' hf hB
     have h2 := hf (2, 16) (by simp) (by rfl)
     clear hf
     have e2 : f 2 = (.int .i64 (h' : Int)) := h2
     refine slot_op rfl (fun _ => rfl) (fun T hT K hK => ?_)
     simp only [putsL, List.set_cons_zero, List.set_cons_succ, e2] at hT
     subst hT
     go_simp
     (with_reducible refine (cF _ hB).mono ?_)
     rintro e w2 ⟨rfl, q⟩
     exact hK.out _ _ rfl q
    ·intro f w' hf hB
     clear hf
     refine slot_op rfl (fun _ => rfl) (fun T hT K hK => ?_)
     simp only [putsL, List.set_cons_zero, List.set_cons_succ] at hT
     subst hT
     go_simp
     exact hK.out _ _ rfl (B.refl _)
    ·intro f w' hf hB
     have h4 := hf (4, 18) (by simp) (by rfl)
     clear hf
     have e4 : f 4 = .pointer (some ⟨G, 2, none⟩) := h4
     obtain ⟨k1, k2, k3, k4, k5⟩ := kB _ hB
     refine slot_op rfl (fun _ => rfl) (fun T hT K hK => ?_)
     simp only [putsL, List.set_cons_zero, List.set_cons_succ, e4] at hT
     subst hT
     go_simp
     exact hK.out _ _ rfl (B.refl _)
    ·intro f w' hf hB
     clear hf
     refine slot_op rfl (fun _ => rfl) (fun T hT K hK => ?_)
     simp only [putsL, List.set_cons_zero, List.set_cons_succ] at hT
     subst hT
     go_simp
     exact hK.out _ _ rfl (B.refl _)
    ·intro f w' hf hB
     have h6 := hf (6, 20) (by simp) (by rfl)
     clear hf
     have e6 : f 6 = .pointer (some ⟨G, 4, none⟩) := h6
     obtain ⟨k1, k2, k3, k4, k5⟩ := kB _ hB
     refine slot_op rfl (fun _ => rfl) (fun T hT K hK => ?_)
     simp only [putsL, List.set_cons_zero, List.set_cons_succ, e6] at hT
     subst hT
     go_simp
     exact hK.out _ _ rfl (B.refl _)
    ·intro f w' hf hB
     have h5 := hf (5, 19) (by simp) (by rfl)
     have h7 := hf (7, 21) (by simp) (by rfl)
     clear hf
     have e5 : f 5 = (.int .i64 (a0 : Int)) := h5
     have e7 : f 7 = (.int .i64 (a1 : Int)) := h7
     refine slot_op rfl (fun _ => rfl) (fun T hT K hK => ?_)
     simp only [putsL, List.set_cons_zero, List.set_cons_succ, e5, e7] at hT
     subst hT
     go_simp
     exact hK.out _ _ ⟨_, rfl, obj_new _ _⟩ ((B.refl _).alloc _ _)
    ·intro f w' hf hB T hT
     have h0 : f 0 = _ := hf (0, 14) (by simp)
     have h3 : f 3 = _ := hf (3, 17) (by simp)
     have h8 := hf (8, 22) (by simp)
     obtain ⟨g, e8, o8⟩ := h8
     clear hf
     simp only [putsL, List.set_cons_zero, List.set_cons_succ, h0, h3, e8] at hT
     subst hT
     have cP1 := cP w' g hB o8
     clear cP cF kB o8 e8 h0 h3 hB
     refine wpSeq_call rfl (by kernel_rfl) (fun K hK => ?_)
     go_simp
     (with_reducible refine (Calls.mono cP1 ?_))
     rintro _ w7 ⟨rfl, P7⟩
     refine hK.out _ _ trivial (fun _ => ?_)
     clear hK cP1
     refine wpSeq_done ?_
     refine NoPanic.normal ?_
     have HP7 := Lib.hid P7
     clear P7
     go_wp2
     go_roundw
     case rel =>
      obtain ⟨u1, u2, u3, u4⟩ := HU.out
      refine ⟨i + 1, by omega, by go_num, ?_, ?_⟩
      ·rw [u1]
       simpa using HP7.out
      ·rw [u1, List.length_append]
       omega
     case measure => have := HU.out.2.2.2; simp [intOf]; omega
  ·obtain rfl : i = l.length := by omega
   have hlB : decide ((l.length : Int) < (l.length : Int)) = false := decide_eq_false (by omega)
   rw [List.take_length] at hP
   go_wp2
   go_end0
   have hLL := HL.out
   exact ⟨rfl, hLL ▸ hP.bd, hP.tn⟩
end Go.Proofs.YtglniapfnhedoaaGreatDoor
