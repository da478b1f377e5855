/-
  Layer 8's statements: what each of them asks first.
-/
import Derived.Test.YtknpabijhmcjhaaL8same
import Derived.Test.YtknpabijhmcjhaaNamek
import Derived.Test.YtknpabijhmcjhaaDec
import Derived.Lib.SlBytesConst
namespace Go.Proofs.Ytknpabijhmcjhaa
open Go.RowKit

theorem B.allocM {a w : World} (h : B a w) (o : Obj) : B a (w.alloc o) := ⟨h.below.alloc h.below.size _⟩
/-- The cells of bytes. -/
def cellsB (bs : List UInt8) : Array Value := (bs.map fun c => Value.int .u8 ((c.toNat : Nat) : Int)).toArray
theorem isB_const (w : World) (bs : List UInt8) (t : TypeId) (fr : Nat × Nat) (h : bs.length ≤ maxLen) : IsB (w.alloc (.cells (cellsB bs) t fr)) (some ⟨w.heap.size, 0, none⟩) bs.length w.heap.size 0 bs := by
  refine ⟨fun i c hc => ?_, fun _ => rfl, Nat.le_refl _, h⟩
  rw [Nat.zero_add, World.cell?_alloc_mark]
  simp [cellsB, hc]
def knownA : List UInt8 := [97, 32, 35, 32, 98, 10, 10, 32, 99, 46, 49]
def knownB : List UInt8 := [97, 45, 98]
theorem knownA_lines : linesB knownA = ([[(0, [97])], [(8, [99, 46, 49])]], 0, 0) := by kernel_rfl
theorem knownB_lines : linesB knownB = ([], 1, 24) := by kernel_rfl
theorem IsLines.two {w : World} {v : Value} {L M : List Wd} (h : IsLines w v [L, M]) : ∃ g cap u x, v = .slice (some ⟨g, 0, none⟩) 2 cap ∧ w.cell? ⟨g, 0, none⟩ = some u ∧ IsWords w u L ∧ w.cell? ⟨g, 1, none⟩ = some x ∧ IsWords w x M := by
  rcases h with ⟨_, h⟩ | ⟨g, cap, h1, _, _, h4⟩
  · cases h
  · obtain ⟨u, k1, k2⟩ := h4 0 L rfl
    obtain ⟨x, k3, k4⟩ := h4 1 M rfl
    exact ⟨g, cap, u, x, h1, k1, k2, k3, k4⟩
theorem known_nums : numV (⟨#[49, 50, 48]⟩ : ByteArray) = 120 ∧ numOk (⟨#[49, 50, 48]⟩ : ByteArray) = true ∧ nameS (⟨#[97, 49]⟩ : ByteArray) = true ∧ nameS (⟨#[49, 97]⟩ : ByteArray) = false := by
  refine ⟨?_, ?_, ?_, ?_⟩ <;> kernel_rfl
set_option maxHeartbeats 2000000 in
theorem known8_any (w : World) : Calls Try.prog 9 #[] w fun e w' => e = .returned (.bool true) ∧ B w w' := by
  have hk1 := Lib.run_convert_bytes_const (P := Try.prog) w 22 5 (cellsB knownA) 11 11 Try.underlying22 Try.underlying5
  rw [show cellsB knownA = #[.int .u8 97, .int .u8 32, .int .u8 35, .int .u8 32, .int .u8 98, .int .u8 10, .int .u8 10, .int .u8 32, .int .u8 99, .int .u8 46, .int .u8 49] from rfl] at hk1
  have hB1 := (B.refl w).allocM (.cells (cellsB knownA) 5 (11, 12))
  have c1 : Calls Try.prog 10 #[.slice (some ⟨w.heap.size, 0, none⟩) 11 11] (w.alloc (.cells (cellsB knownA) 5 (11, 12))) (LinesRes knownA (w.alloc (.cells (cellsB knownA) 5 (11, 12)))) :=
    lines_any (some ⟨w.heap.size, 0, none⟩) w.heap.size 0 11 knownA _ (isB_const w knownA _ _ (by decide))
  rw [show cellsB knownA = #[.int .u8 97, .int .u8 32, .int .u8 35, .int .u8 32, .int .u8 98, .int .u8 10, .int .u8 10, .int .u8 32, .int .u8 99, .int .u8 46, .int .u8 49] from rfl] at hB1 c1
  obtain ⟨n1, n2, n3, n4⟩ := known_nums
  have cn := fun w => number_any ⟨#[49, 50, 48]⟩ w
  unfold NumRes at cn
  rw [n1, n2] at cn
  have ca := fun w => name_any ⟨#[97, 49]⟩ w
  have cb := fun w => name_any ⟨#[49, 97]⟩ w
  rw [n3] at ca
  rw [n4] at cb
  clear n1 n2 n3 n4
  go_enter Try.func9, Try.ntmps9
  go_wp2_with fail
  refine c1.mono ?_
  unfold LinesRes
  rw [knownA_lines]
  rintro e w1 ⟨v, rfl, hv, q1⟩
  clear hk1 c1
  have B1 := hB1.trans q1
  clear hB1 q1
  obtain ⟨g, cap, u, x, rfl, k1, k2, k3, k4⟩ := hv.two
  clear hv
  obtain ⟨a2, cap2, rfl⟩ := k2.form
  obtain ⟨b4, cap4, rfl, _, _, _, z4⟩ := k4.full (by decide)
  obtain ⟨z5, _⟩ := z4 0 _ rfl
  clear k4 z4
  have hk2 := Lib.run_convert_bytes_const (P := Try.prog) w1 22 5 (cellsB knownB) 3 3 Try.underlying22 Try.underlying5
  rw [show cellsB knownB = #[.int .u8 97, .int .u8 45, .int .u8 98] from rfl] at hk2
  have hB2 := (B.refl w1).allocM (.cells (cellsB knownB) 5 (3, 4))
  have c2 : Calls Try.prog 10 #[.slice (some ⟨w1.heap.size, 0, none⟩) 3 3] (w1.alloc (.cells (cellsB knownB) 5 (3, 4))) (LinesRes knownB (w1.alloc (.cells (cellsB knownB) 5 (3, 4)))) :=
    lines_any (some ⟨w1.heap.size, 0, none⟩) w1.heap.size 0 3 knownB _ (isB_const w1 knownB _ _ (by decide))
  rw [show cellsB knownB = #[.int .u8 97, .int .u8 45, .int .u8 98] from rfl] at hB2 c2
  go_wp2_with fail
  refine c2.mono ?_
  unfold LinesRes
  rw [knownB_lines]
  rintro e w2 ⟨v2, rfl, hv2, q2⟩
  clear hk2 c2
  have B2 := hB2.trans q2
  clear hB2 q2
  go_wp2_with fail
  refine (cn _).mono ?_
  rintro e w3 ⟨rfl, q3⟩
  have B3 := B2.trans q3
  have m1 := B3.keep k1
  have m3 := B3.keep k3
  have m5 := B3.keep z5
  have B13 := B1.trans B3
  clear B1 B2 B3 q3 k1 k3 z5 k2 hv2 cn
  go_wp2_with fail
  refine (ca _).mono ?_
  rintro e w4 ⟨rfl, q4⟩
  go_wp2_with fail
  refine (cb _).mono ?_
  rintro e w5 ⟨rfl, q5⟩
  have HB := Lib.hid ((B13.trans q4).trans q5)
  go_wp2_with fail
  go_ret
  exact ⟨rfl, HB.out⟩
end Go.Proofs.Ytknpabijhmcjhaa
