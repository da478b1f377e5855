/-
  Bytes that come in. No program is named here.
-/
import Derived.Test.YtknpabijhmcjhaaLexw
namespace Go.Proofs.Ytknpabijhmcjhaa
open Go.RowKit

def IsU8s (w : World) (v : Value) (bs : List UInt8) : Prop := ∃ ao cap b o, v = .slice ao bs.length cap ∧ IsB w ao cap b o bs
theorem isU8s_nil (w : World) : IsU8s w (.slice none 0 0) [] := ⟨none, 0, 0, 0, rfl, ⟨fun i c h => by simp at h, fun h => by simp at h, Nat.le_refl _, by unfold maxLen; omega⟩⟩
theorem spot_int {w : World} {p : Addr} {k : IntKind} {x : Int} (h : w.cell? p = some (.int k x)) : p.spot = none := by
  cases hsp : p.spot with
  | none => rfl
  | some x =>
    unfold World.cell? at h
    split at h
    · simp [hsp] at h
    · cases h
theorem isU8s_of {w : World} {a : Addr} {len cap : Nat} {zs : List Int} (h1 : len ≤ cap) (h2 : cap ≤ maxLen) (hz : zs.length = cap) (hc : ∀ i, i < zs.length → w.cell? (a.add i) = some (.int .u8 (zs.getD i 0))) (hw : ∀ n ∈ zs, (Lit.int .u8 n).wf = true) :
    IsU8s w (.slice (some a) len cap) ((zs.take len).map fun z => UInt8.ofNat z.toNat) := by
  have hl : ((zs.take len).map fun z => UInt8.ofNat z.toNat).length = len := by rw [List.length_map, List.length_take]; omega
  refine ⟨some a, cap, a.block, a.off, by rw [hl], ⟨fun i c hi => ?_, fun h => ?_, by rw [hl]; exact h1, h2⟩⟩
  · have hlt : i < len := by have := (List.getElem?_eq_some_iff.1 hi).1; omega
    have hlt' : i < zs.length := by omega
    have e : zs.getD i 0 = zs[i] := by rw [List.getD_eq_getElem?_getD, List.getElem?_eq_getElem hlt']; rfl
    have hm := hw _ (List.getElem_mem hlt')
    simp [Lit.wf, IntKind.min, IntKind.max, IntKind.signed, IntKind.bits] at hm
    have hcc := hc i hlt'
    rw [e] at hcc
    rw [List.getElem?_map, List.getElem?_take, if_pos hlt, List.getElem?_eq_getElem hlt'] at hi
    cases hi
    have h0 := hc 0 (by omega)
    have hsp : a.spot = none := spot_int (k := .u8) (x := zs.getD 0 0) (by have e0 : a.add 0 = a := by unfold Addr.add; simp
                                                                           rw [← e0]; exact h0)
    have ea : a.add i = ⟨a.block, a.off + i, none⟩ := by
      unfold Addr.add
      split
      · rename_i h; subst h; rw [Nat.add_zero, ← hsp]
      · rfl
    rw [ea] at hcc
    rw [hcc]
    have hx : (UInt8.ofNat (zs[i]).toNat).toNat = (zs[i]).toNat := by rw [UInt8.toNat_ofNat']; omega
    rw [hx]
    congr 2
    omega
  · rw [hl] at h
    have h0 := hc 0 (by omega)
    have hsp : a.spot = none := spot_int (k := .u8) (x := zs.getD 0 0) (by have e0 : a.add 0 = a := by unfold Addr.add; simp
                                                                           rw [← e0]; exact h0)
    rw [← hsp]
theorem IsU8s.keep {w w' : World} {v : Value} {bs : List UInt8} (h : IsU8s w v bs) (q : B w w') : IsU8s w' v bs := by
  obtain ⟨ao, cap, b, o, h1, h2⟩ := h
  exact ⟨ao, cap, b, o, h1, h2.keep q⟩
end Go.Proofs.Ytknpabijhmcjhaa
