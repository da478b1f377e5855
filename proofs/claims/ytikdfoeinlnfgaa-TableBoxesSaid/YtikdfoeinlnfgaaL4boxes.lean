/-
  Layer 4: the walk of TableBoxes.
-/
import Derived.Test.YtikdfoeinlnfgaaL4round
namespace Go.Proofs.Ytikdfoeinlnfgaa
open Go.RowKit

set_option maxRecDepth 100000 in
set_option maxHeartbeats 8000000 in
theorem boxes_law {T : World → Value → List (Int × Int) → Prop} (c : TabC T) (a b n part : Int) (ha : (Lit.int .u16 a).wf = true) (hb0 : (Lit.int .u16 b).wf = true) (hn : (Lit.int .u8 n).wf = true) (hp : (Lit.int .i64 part).wf = true) (w : World) :
    Calls Try.prog 7 #[.int .u16 a, .int .u16 b, .int .u8 n, .int .i64 part] w fun e w' => e = .returned (.bool true) ∧ B w w' := by
  obtain ⟨a1, a2⟩ := u16_wf ha
  obtain ⟨b1, b2⟩ := u16_wf hb0
  obtain ⟨n1, n2⟩ := u8_wf hn
  have ip := i64_wf hp
  clear ha hb0 hn hp
  have c0 := fun w => known4_any c w
  obtain ⟨x0, ex⟩ : ∃ x, a % 20000 = x := ⟨_, rfl⟩
  have ex' : a.tmod 20000 = x0 := by rw [Int.tmod_eq_emod_of_nonneg a1]; exact ex
  obtain ⟨y0, ey⟩ : ∃ x, b % 20000 = x := ⟨_, rfl⟩
  have ey' : b.tmod 20000 = y0 := by rw [Int.tmod_eq_emod_of_nonneg b1]; exact ey
  obtain ⟨k0, ek⟩ : ∃ x, n % 60 = x := ⟨_, rfl⟩
  have ek' : n.tmod 60 = k0 := by rw [Int.tmod_eq_emod_of_nonneg n1]; exact ek
  have x1 : 0 ≤ x0 ∧ x0 ≤ 19999 := by omega
  have y1 : 0 ≤ y0 ∧ y0 ≤ 19999 := by omega
  have k1 : 0 ≤ k0 ∧ k0 ≤ 59 := by omega
  have wx0 : IntKind.i64.wrap x0 = x0 := wrapI (by omega) (by omega)
  have wy0 : IntKind.i64.wrap y0 = y0 := wrapI (by omega) (by omega)
  have wk0 : IntKind.i64.wrap k0 = k0 := wrapI (by omega) (by omega)
  obtain ⟨x, exx⟩ : ∃ x, x0 + 1 = x := ⟨_, rfl⟩
  obtain ⟨y, eyy⟩ : ∃ x, y0 + 1 = x := ⟨_, rfl⟩
  obtain ⟨k, ekk⟩ : ∃ x, k0 + 1 = x := ⟨_, rfl⟩
  have wx : IntKind.i64.wrap x = x := wrapI (by omega) (by omega)
  have wy : IntKind.i64.wrap y = y := wrapI (by omega) (by omega)
  have wk : IntKind.i64.wrap k = k := wrapI (by omega) (by omega)
  obtain ⟨H, eH⟩ : ∃ H, k * 100 = H := ⟨_, rfl⟩
  have wH : IntKind.i64.wrap H = H := wrapI (by omega) (by omega)
  have hok : secOk ⟨false, H, x, y, x, y⟩ = true := by
    unfold secOk inB
    have : H.tmod 100 = 0 := by rw [Int.tmod_eq_emod_of_nonneg (by omega)]; omega
    simp [this]
    omega
  have hr := rightS_one hok
  have hb := tbnd_of hr
  have hfl := flat_slices hok rfl rfl
  have c1 := fun v w h => c.yes v [⟨false, H, x, y, x, y⟩] w h hr
  have hI : ∀ s ∈ [(⟨false, H, x, y, x, y⟩ : Sec)], s.I := fun s hs => by
    rw [List.mem_singleton.1 hs]
    exact ⟨by unfold I64; simp only; omega, by unfold I64; simp only; omega, by unfold I64; simp only; omega, by unfold I64; simp only; omega, by unfold I64; simp only; omega⟩
  have hHN : (H / 100).toNat = k.toNat := by omega
  rw [hHN] at hfl
  have hA1 : 1 * 1 ≤ x * y := mul_le (by omega) (by omega) (by omega) (by omega)
  have hA2 : x * y ≤ 20000 * 20000 := mul_le (by omega) (by omega) (by omega) (by omega)
  have har : ∀ u, areaM false x (if false = true then 0 else y) u = x * y := fun u => by simp [areaM]
  rw [har, har] at hfl
  obtain ⟨A, eA⟩ : ∃ A, x * y = A := ⟨_, rfl⟩
  rw [eA] at hfl hA1 hA2
  have hkk : (k.toNat : Int) = k := by omega
  have hlen : (slAll [⟨false, H, x, y, x, y⟩]).length = k.toNat := by rw [hfl]; simp
  have hlowV : ∀ m : Nat, m ≤ k.toNat → lowT (slAll [⟨false, H, x, y, x, y⟩]) (nearI (slAll [⟨false, H, x, y, x, y⟩]).length (m : Int)) = A * 100 * (m : Int) := fun m hm => by
    rw [hlen, nearI_of _ _ hm, hfl, rep_low _ _ _ hm, Int.mul_comm A 100]
  have hhighV : ∀ m : Nat, m ≤ k.toNat → highT (slAll [⟨false, H, x, y, x, y⟩]) (nearI (slAll [⟨false, H, x, y, x, y⟩]).length (m : Int)) = A * 100 * (m : Int) := fun m hm => by
    rw [hlen, nearI_of _ _ hm, hfl, rep_high _ _ _ hm, Int.mul_comm A 100]
  generalize slAll [⟨false, H, x, y, x, y⟩] = L at *
  have c3 := fun v w h => c.slices v L w hb h
  rw [hlen, hkk] at c3
  have wA : IntKind.i64.wrap A = A := wrapI (by omega) (by omega)
  have wA' : IntKind.i64.wrap (A * 100) = A * 100 := wrapI (by omega) (by omega)
  have hA0 : 0 ≤ A := by omega
  clear hfl hHN hr hok har hA1 wk0 hlen
  go_enter Try.func7, Try.ntmps7
  go_wp2_with fail
  refine (c0 _).mono ?_
  rintro e w1 ⟨rfl, g⟩
  go_wp2_with fail
  refine (c1 _ _ (isSecs_new (l := [⟨false, H, x, y, x, y⟩]) rfl rfl hI (by simp) (by decide))).mono ?_
  rintro e w2 ⟨pa, rfl, ht, h⟩
  replace g := (g.alloc _ _).trans h
  clear h
  go_wp2_with fail
  refine (c3 _ _ ht).mono ?_
  rintro e w3 ⟨rfl, h⟩
  replace g := g.trans h
  replace ht := c.keep ht h
  clear h
  go_wp2
  go_loopw [14] (fun i wr => ∃ m : Nat, m ≤ k.toNat + 1 ∧ i = .int .i64 m ∧ T wr (.pointer (some pa)) L ∧ B w wr) (fun i _ => k.toNat + 1 - (intOf i).toNat)
  case atStart => exact ⟨0, Nat.zero_le _, rfl, ht, g⟩
  case round =>
    clear ht g
    obtain ⟨m, hm, rfl, ht, g⟩ := hrel
    by_cases hl : m ≤ k.toNat
    · have hlB : decide ((m : Int) ≤ k) = true := decide_eq_true (by omega)
      have c4 := fun v w h => c.low v L (m : Int) w hb (by unfold I64; omega) h
      have c5 := fun v w h => c.high v L (m : Int) w hb (by unfold I64; omega) h
      have c6 := fun v w h => c.tru v L (m : Int) part w hb (by unfold I64; omega) ip h
      rw [hlowV m hl] at c4 c6
      rw [hhighV m hl] at c5 c6
      simp only [true_same] at c6
      have z0 : 0 ≤ A * 100 * (m : Int) := Int.mul_nonneg (by omega) (by omega)
      have z1 : A * 100 * (m : Int) ≤ 40000000000 * 60 := mul_le (by omega) (by omega) (by omega) (by omega)
      obtain ⟨V, eV⟩ : ∃ V, A * 100 * (m : Int) = V := ⟨_, rfl⟩
      rw [eV] at c4 c5 c6 z0 z1
      have wV : IntKind.i64.wrap V = V := wrapI (by omega) (by omega)
      have wm : IntKind.i64.wrap (m : Int) = (m : Int) := wrapI (by omega) (by omega)
      clear hlowV hhighV z0 z1
      go_wp2_with fail
      refine (c4 _ _ ht).mono ?_
      rintro e w4 ⟨rfl, h⟩
      replace g := g.trans h
      replace ht := c.keep ht h
      clear h
      go_wp2_with fail
      refine (c5 _ _ ht).mono ?_
      rintro e w5 ⟨rfl, h⟩
      replace g := g.trans h
      replace ht := c.keep ht h
      clear h
      go_wp2_with fail
      refine (c6 _ _ ht).mono ?_
      rintro e w6 ⟨rfl, h⟩
      replace g := g.trans h
      replace ht := c.keep ht h
      clear h
      go_wp2
      go_roundw
      case rel => exact ⟨m + 1, by omega, by go_num, ht, g⟩
      case measure => simp [intOf]; omega
    · have hlB : decide ((m : Int) ≤ k) = false := decide_eq_false (by omega)
      go_wp2
      go_ret
      exact ⟨rfl, g⟩
end Go.Proofs.Ytikdfoeinlnfgaa
