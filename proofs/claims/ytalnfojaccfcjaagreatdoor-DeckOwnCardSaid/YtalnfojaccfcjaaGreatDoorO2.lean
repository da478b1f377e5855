/-
  A law and what it rests on.
-/
import Derived.Test.YtalnfojaccfcjaaGreatDoorY21
namespace Go.Proofs.YtalnfojaccfcjaaGreatDoor
open Go.RowKit
set_option linter.unusedVariables false

/-- Sections that the call owns. -/
structure SecsO (K : Nat) (w : World) (v : Value) (l : List Sec) : Prop where
  own : w.ownsRow K 37 6 v l.length (flat l)
  I : ∀ s ∈ l, s.I
section
variable {K K' : Nat} {w w' : World} {v : Value} {l : List Sec}
theorem SecsO.of (hI : ∀ s ∈ l, s.I) (h : w.ownsRow K 37 6 v l.length (flat l)) : SecsO K w v l := ⟨h, hI⟩
theorem SecsO.secs (h : SecsO K w v l) : IsSecs w v l := isSecs_own h.own h.I
theorem SecsO.keepB (h : SecsO K w v l) (q : B w w') : SecsO K w' v l := ⟨own_keepBx h.own q, h.I⟩
theorem SecsO.keep (h : SecsO K w v l) (q : Q w w') : SecsO K w' v l := h.keepB q.b
theorem SecsO.low (h : SecsO K w v l) (hk : K' ≤ K) : SecsO K' w v l := ⟨own_low h.own hk, h.I⟩
theorem SecsO.form (h : SecsO K w v l) : ∃ o n p, v = .slice o n p := by
  obtain ⟨o, c, rfl⟩ := ownsRow_form h.own
  exact ⟨_, _, _, rfl⟩
theorem secsO_keepOwn {S : Nat → Prop} (h : SecsO K w v l) (hS : ∀ b, v.ownBlock = some b → ¬ S b) (q : G S w w') : SecsO K w' v l := by
  refine ⟨⟨h.own.1, ?_⟩, h.I⟩
  rcases h.own.2 with hn | ⟨g, cap, cur, rfl, hb, hg, rest⟩
  · exact .inl hn
  · exact .inr ⟨g, cap, cur, rfl, hb, q.obj (hS g rfl) hg, rest⟩
theorem SecsO.type {e : TypeId} {C : Nat} {cs : Array Value} (h : SecsO K w v l) (ho : w.heap[C]? = some (.cells cs e (0, 0))) (he : e ≠ 37) (g : G (fun i => i = C) w w') : SecsO K w' v l := ⟨own_objG h.own ho he g, h.I⟩
end
/-- Records that the call owns. -/
def RecsO (K : Nat) (ty : TypeId) (w : World) (v : Value) (L : List Rec) (vs : List Value) : Prop :=
  w.ownsRow K ty 5 v L.length (flatR L vs) ∧ vs.length = L.length ∧ ∀ (i : Nat) r u, L[i]? = some r → vs[i]? = some u → SecsO K w u r.l
def SecsVO (k : Nat) (l : List Sec) : Value → World → Prop := fun v w => ∃ o n p, v = .slice o n p ∧ SecsO k w (.slice o n p) l ∧ ∀ b, (Value.slice o n p).ownBlock = some b → k ≤ b ∧ b < w.heap.size
theorem slot_secsO (k : Nat) (l : List Sec) : Slot.stays (SecsVO k l) := fun _ _ _ ⟨o, n, p, h1, h2, h3⟩ q => ⟨o, n, p, h1, h2.keepB q, fun b hb => ⟨(h3 b hb).1, Nat.lt_of_lt_of_le (h3 b hb).2 q.below.size⟩⟩
def RecVO (k : Nat) (r : Rec) : Value → World → Prop := fun v w => ∃ o n p, v = .agg #[.string r.n, .int .i64 r.x, .int .i64 r.y, .int .i64 r.z, .slice o n p] ∧ SecsO k w (.slice o n p) r.l ∧ ∀ b, (Value.slice o n p).ownBlock = some b → k ≤ b ∧ b < w.heap.size
theorem slot_recO (k : Nat) (r : Rec) : Slot.stays (RecVO k r) := fun _ _ _ ⟨o, n, p, h1, h2, h3⟩ q => ⟨o, n, p, h1, h2.keepB q, fun b hb => ⟨(h3 b hb).1, Nat.lt_of_lt_of_le (h3 b hb).2 q.below.size⟩⟩
def RecRowO (k : Nat) (r : Rec) : Value → World → Prop := fun v w => ∃ b o n p, v = .slice (some ⟨b, 0, none⟩) 1 1 ∧ (∀ j u, (r.cells (.slice o n p))[j]? = some u → w.cell? ⟨b, j, none⟩ = some u) ∧ SecsO k w (.slice o n p) r.l ∧ ∀ b, (Value.slice o n p).ownBlock = some b → k ≤ b ∧ b < w.heap.size
theorem slot_recrowO (k : Nat) (r : Rec) : Slot.stays (RecRowO k r) := fun _ _ _ ⟨b, o, n, p, h1, h2, h3, h4⟩ q => ⟨b, o, n, p, h1, fun j u hj => q.keep (h2 j u hj), h3.keepB q, fun b hb => ⟨(h4 b hb).1, Nat.lt_of_lt_of_le (h4 b hb).2 q.below.size⟩⟩
theorem own_lit {w : World} {base e size n H : Nat} {cs : Array Value} (hH : w.heap.size = H) (hb : base ≤ H) (hm : n ≤ maxLen) (hs : cs.size = n * size) :
    (w.alloc (.cells cs e)).ownsRow base e size (.slice (some ⟨H, 0, none⟩) n n) n cs.toList := by
  subst hH
  exact World.ownsRow_lit w cs n hb hm hs
set_option maxHeartbeats 4000000 in
theorem shape_own (k : Int) (h1 : 0 ≤ k) (h2 : k ≤ 255) (w : World) :
    Calls Tryz.prog 43 #[.int .u8 k] w fun e w' => ∃ v, e = .returned v ∧ SecsO w.heap.size w' v (shapeOf (k % 6).toNat) ∧ Q w w' ∧ ∀ g, v.ownBlock = some g → w.heap.size ≤ g := by
  obtain ⟨V, hp⟩ := shape_pick w (k % 6).toNat (by omega)
  have HP := Lib.hid hp
  have hm : (k % 6).toNat < 6 := by omega
  have HM := Lib.hid hm
  clear hm
  go_enter Tryz.func43, Tryz.ntmps43
  go_wp2
  go_ret
  refine ⟨V, rfl, ?_, ?_, shape_blocks w _ V HM.out HP.out⟩
  · clear hp h1 h2
    have hp := HP.out
    have hm := HM.out
    clear HP HM
    generalize (k % 6).toNat = m at *
    match m, hm with
    | 0, _ =>
      obtain rfl : Value.slice (some ⟨w.heap.size, 0, none⟩) 1 1 = V := Option.some.inj hp
      refine SecsO.of (fitsB_I (by decide)) (ownsRow_keepB ?_ (((((((B.refl _).alloc _ _).alloc _ _).alloc _ _).alloc _ _).alloc _ _).alloc _ _))
      exact own_lit (n := 1) (by simp) (by omega) (by decide) rfl
    | 1, _ =>
      obtain rfl : Value.slice (some ⟨w.heap.size + 1, 0, none⟩) 2 2 = V := Option.some.inj hp
      refine SecsO.of (fitsB_I (by decide)) (ownsRow_keepB ?_ ((((((B.refl _).alloc _ _).alloc _ _).alloc _ _).alloc _ _).alloc _ _))
      exact own_lit (n := 2) (by simp) (by omega) (by decide) rfl
    | 2, _ =>
      obtain rfl : Value.slice (some ⟨w.heap.size + 1 + 1, 0, none⟩) 1 1 = V := Option.some.inj hp
      refine SecsO.of (fitsB_I (by decide)) (ownsRow_keepB ?_ (((((B.refl _).alloc _ _).alloc _ _).alloc _ _).alloc _ _))
      exact own_lit (n := 1) (by simp) (by omega) (by decide) rfl
    | 3, _ =>
      obtain rfl : Value.slice (some ⟨w.heap.size + 1 + 1 + 1, 0, none⟩) 2 2 = V := Option.some.inj hp
      refine SecsO.of (fitsB_I (by decide)) (ownsRow_keepB ?_ ((((B.refl _).alloc _ _).alloc _ _).alloc _ _))
      exact own_lit (n := 2) (by simp) (by omega) (by decide) rfl
    | 4, _ =>
      obtain rfl : Value.slice (some ⟨w.heap.size + 1 + 1 + 1 + 1, 0, none⟩) 1 1 = V := Option.some.inj hp
      refine SecsO.of (fitsB_I (by decide)) (ownsRow_keepB ?_ (((B.refl _).alloc _ _).alloc _ _))
      exact own_lit (n := 1) (by simp) (by omega) (by decide) rfl
    | 5, _ =>
      obtain rfl : Value.slice (some ⟨w.heap.size + 1 + 1 + 1 + 1 + 1, 0, none⟩) 3 3 = V := Option.some.inj hp
      refine SecsO.of (fitsB_I (by decide)) (ownsRow_keepB ?_ ((B.refl _).alloc _ _))
      exact own_lit (n := 3) (by simp) (by omega) (by decide) rfl
  · exact (((((((Q.refl _).alloc _ _).alloc _ _).alloc _ _).alloc _ _).alloc _ _).alloc _ _).alloc _ _
set_option maxHeartbeats 4000000 in
theorem outer_own (k : Int) (h1 : 0 ≤ k) (h2 : k ≤ 255) (w : World) :
    Calls Tryz.prog 46 #[.int .u8 k] w fun e w' => ∃ v, e = .returned v ∧ SecsO w.heap.size w' v (outerOf (k % 3).toNat) ∧ Q w w' ∧ ∀ g, v.ownBlock = some g → w.heap.size ≤ g := by
  obtain ⟨V, hp⟩ := outer_pick w (k % 3).toNat (by omega)
  have HP := Lib.hid hp
  have hm : (k % 3).toNat < 3 := by omega
  have HM := Lib.hid hm
  clear hm
  go_enter Tryz.func46, Tryz.ntmps46
  go_wp2
  go_ret
  refine ⟨V, rfl, ?_, ?_, outer_blocks w _ V HM.out HP.out⟩
  · clear hp h1 h2
    have hp := HP.out
    have hm := HM.out
    clear HP HM
    generalize (k % 3).toNat = m at *
    match m, hm with
    | 0, _ =>
      obtain rfl : Value.slice (some ⟨w.heap.size, 0, none⟩) 2 2 = V := Option.some.inj hp
      refine SecsO.of (fitsB_I (by decide)) (ownsRow_keepB ?_ ((((B.refl _).alloc _ _).alloc _ _).alloc _ _))
      exact own_lit (n := 2) (by simp) (by omega) (by decide) rfl
    | 1, _ =>
      obtain rfl : Value.slice (some ⟨w.heap.size + 1, 0, none⟩) 1 1 = V := Option.some.inj hp
      refine SecsO.of (fitsB_I (by decide)) (ownsRow_keepB ?_ (((B.refl _).alloc _ _).alloc _ _))
      exact own_lit (n := 1) (by simp) (by omega) (by decide) rfl
    | 2, _ =>
      obtain rfl : Value.slice (some ⟨w.heap.size + 1 + 1, 0, none⟩) 1 1 = V := Option.some.inj hp
      refine SecsO.of (fitsB_I (by decide)) (ownsRow_keepB ?_ ((B.refl _).alloc _ _))
      exact own_lit (n := 1) (by simp) (by omega) (by decide) rfl
  · exact ((((Q.refl _).alloc _ _).alloc _ _).alloc _ _).alloc _ _
end Go.Proofs.YtalnfojaccfcjaaGreatDoor
namespace Go.Proofs.YtalnfojaccfcjaaGreatDoor
open Go.RowKit
set_option linter.unusedVariables false

set_option maxRecDepth 100000 in
set_option maxHeartbeats 8000000 in
theorem deck_own (a b c d : Int) (lv : Value) (ll : List Nat) (h20 : ll.length ≤ 20) (ha : 0 ≤ a ∧ a ≤ 255) (hb : 0 ≤ b ∧ b ≤ 255) (hc : 0 ≤ c ∧ c ≤ 255) (hd : 0 ≤ d ∧ d ≤ 255) (w : World) (hU : IsU32s w lv ll) :
    Calls Tryz.prog 11 #[.int .u8 a, .int .u8 b, .int .u8 c, .int .u8 d, lv] w fun e w' => ∃ wv tv fv ss tt, e = .returned (.agg #[wv, tv, fv]) ∧ OwnD w' w.heap.size wv tv fv (seatD a b c d ll) ss tt ∧ B w w' := by
  obtain ⟨lao, lcap, rfl, hlm, hU⟩ := hU
  unfold seatD
  obtain ⟨FF, hFF⟩ : ∃ FF, fillsF (wares7 a b c d) 0 ll = FF := ⟨_, rfl⟩
  rw [hFF]
  have cA := fun w => shape_own a ha.1 ha.2 w
  have cB := fun w => shape_own b hb.1 hb.2 w
  have cO := fun w => outer_own c hc.1 hc.2 w
  have cP := fun w => outer_own d hd.1 hd.2 w
  unfold wares7 at hFF
  unfold wares7 tips7 nameT1 nameT2 namePlate nameTube
  unfold namePlate nameTube at hFF
  obtain ⟨cap, ecap⟩ : ∃ x, cap7 c = x := ⟨_, rfl⟩
  obtain ⟨filt, efilt⟩ : ∃ x, filt7 d = x := ⟨_, rfl⟩
  obtain ⟨err, eerr⟩ : ∃ x, err7 d = x := ⟨_, rfl⟩
  rw [ecap, efilt, eerr]
  have pc : (c % 3 = 0 ∧ cap = 200000) ∨ (c % 3 = 1 ∧ cap = 30000) ∨ (c % 3 = 2 ∧ cap = 5000) := by
    unfold cap7 at ecap
    repeat' split at ecap
    all_goals omega
  have pf : (d % 2 = 0 ∧ filt = 60000) ∨ (d % 2 = 1 ∧ filt = 15000) := by unfold filt7 at efilt; split at efilt <;> omega
  have pe : (d / 2 % 3 = 0 ∧ err = 0) ∨ (d / 2 % 3 = 1 ∧ err = 20) ∨ (d / 2 % 3 = 2 ∧ err = 100) := by
    unfold err7 at eerr
    repeat' split at eerr
    all_goals omega
  clear ecap efilt eerr
  generalize shapeOf (a % 6).toNat = la at *
  generalize shapeOf (b % 6).toNat = lb at *
  have hlo := outer_len (c % 3).toNat
  have hlp := outer_len (d % 3).toNat
  generalize outerOf (c % 3).toNat = lo at *
  generalize outerOf (d % 3).toNat = lp at *
  have HF := Lib.hid (show ([] : List Fl) ++ fillsF [⟨⟨#[112, 108, 97, 116, 101]⟩, a / 6 % 3 + 1, b / 6 % 4 + 2, c % 4 * 500, la⟩, ⟨⟨#[116, 117, 98, 101]⟩, 1, c / 4 % 3 + 2, d % 3 * 300, lb⟩] 0 (ll.drop 0) = FF from hFF)
  have hbW : ∀ x ∈ ([⟨⟨#[112, 108, 97, 116, 101]⟩, a / 6 % 3 + 1, b / 6 % 4 + 2, c % 4 * 500, la⟩, ⟨⟨#[116, 117, 98, 101]⟩, 1, c / 4 % 3 + 2, d % 3 * 300, lb⟩] : List Rec), wareB x := by
    intro x hx
    simp only [List.mem_cons, List.not_mem_nil, or_false] at hx
    rcases hx with rfl | rfl
    · unfold wareB; simp only; omega
    · unfold wareB; simp only; omega
  clear hFF
  obtain ⟨TL, hTL⟩ : ∃ TL, ((⟨⟨#[116, 49]⟩, cap, filt, err, lo⟩ : Rec) :: if d % 5 = 0 then [] else [⟨⟨#[116, 50]⟩, 50000, 40000, d % 30, lp⟩]) = TL := ⟨_, rfl⟩
  rw [hTL]
  have HTL := Lib.hid hTL
  clear hTL
  go_enter Tryz.func11, Tryz.ntmps11
  go_wp2_with fail
  refine (cA _).mono ?_
  rintro e w1 ⟨v1, rfl, hv1, q1, _⟩
  obtain ⟨o1, n1, p1, rfl⟩ := hv1.form
  go_wp2_with fail
  refine (cB _).mono ?_
  rintro e w2 ⟨v2, rfl, hv2, q2, _⟩
  obtain ⟨o2, n2, p2, rfl⟩ := hv2.form
  go_wp2_with fail
  generalize hX : w2.heap.size + 1 = X at *
  obtain ⟨c3, ec3⟩ : ∃ x, c % 3 = x := ⟨_, rfl⟩
  obtain ⟨d2, ed2⟩ : ∃ x, d % 2 = x := ⟨_, rfl⟩
  obtain ⟨dh, edh⟩ : ∃ x, d / 2 = x := ⟨_, rfl⟩
  obtain ⟨dh3, edh3⟩ : ∃ x, dh % 3 = x := ⟨_, rfl⟩
  have tm1 : c.tmod 3 = c3 := by rw [Int.tmod_eq_emod_of_nonneg (by omega)]; exact ec3
  have tm2 : d.tmod 2 = d2 := by rw [Int.tmod_eq_emod_of_nonneg (by omega)]; exact ed2
  have tm3 : IntKind.u8.wrap (d.tdiv 2) = dh := by rw [Int.tdiv_eq_ediv_of_nonneg (by omega), edh, IntKind.wrap_u8]; omega
  have tm4 : dh.tmod 3 = dh3 := by rw [Int.tmod_eq_emod_of_nonneg (by omega)]; exact edh3
  rw [ec3] at pc
  rw [ed2] at pf
  rw [edh, edh3] at pe
  have obX : ((w2.alloc (.cells #[.string ⟨#[112, 108, 97, 116, 101]⟩, .int .i64 (a / 6 % 3 + 1), .int .i64 (b / 6 % 4 + 2), .int .i64 (c % 4 * 500), .slice o1 n1 p1, .string ⟨#[116, 117, 98, 101]⟩, .int .i64 1, .int .i64 (c / 4 % 3 + 2), .int .i64 (d % 3 * 300), .slice o2 n2 p2] 33)).alloc (.cells #[.slice (some ⟨w2.heap.size, 0, none⟩) 2 2, .slice none 0 0, .slice none 0 0] 26)).heap[X]? = some (.cells #[.slice (some ⟨w2.heap.size, 0, none⟩) 2 2, .slice none 0 0, .slice none 0 0] 26 (0, 0)) := by
    rw [← hX, show w2.heap.size + 1 = (w2.alloc (.cells #[.string ⟨#[112, 108, 97, 116, 101]⟩, .int .i64 (a / 6 % 3 + 1), .int .i64 (b / 6 % 4 + 2), .int .i64 (c % 4 * 500), .slice o1 n1 p1, .string ⟨#[116, 117, 98, 101]⟩, .int .i64 1, .int .i64 (c / 4 % 3 + 2), .int .i64 (d % 3 * 300), .slice o2 n2 p2] 33)).heap.size by simp]
    exact obj_new _ _
  have rw0 : IsRecs (w2.alloc (.cells #[.string ⟨#[112, 108, 97, 116, 101]⟩, .int .i64 (a / 6 % 3 + 1), .int .i64 (b / 6 % 4 + 2), .int .i64 (c % 4 * 500), .slice o1 n1 p1, .string ⟨#[116, 117, 98, 101]⟩, .int .i64 1, .int .i64 (c / 4 % 3 + 2), .int .i64 (d % 3 * 300), .slice o2 n2 p2] 33)) (.slice (some ⟨w2.heap.size, 0, none⟩) 2 2) [⟨⟨#[112, 108, 97, 116, 101]⟩, a / 6 % 3 + 1, b / 6 % 4 + 2, c % 4 * 500, la⟩, ⟨⟨#[116, 117, 98, 101]⟩, 1, c / 4 % 3 + 2, d % 3 * 300, lb⟩] := by
    refine recs_cells (L := [⟨⟨#[112, 108, 97, 116, 101]⟩, a / 6 % 3 + 1, b / 6 % 4 + 2, c % 4 * 500, la⟩, ⟨⟨#[116, 117, 98, 101]⟩, 1, c / 4 % 3 + 2, d % 3 * 300, lb⟩]) (vs := [.slice o1 n1 p1, .slice o2 n2 p2]) rfl (by simp) (by simp [maxLen]) (fun j u hj => ?_) (fun i r v hr hv => ?_)
    · rw [World.cell?_alloc_new]
      simpa [flatR, Rec.cells] using hj
    · match i with
      | 0 => obtain rfl := Option.some.inj hr; obtain rfl := Option.some.inj hv; exact ((hv1.keep q2).keepB ((B.refl _).alloc _ _)).secs
      | 1 => obtain rfl := Option.some.inj hr; obtain rfl := Option.some.inj hv; exact (hv2.keepB ((B.refl _).alloc _ _)).secs
      | n + 2 => simp at hr
  have ro0 : RecsO w.heap.size 33 (w2.alloc (.cells #[.string ⟨#[112, 108, 97, 116, 101]⟩, .int .i64 (a / 6 % 3 + 1), .int .i64 (b / 6 % 4 + 2), .int .i64 (c % 4 * 500), .slice o1 n1 p1, .string ⟨#[116, 117, 98, 101]⟩, .int .i64 1, .int .i64 (c / 4 % 3 + 2), .int .i64 (d % 3 * 300), .slice o2 n2 p2] 33)) (.slice (some ⟨w2.heap.size, 0, none⟩) 2 2) [⟨⟨#[112, 108, 97, 116, 101]⟩, a / 6 % 3 + 1, b / 6 % 4 + 2, c % 4 * 500, la⟩, ⟨⟨#[116, 117, 98, 101]⟩, 1, c / 4 % 3 + 2, d % 3 * 300, lb⟩] [.slice o1 n1 p1, .slice o2 n2 p2] := by
    have z1 := q1.below.size
    have z2 := q2.below.size
    have z0 : w.heap.size ≤ w1.heap.size := by simp at z1; omega
    refine ⟨own_lit rfl (by omega) (by simp [maxLen]) rfl, rfl, fun i r v hr hv => ?_⟩
    match i with
    | 0 => obtain rfl := Option.some.inj hr; obtain rfl := Option.some.inj hv; exact ((hv1.keep q2).keepB ((B.refl _).alloc _ _)).low (by simp)
    | 1 => obtain rfl := Option.some.inj hr; obtain rfl := Option.some.inj hv; exact (hv2.keepB ((B.refl _).alloc _ _)).low (by omega)
    | n + 2 => simp at hr
  have hu0 : B w (w2.alloc (.cells #[.string ⟨#[112, 108, 97, 116, 101]⟩, .int .i64 (a / 6 % 3 + 1), .int .i64 (b / 6 % 4 + 2), .int .i64 (c % 4 * 500), .slice o1 n1 p1, .string ⟨#[116, 117, 98, 101]⟩, .int .i64 1, .int .i64 (c / 4 % 3 + 2), .int .i64 (d % 3 * 300), .slice o2 n2 p2] 33)) := (((((B.refl w).alloc _ _).trans q1.b).trans q2.b).alloc _ _)
  have obR : (w2.alloc (.cells #[.string ⟨#[112, 108, 97, 116, 101]⟩, .int .i64 (a / 6 % 3 + 1), .int .i64 (b / 6 % 4 + 2), .int .i64 (c % 4 * 500), .slice o1 n1 p1, .string ⟨#[116, 117, 98, 101]⟩, .int .i64 1, .int .i64 (c / 4 % 3 + 2), .int .i64 (d % 3 * 300), .slice o2 n2 p2] 33)).heap[w.heap.size]? = some (.cells #[.slice none 0 0, .slice none 0 0, .slice none 0 0] 26 (0, 0)) := (((q1.b.trans q2.b).alloc _ _)).obj (obj_new w _)
  have hRX : w.heap.size < X := by
    have := q1.below.size
    have := q2.below.size
    simp at *
    omega
  have hu0s : (w2.alloc (.cells #[.string ⟨#[112, 108, 97, 116, 101]⟩, .int .i64 (a / 6 % 3 + 1), .int .i64 (b / 6 % 4 + 2), .int .i64 (c % 4 * 500), .slice o1 n1 p1, .string ⟨#[116, 117, 98, 101]⟩, .int .i64 1, .int .i64 (c / 4 % 3 + 2), .int .i64 (d % 3 * 300), .slice o2 n2 p2] 33)).heap.size = X := by rw [← hX]; simp
  have hu1 : B (w2.alloc (.cells #[.string ⟨#[112, 108, 97, 116, 101]⟩, .int .i64 (a / 6 % 3 + 1), .int .i64 (b / 6 % 4 + 2), .int .i64 (c % 4 * 500), .slice o1 n1 p1, .string ⟨#[116, 117, 98, 101]⟩, .int .i64 1, .int .i64 (c / 4 % 3 + 2), .int .i64 (d % 3 * 300), .slice o2 n2 p2] 33)) ((w2.alloc (.cells #[.string ⟨#[112, 108, 97, 116, 101]⟩, .int .i64 (a / 6 % 3 + 1), .int .i64 (b / 6 % 4 + 2), .int .i64 (c % 4 * 500), .slice o1 n1 p1, .string ⟨#[116, 117, 98, 101]⟩, .int .i64 1, .int .i64 (c / 4 % 3 + 2), .int .i64 (d % 3 * 300), .slice o2 n2 p2] 33)).alloc (.cells #[.slice (some ⟨w2.heap.size, 0, none⟩) 2 2, .slice none 0 0, .slice none 0 0] 26)) := (B.refl _).alloc _ _
  have hsz : X + 1 ≤ ((w2.alloc (.cells #[.string ⟨#[112, 108, 97, 116, 101]⟩, .int .i64 (a / 6 % 3 + 1), .int .i64 (b / 6 % 4 + 2), .int .i64 (c % 4 * 500), .slice o1 n1 p1, .string ⟨#[116, 117, 98, 101]⟩, .int .i64 1, .int .i64 (c / 4 % 3 + 2), .int .i64 (d % 3 * 300), .slice o2 n2 p2] 33)).alloc (.cells #[.slice (some ⟨w2.heap.size, 0, none⟩) 2 2, .slice none 0 0, .slice none 0 0] 26)).heap.size := by
    rw [← hX]; simp
  have k1 := obj_cell obX 1
  clear hv1 hv2 q1 q2
  generalize ((w2.alloc (.cells #[.string ⟨#[112, 108, 97, 116, 101]⟩, .int .i64 (a / 6 % 3 + 1), .int .i64 (b / 6 % 4 + 2), .int .i64 (c % 4 * 500), .slice o1 n1 p1, .string ⟨#[116, 117, 98, 101]⟩, .int .i64 1, .int .i64 (c / 4 % 3 + 2), .int .i64 (d % 3 * 300), .slice o2 n2 p2] 33)).alloc (.cells #[.slice (some ⟨w2.heap.size, 0, none⟩) 2 2, .slice none 0 0, .slice none 0 0] 26)) = U1 at *
  generalize (w2.alloc (.cells #[.string ⟨#[112, 108, 97, 116, 101]⟩, .int .i64 (a / 6 % 3 + 1), .int .i64 (b / 6 % 4 + 2), .int .i64 (c % 4 * 500), .slice o1 n1 p1, .string ⟨#[116, 117, 98, 101]⟩, .int .i64 1, .int .i64 (c / 4 % 3 + 2), .int .i64 (d % 3 * 300), .slice o2 n2 p2] 33)) = U0 at *
  generalize w2.heap.size = Wb at *
  refine wp_region_noPanic ?_
  refine wp_region_slots [(0, 46), (1, 47), (2, 48), (3, 49), (4, 50), (5, 51), (6, 52), (7, 53), (8, 54), (9, 55), (10, 56), (11, 57), (12, 58), (13, 59), (14, 60), (15, 61), (16, 62), (17, 63), (18, 64), (19, 65), (20, 66), (21, 67)] [(22, 2), (23, 0), (24, 2)] [0, 1, 0, 0, 8, 20, 32, 0, 0, 256, 640, 1024, 0, 0, 8192, 16384, 36864, 65536, 0, 262144, 657472, 1048576, 2621442, 8388607, 16777215] [0, 1, 0, 0, 8, 20, 32, 0, 0, 256, 640, 1024, 0, 0, 8192, 16384, 36864, 65536, 0, 262144, 657472, 1048576, 2097154, 0, 12582912] [0, 1, 0, 0, 8, 28, 60, 0, 0, 256, 896, 1920, 0, 0, 8192, 24576, 61440, 126976, 0, 262144, 1048572, 2097148, 4194303, 8388607, 16777215] 4194303 [(fun v _ => v = .pointer (some ⟨X, 1, none⟩)), (fun v _ => v = .slice none 0 0), (Lits 3 [.int .i64 200000, .int .i64 30000, .int .i64 5000]), (fun v _ => v = .int .u8 c), (fun v _ => v = .int .u8 c3), (PtrTo (.int .i64 cap)), (fun v _ => v = .int .i64 cap), (Lits 2 [.int .i64 60000, .int .i64 15000]), (fun v _ => v = .int .u8 d), (fun v _ => v = .int .u8 d2), (PtrTo (.int .i64 filt)), (fun v _ => v = .int .i64 filt), (Lits 3 [.int .i64 0, .int .i64 20, .int .i64 100]), (fun v _ => v = .int .u8 d), (fun v _ => v = .int .u8 dh), (fun v _ => v = .int .u8 dh3), (PtrTo (.int .i64 err)), (fun v _ => v = .int .i64 err), (fun v _ => v = .int .u8 c), (SecsVO (X + 1) lo), (RecVO (X + 1) ⟨⟨#[116, 49]⟩, cap, filt, err, lo⟩), (RecRowO (X + 1) ⟨⟨#[116, 49]⟩, cap, filt, err, lo⟩)] (by kernel_rfl) (by kernel_rfl) (fun _ _ _ _ h => h) ⟨slot_val _, slot_val _, slot_lits _ _, slot_val _, slot_val _, slot_ptr _, slot_val _, slot_lits _ _, slot_val _, slot_val _, slot_ptr _, slot_val _, slot_lits _ _, slot_val _, slot_val _, slot_val _, slot_ptr _, slot_val _, slot_val _, slot_secsO _ _, slot_recO _ _, slot_recrowO _ _, trivial⟩ ⟨?_, ?_, ?_, ?_, ?_, ?_, ?_, ?_, ?_, ?_, ?_, ?_, ?_, ?_, ?_, ?_, ?_, ?_, ?_, ?_, ?_, ?_, trivial⟩ ?_
  · intro f w' hf hB
    clear hf
    refine slot_op rfl (fun _ => rfl) (fun T hT K hK => ?_)
    simp only [putsL, List.set_cons_zero, List.set_cons_succ] at hT
    subst hT
    go_simp
    exact hK.out _ _ rfl (B.refl _)
  · intro f w' hf hB
    have h0 := hf (0, 46) (by simp) (by rfl)
    clear hf
    have e0 : f 0 = _ := h0
    have k1 := hB.keep k1
    refine slot_op rfl (fun _ => rfl) (fun T hT K hK => ?_)
    simp only [putsL, List.set_cons_zero, List.set_cons_succ, e0] at hT
    subst hT
    go_simp
    exact hK.out _ _ rfl (B.refl _)
  · intro f w' hf hB
    clear hf
    refine slot_op rfl (fun _ => rfl) (fun T hT K hK => ?_)
    simp only [putsL, List.set_cons_zero, List.set_cons_succ] at hT
    subst hT
    go_simp
    refine hK.out _ _ ⟨_, rfl, fun j u hj => ?_⟩ ((B.refl _).alloc _ _)
    rw [World.cell?_alloc_new]
    simpa using hj
  · intro f w' hf hB
    clear hf
    refine slot_op rfl (fun _ => rfl) (fun T hT K hK => ?_)
    simp only [putsL, List.set_cons_zero, List.set_cons_succ] at hT
    subst hT
    go_simp
    exact hK.out _ _ rfl (B.refl _)
  · intro f w' hf hB
    have h3 := hf (3, 49) (by simp) (by rfl)
    clear hf
    have e3 : f 3 = _ := h3
    refine slot_op rfl (fun _ => rfl) (fun T hT K hK => ?_)
    simp only [putsL, List.set_cons_zero, List.set_cons_succ, e3] at hT
    subst hT
    go_simp
    exact hK.out _ _ rfl (B.refl _)
  · intro f w' hf hB
    have h2 := hf (2, 48) (by simp) (by rfl)
    have h4 := hf (4, 50) (by simp) (by rfl)
    clear hf
    obtain ⟨b, e2, hc⟩ := h2
    have e4 : f 4 = _ := h4
    refine slot_op rfl (fun _ => rfl) (fun T hT K hK => ?_)
    simp only [putsL, List.set_cons_zero, List.set_cons_succ, e2, e4] at hT
    subst hT
    rcases pc with ⟨r1, r2⟩ | ⟨r1, r2⟩ | ⟨r1, r2⟩
    · subst r1 r2
      have hk := hc 0 _ rfl
      go_simp
      exact hK.out _ _ ⟨_, rfl, hk⟩ (B.refl _)
    · subst r1 r2
      have hk := hc 1 _ rfl
      go_simp
      exact hK.out _ _ ⟨_, rfl, hk⟩ (B.refl _)
    · subst r1 r2
      have hk := hc 2 _ rfl
      go_simp
      exact hK.out _ _ ⟨_, rfl, hk⟩ (B.refl _)
  · intro f w' hf hB
    have h5 := hf (5, 51) (by simp) (by rfl)
    clear hf
    obtain ⟨p, e5, hc⟩ := h5
    refine slot_op rfl (fun _ => rfl) (fun T hT K hK => ?_)
    simp only [putsL, List.set_cons_zero, List.set_cons_succ, e5] at hT
    subst hT
    go_simp
    exact hK.out _ _ rfl (B.refl _)
  · intro f w' hf hB
    clear hf
    refine slot_op rfl (fun _ => rfl) (fun T hT K hK => ?_)
    simp only [putsL, List.set_cons_zero, List.set_cons_succ] at hT
    subst hT
    go_simp
    refine hK.out _ _ ⟨_, rfl, fun j u hj => ?_⟩ ((B.refl _).alloc _ _)
    rw [World.cell?_alloc_new]
    simpa using hj
  · intro f w' hf hB
    clear hf
    refine slot_op rfl (fun _ => rfl) (fun T hT K hK => ?_)
    simp only [putsL, List.set_cons_zero, List.set_cons_succ] at hT
    subst hT
    go_simp
    exact hK.out _ _ rfl (B.refl _)
  · intro f w' hf hB
    have h8 := hf (8, 54) (by simp) (by rfl)
    clear hf
    have e8 : f 8 = _ := h8
    refine slot_op rfl (fun _ => rfl) (fun T hT K hK => ?_)
    simp only [putsL, List.set_cons_zero, List.set_cons_succ, e8] at hT
    subst hT
    go_simp
    exact hK.out _ _ rfl (B.refl _)
  · intro f w' hf hB
    have h7 := hf (7, 53) (by simp) (by rfl)
    have h9 := hf (9, 55) (by simp) (by rfl)
    clear hf
    obtain ⟨b, e7, hc⟩ := h7
    have e9 : f 9 = _ := h9
    refine slot_op rfl (fun _ => rfl) (fun T hT K hK => ?_)
    simp only [putsL, List.set_cons_zero, List.set_cons_succ, e7, e9] at hT
    subst hT
    rcases pf with ⟨r1, r2⟩ | ⟨r1, r2⟩
    · subst r1 r2
      have hk := hc 0 _ rfl
      go_simp
      exact hK.out _ _ ⟨_, rfl, hk⟩ (B.refl _)
    · subst r1 r2
      have hk := hc 1 _ rfl
      go_simp
      exact hK.out _ _ ⟨_, rfl, hk⟩ (B.refl _)
  · intro f w' hf hB
    have h10 := hf (10, 56) (by simp) (by rfl)
    clear hf
    obtain ⟨p, e10, hc⟩ := h10
    refine slot_op rfl (fun _ => rfl) (fun T hT K hK => ?_)
    simp only [putsL, List.set_cons_zero, List.set_cons_succ, e10] at hT
    subst hT
    go_simp
    exact hK.out _ _ rfl (B.refl _)
  · intro f w' hf hB
    clear hf
    refine slot_op rfl (fun _ => rfl) (fun T hT K hK => ?_)
    simp only [putsL, List.set_cons_zero, List.set_cons_succ] at hT
    subst hT
    go_simp
    refine hK.out _ _ ⟨_, rfl, fun j u hj => ?_⟩ ((B.refl _).alloc _ _)
    rw [World.cell?_alloc_new]
    simpa using hj
  · intro f w' hf hB
    clear hf
    refine slot_op rfl (fun _ => rfl) (fun T hT K hK => ?_)
    simp only [putsL, List.set_cons_zero, List.set_cons_succ] at hT
    subst hT
    go_simp
    exact hK.out _ _ rfl (B.refl _)
  · intro f w' hf hB
    have h13 := hf (13, 59) (by simp) (by rfl)
    clear hf
    have e13 : f 13 = _ := h13
    refine slot_op rfl (fun _ => rfl) (fun T hT K hK => ?_)
    simp only [putsL, List.set_cons_zero, List.set_cons_succ, e13] at hT
    subst hT
    go_simp
    exact hK.out _ _ rfl (B.refl _)
  · intro f w' hf hB
    have h14 := hf (14, 60) (by simp) (by rfl)
    clear hf
    have e14 : f 14 = _ := h14
    refine slot_op rfl (fun _ => rfl) (fun T hT K hK => ?_)
    simp only [putsL, List.set_cons_zero, List.set_cons_succ, e14] at hT
    subst hT
    go_simp
    exact hK.out _ _ rfl (B.refl _)
  · intro f w' hf hB
    have h12 := hf (12, 58) (by simp) (by rfl)
    have h15 := hf (15, 61) (by simp) (by rfl)
    clear hf
    obtain ⟨b, e12, hc⟩ := h12
    have e15 : f 15 = _ := h15
    refine slot_op rfl (fun _ => rfl) (fun T hT K hK => ?_)
    simp only [putsL, List.set_cons_zero, List.set_cons_succ, e12, e15] at hT
    subst hT
    rcases pe with ⟨r1, r2⟩ | ⟨r1, r2⟩ | ⟨r1, r2⟩
    · subst r1 r2
      have hk := hc 0 _ rfl
      go_simp
      exact hK.out _ _ ⟨_, rfl, hk⟩ (B.refl _)
    · subst r1 r2
      have hk := hc 1 _ rfl
      go_simp
      exact hK.out _ _ ⟨_, rfl, hk⟩ (B.refl _)
    · subst r1 r2
      have hk := hc 2 _ rfl
      go_simp
      exact hK.out _ _ ⟨_, rfl, hk⟩ (B.refl _)
  · intro f w' hf hB
    have h16 := hf (16, 62) (by simp) (by rfl)
    clear hf
    obtain ⟨p, e16, hc⟩ := h16
    refine slot_op rfl (fun _ => rfl) (fun T hT K hK => ?_)
    simp only [putsL, List.set_cons_zero, List.set_cons_succ, e16] at hT
    subst hT
    go_simp
    exact hK.out _ _ rfl (B.refl _)
  · intro f w' hf hB
    clear hf
    refine slot_op rfl (fun _ => rfl) (fun T hT K hK => ?_)
    simp only [putsL, List.set_cons_zero, List.set_cons_succ] at hT
    subst hT
    go_simp
    exact hK.out _ _ rfl (B.refl _)
  · intro f w' hf hB
    have h18 := hf (18, 64) (by simp) (by rfl)
    clear hf
    have e18 : f 18 = _ := h18
    refine slot_op rfl (fun _ => rfl) (fun T hT K hK => ?_)
    simp only [putsL, List.set_cons_zero, List.set_cons_succ, e18] at hT
    subst hT
    go_simp
    (with_reducible refine (cO _).mono ?_)
    rintro e w2 ⟨vo, rfl, hvo, q, hbo⟩
    obtain ⟨oo, no, po, rfl⟩ := hvo.form
    exact hK.out _ _ ⟨_, _, _, rfl, hvo.low (Nat.le_trans hsz hB.below.size), fun b hb => ⟨Nat.le_trans hsz (Nat.le_trans hB.below.size (hbo b hb)), secs_lt hvo.secs hlo hb⟩⟩ q.b
  · intro f w' hf hB
    have h6 := hf (6, 52) (by simp) (by rfl)
    have h11 := hf (11, 57) (by simp) (by rfl)
    have h17 := hf (17, 63) (by simp) (by rfl)
    have h19 := hf (19, 65) (by simp) (by rfl)
    clear hf
    have e6 : f 6 = _ := h6
    have e11 : f 11 = _ := h11
    have e17 : f 17 = _ := h17
    obtain ⟨oo, no, po, e19, hvo, hbo⟩ := h19
    refine slot_op rfl (fun _ => rfl) (fun T hT K hK => ?_)
    simp only [putsL, List.set_cons_zero, List.set_cons_succ, e6, e11, e17, e19] at hT
    subst hT
    go_simp
    exact hK.out _ _ ⟨oo, no, po, rfl, hvo, hbo⟩ (B.refl _)
  · intro f w' hf hB
    have h20 := hf (20, 66) (by simp) (by rfl)
    clear hf
    obtain ⟨oo, no, po, e20, hvo, hbo⟩ := h20
    refine slot_op rfl (fun _ => rfl) (fun T hT K hK => ?_)
    simp only [putsL, List.set_cons_zero, List.set_cons_succ, e20] at hT
    subst hT
    go_simp
    refine hK.out _ _ ⟨_, oo, no, po, rfl, fun j u hj => ?_, hvo.keepB ((B.refl _).alloc _ _), fun b hb => ⟨(hbo b hb).1, Nat.lt_of_lt_of_le (hbo b hb).2 ((B.refl _).alloc _ _).below.size⟩⟩ ((B.refl _).alloc _ _)
    rw [World.cell?_alloc_new]
    simpa [Rec.cells] using hj
  · intro f w' hf hB T hT
    have h1 : f 1 = _ := hf (1, 47) (by simp)
    have h21 : slotOf [(fun v _ => v = .pointer (some ⟨X, 1, none⟩)), (fun v _ => v = .slice none 0 0), (Lits 3 [.int .i64 200000, .int .i64 30000, .int .i64 5000]), (fun v _ => v = .int .u8 c), (fun v _ => v = .int .u8 c3), (PtrTo (.int .i64 cap)), (fun v _ => v = .int .i64 cap), (Lits 2 [.int .i64 60000, .int .i64 15000]), (fun v _ => v = .int .u8 d), (fun v _ => v = .int .u8 d2), (PtrTo (.int .i64 filt)), (fun v _ => v = .int .i64 filt), (Lits 3 [.int .i64 0, .int .i64 20, .int .i64 100]), (fun v _ => v = .int .u8 d), (fun v _ => v = .int .u8 dh), (fun v _ => v = .int .u8 dh3), (PtrTo (.int .i64 err)), (fun v _ => v = .int .i64 err), (fun v _ => v = .int .u8 c), (SecsVO (X + 1) lo), (RecVO (X + 1) ⟨⟨#[116, 49]⟩, cap, filt, err, lo⟩), (RecRowO (X + 1) ⟨⟨#[116, 49]⟩, cap, filt, err, lo⟩)] 21 (f 21) w' := hf (21, 67) (by simp)
    obtain ⟨B1, oo, no, po, e21, hcs, hvo, hbo⟩ := h21
    clear hf
    simp only [putsL, List.set_cons_zero, List.set_cons_succ, h1, e21] at hT
    subst hT
    obtain ⟨i0, hi0, hz0, hz1, hz2⟩ := info_parts tipInfo
    have hX' := hB.obj obX
    refine wpSeq_call rfl (by kernel_rfl) (fun K hK => ?_)
    refine wp_append_lies _ (.tmp 47) (.tmp 67) 23 rfl U0.heap.size 35 i0 _ 5 64 Tryz.underlying23 hi0 hz0 hz1 hz2 rfl (by omega) (.slice none 0 0) 0 [] rfl (World.ownsRow_nil _ _ _ _) ⟨B1, 0, none⟩ 1 1 (Rec.cells ⟨⟨#[116, 49]⟩, cap, filt, err, lo⟩ (.slice oo no po)) rfl rfl (fun j u hj => by rw [add0]; exact hcs j u hj) (by simp [Rec.cells, Value.oneCell']) (by omega) (by unfold maxLen; omega) (by omega) (Nat.le_trans hu1.below.size hB.below.size) _ rfl (fun g cp w3 hown hgrow hat hlt => ?_)
    refine hK.out _ _ trivial (fun _ => ?_)
    clear hK
    have q3 : B w' w3 := (B.refl w').grownBy hgrow (fun k hk => by cases hk)
    have hgX : X < g := by
      rcases hat with h | h
      · cases h
      · have := hB.below.size; omega
    have ob3 := q3.obj hX'
    have kX1 := obj_cell ob3 1
    have fX1 := obj_free ob3 1
    refine wpSeq_take (d := 69) (v := ?_) rfl rfl (by kernel_rfl) (fun w hS => ?_) ?_
    rotate_left
    · go_simp <;> with_reducible rfl
    dsimp only [List.set_cons_zero, List.set_cons_succ]
    refine wpSeq_call rfl (by kernel_rfl) (fun K hK => ?_)
    go_simp
    refine hK.out _ _ trivial (fun _ => ?_)
    clear hK
    refine wpSeq_done ?_
    refine NoPanic.normal ?_
    have sX : X < w'.heap.size := by have := hB.below.size; omega
    have b4 : B U0 (w3.setCell ⟨X, 1, none⟩ (.slice (some ⟨g, 0, none⟩) 1 cp)) := ((hu1.trans hB).trans q3).setCell (by rw [hu0s]; exact Nat.le_refl _) _
    have ob4 := obj_set ob3 1 (.slice (some ⟨g, 0, none⟩) 1 cp)
    simp only [List.setIfInBounds_toArray, List.set_cons_succ, List.set_cons_zero] at ob4
    have own4 := ownsRow_setCell_other hown (a := ⟨X, 1, none⟩) (by simp [Value.ownBlock]; omega) (.slice (some ⟨g, 0, none⟩) (0 + 1) cp)
    have gX : G (fun i => i = X) w' (w3.setCell ⟨X, 1, none⟩ (.slice (some ⟨g, 0, none⟩) 1 cp)) := G.setCell (S := fun i => i = X) (p := ⟨X, 1, none⟩) (q3.g _) (.inl rfl) _
    have hv4 := secsO_keepOwn hvo (fun b hb => by have := (hbo b hb).1; omega) gX
    have hb4 : ∀ b, (Value.slice oo no po).ownBlock = some b → X + 1 ≤ b ∧ b < g := fun b hb => by
      have := hbo b hb
      rcases hat with h | h
      · cases h
      · omega
    have s4 : g < (w3.setCell ⟨X, 1, none⟩ (.slice (some ⟨g, 0, none⟩) 1 cp)).heap.size := by simpa [World.setCell] using hlt
    simp only [Nat.zero_add] at own4
    replace hv4 : SecsO (X + 1) (w3.setCell ⟨X, 1, none⟩ (.slice (some ⟨g, 0, none⟩) 1 cp)) (.slice oo no po) lo := hv4
    replace own4 : (w3.setCell ⟨X, 1, none⟩ (.slice (some ⟨g, 0, none⟩) 1 cp)).ownsRow U0.heap.size 35 5 (.slice (some ⟨g, 0, none⟩) 1 cp) 1 (flatR [⟨⟨#[116, 49]⟩, cap, filt, err, lo⟩] [.slice oo no po]) := own4
    clear hX' hvo hbo gX kX1 fX1 ob3 q3 hgrow hat hown hlt hB hcs e21 h1 sX obX k1 hu1 hsz
    generalize w3.setCell ⟨X, 1, none⟩ (.slice (some ⟨g, 0, none⟩) 1 cp) = W4 at *
    clear cA cB
    have obR4 := b4.obj obR
    have wr4 := rw0.keepB b4
    have b04 := hu0.trans b4
    by_cases h5 : d % 5 = 0
    · have tm5 : d.tmod 5 = 0 := by rw [Int.tmod_eq_emod_of_nonneg (by omega)]; exact h5
      have tp4 : IsRecs W4 (.slice (some ⟨g, 0, none⟩) 1 cp) [⟨⟨#[116, 49]⟩, cap, filt, err, lo⟩] := recs_own (L := [⟨⟨#[116, 49]⟩, cap, filt, err, lo⟩]) (vs := [.slice oo no po]) own4 (by omega) rfl rfl (fun i r v hr hv => by
        match i with
        | 0 => obtain rfl := Option.some.inj hr; obtain rfl := Option.some.inj hv; exact hv4.secs
        | n + 1 => simp at hr)
      have tpT : IsRecs W4 (.slice (some ⟨g, 0, none⟩) 1 cp) TL := by
        have e := HTL.out
        rw [if_pos h5] at e
        rw [← e]; exact tp4
      have hwX2 : w.heap.size ≤ X := by omega
      have TO0 : ∃ tt, RecsO w.heap.size 35 W4 (.slice (some ⟨g, 0, none⟩) 1 cp) TL tt := by
        have e := HTL.out
        rw [if_pos h5] at e
        rw [← e]
        refine ⟨[.slice oo no po], own_low own4 hu0.below.size, rfl, fun i r v hr hv => ?_⟩
        match i with
        | 0 => obtain rfl := Option.some.inj hr; obtain rfl := Option.some.inj hv; exact hv4.low (by omega)
        | n + 1 => simp at hr
      have WO0 : RecsO w.heap.size 33 W4 (.slice (some ⟨Wb, 0, none⟩) 2 2) [⟨⟨#[112, 108, 97, 116, 101]⟩, a / 6 % 3 + 1, b / 6 % 4 + 2, c % 4 * 500, la⟩, ⟨⟨#[116, 117, 98, 101]⟩, 1, c / 4 % 3 + 2, d % 3 * 300, lb⟩] _ := ⟨own_keepBx ro0.1 b4, ro0.2.1, fun i r u h1 h2 => (ro0.2.2 i r u h1 h2).keepB b4⟩
      clear h5 hz0 hi0 hz1 hz2 pc pf pe tm1 tm2 tm3 tm4 ec3 ed2 edh edh3 cO cP own4 hv4 rw0 b4 hu0 hu0s obR hX
      have hnoX : ∀ i, i = X → ∀ k, (∀ r, W4.cell? ⟨i, k, none⟩ ≠ some (.bool r)) ∧ ∀ s, W4.cell? ⟨i, k, none⟩ ≠ some (.string s) := by
        rintro i rfl k
        rw [obj_cell ob4 k]
        match k with
        | 0 => exact ⟨by simp, by simp⟩
        | 1 => exact ⟨by simp, by simp⟩
        | 2 => exact ⟨by simp, by simp⟩
        | n + 3 => exact ⟨by simp, by simp⟩
      obtain ⟨i0f, hi0f, hz0f, hz1f, hz2f⟩ := info_of fillIF
      have hRne : ¬ w.heap.size = X := by omega
      have hXW := obj_lt ob4
      obtain ⟨base, hbase⟩ : ∃ base, W4.heap.size = base := ⟨_, rfl⟩
      obtain ⟨WL, hWL⟩ : ∃ WL : List Rec, [⟨⟨#[112, 108, 97, 116, 101]⟩, a / 6 % 3 + 1, b / 6 % 4 + 2, c % 4 * 500, la⟩, ⟨⟨#[116, 117, 98, 101]⟩, 1, c / 4 % 3 + 2, d % 3 * 300, lb⟩] = WL := ⟨_, rfl⟩
      have hF0 := HF.out
      rw [hWL] at wr4 hbW hF0 WO0
      replace hWL := Lib.hid hWL
      obtain ⟨wsv, hwsv⟩ : ∃ wsv : Value, .slice (some ⟨Wb, 0, none⟩) 2 2 = wsv := ⟨_, rfl⟩
      obtain ⟨tsv, htsv⟩ : ∃ tsv : Value, .slice (some ⟨g, 0, none⟩) 1 cp = tsv := ⟨_, rfl⟩
      rw [hwsv] at wr4 WO0
      rw [htsv] at tpT TO0
      have ob9 : W4.heap[X]? = some (.cells #[wsv, tsv, .slice none 0 0] 26 (0, 0)) := by rw [← hwsv, ← htsv]; exact ob4
      have HO := Lib.hid (And.intro WO0 (And.intro TO0 ob9))
      have hbb : w.heap.size ≤ base := by rw [← hbase]; exact b04.below.size
      clear hwsv htsv ob4 HF HTL WO0 TO0
      go_wp2_with fail
      go_loopw [12] (fun iv wr => ∃ (i : Nat) (fv : Value) (fs : List Fl), i ≤ ll.length ∧ iv = .int .i64 i ∧ G (fun k => k = X) W4 wr ∧ wr.heap[X]? = some (.cells #[wsv, tsv, fv] 26 (0, 0)) ∧ wr.ownsRow base 41 4 fv fs.length (flatF fs) ∧ fs ++ fillsF WL i (ll.drop i) = FF ∧ fs.length ≤ i) (fun iv _ => ll.length + 1 - (intOf iv).toNat)
      case atStart => exact ⟨0, .slice none 0 0, [], Nat.zero_le _, rfl, G.refl _ _, ob9, World.ownsRow_nil _ _ _ _, hF0, Nat.zero_le _⟩
      case round =>
        obtain ⟨i, fv, fs, hi, rfl, hG, oX, hown, hF, hfi⟩ := hrel
        clear hF0 ob9
        have bwr : B w wr := hG.b b04 (fun k hk => by omega)
        have oRr := hG.obj (b := w.heap.size) hRne obR4
        have hDk : IsDk wr wsv tsv fv ⟨WL, TL, fs⟩ := ⟨isRecs_keepG wr4 hnoX hG, isRecs_keepG tpT hnoX hG, isFls_own hown⟩
        have y0 : wr.cell? ⟨X, 0, none⟩ = some wsv := obj_cell oX 0
        have y1 : wr.cell? ⟨X, 1, none⟩ = some tsv := obj_cell oX 1
        have y2 : wr.cell? ⟨X, 2, none⟩ = some fv := obj_cell oX 2
        by_cases hl : i < ll.length
        · have hlB : decide ((i : Int) < (ll.length : Int)) = true := decide_eq_true (by omega)
          have hlN : decide (i < ll.length) = true := decide_eq_true hl
          have hlI : (i : Int) < (ll.length : Int) := by omega
          have hi0 : (0 : Int) ≤ (i : Int) := by omega
          have wk1 : IntKind.i64.wrap ((i : Int) + 1) = (i : Int) + 1 := by rw [IntKind.wrap_i64]; omega
          obtain ⟨x, hx⟩ : ∃ x, ll[i] = x := ⟨_, rfl⟩
          have hxe : ll[i]? = some x := by rw [List.getElem?_eq_getElem hl, hx]
          obtain ⟨hx32, lb, lo', hla, hcx⟩ := hU i x hxe
          subst hla
          have hcr := bwr.keep hcx
          have hdrop : ll.drop i = x :: ll.drop (i + 1) := by rw [List.drop_eq_getElem_cons hl, hx]
          rw [hdrop] at hF
          unfold fillsF at hF
          have cAt := r8at_any wsv tsv fv ⟨WL, TL, fs⟩ (i : Int) (by unfold I64; omega) wr hDk hbW
          clear hx hxe hdrop hcx
          simp only at cAt
          cases hat : atW WL (i : Int) with
          | none =>
            rw [hat] at cAt hF
            unfold wellV at cAt
            simp only [Option.isSome_none] at cAt
            go_wp2_with fail
            refine cAt.mono ?_
            rintro _ w5 ⟨rfl, q5⟩
            clear cAt
            have q6 := q5.alloc #[.string ⟨#[]⟩, .int .i64 0, .int .i64 0] 39
            have HZ := Lib.hid (And.intro (hG.trans (q6.g _)) (And.intro (q6.obj oX) (And.intro (ownsRow_keepB hown q6) (And.intro hF (And.intro hfi hl)))))
            clear hG oX hown hF hfi hl hDk bwr oRr q5 q6
            go_wp2
            go_roundw
            case rel =>
              obtain ⟨h1, h2, h3, h4, h5, h6⟩ := HZ.out
              exact ⟨i + 1, fv, fs, by omega, by go_num, h1, h2, h3, h4, by omega⟩
            case measure => have := HZ.out; simp [intOf]; omega
          | some nrc =>
            obtain ⟨n, r, cc⟩ := nrc
            rw [hat] at cAt hF
            dsimp only at hF
            unfold wellV at cAt
            simp only [Option.isSome_some] at cAt
            obtain ⟨r6, hr6⟩ : ∃ r6 : Nat, x % 6 = r6 := ⟨_, rfl⟩
            have rm6 : (x : Int).tmod 6 = (r6 : Int) := by rw [Int.tmod_eq_emod_of_nonneg (by omega)]; omega
            by_cases hz : r6 = 0
            · have hrB : decide ((0 : Int) < (r6 : Int)) = false := decide_eq_false (by omega)
              have hrN : decide (0 < r6) = false := decide_eq_false (by omega)
              rw [hr6, if_neg (by omega)] at hF
              clear hr6 hz
              go_wp2_with fail
              refine cAt.mono ?_
              rintro _ w5 ⟨rfl, q5⟩
              clear cAt
              have q6 := q5.alloc #[.string n, .int .i64 r, .int .i64 cc] 39
              have hcx6 := q6.keep hcr
              have hcx5 := q5.keep hcr
              have HZ := Lib.hid (And.intro (hG.trans (q6.g _)) (And.intro (q6.obj oX) (And.intro (ownsRow_keepB hown q6) (And.intro hF (And.intro hfi hl)))))
              clear hG oX hown hF hfi hl hDk bwr oRr q5 q6
              go_wp2
              go_roundw
              case rel =>
                obtain ⟨h1, h2, h3, h4, h5, h6⟩ := HZ.out
                exact ⟨i + 1, fv, fs, by omega, by go_num, h1, h2, h3, h4, by omega⟩
              case measure => have := HZ.out; simp [intOf]; omega
            · have hrB : decide ((0 : Int) < (r6 : Int)) = true := decide_eq_true (by omega)
              have hrN : decide (0 < r6) = true := decide_eq_true (by omega)
              rw [hr6, if_pos (by omega)] at hF
              obtain ⟨dq, hdq⟩ : ∃ dq : Nat, x / 6 = dq := ⟨_, rfl⟩
              obtain ⟨dm, hdm⟩ : ∃ dm : Nat, dq % 200000 = dm := ⟨_, rfl⟩
              rw [hdq, hdm] at hF
              have n1 : IntKind.u32.wrap ((x : Int).tdiv 6) = (dq : Int) := by rw [Int.tdiv_eq_ediv_of_nonneg (by omega), IntKind.wrap_u32]; omega
              have n1' : IntKind.u32.wrap ((x : Int) / 6) = (dq : Int) := by rw [IntKind.wrap_u32]; omega
              have n2 : (dq : Int).tmod 200000 = (dm : Int) := by rw [Int.tmod_eq_emod_of_nonneg (by omega)]; omega
              have n3 : IntKind.i64.wrap (dm : Int) = (dm : Int) := by rw [IntKind.wrap_i64]; omega
              obtain ⟨VV, hVV⟩ : ∃ VV : Int, 60000 + (dm : Int) = VV := ⟨_, rfl⟩
              have n4 : IntKind.i64.wrap (60000 + (dm : Int)) = VV := by rw [IntKind.wrap_i64]; omega
              rw [hVV] at hF
              clear hr6 hz hdq hdm hVV
              go_wp2_with fail
              refine cAt.mono ?_
              rintro _ w5 ⟨rfl, q5⟩
              clear cAt
              have q6 := q5.alloc #[.string n, .int .i64 r, .int .i64 cc] 39
              have oN := obj_new w5 (.cells #[.string n, .int .i64 r, .int .i64 cc] 39)
              have hcx6 := q6.keep hcr
              have hcx5 := q5.keep hcr
              have hG6 := hG.trans (q6.g _)
              have oX6 := q6.obj oX
              have own6 := ownsRow_keepB hown q6
              have HZ := Lib.hid (And.intro hG6 (And.intro oX6 (And.intro own6 (And.intro hF (And.intro hfi (And.intro hl oN))))))
              clear hG6 oX6 own6 oN hG oX hown hF hDk bwr oRr q5 q6 y0 y1 y2
              go_wp2_with fail
              obtain ⟨hG6, oX6, own6, hF, hfi, hl, oN⟩ := HZ.out
              clear HZ hcx5 hcr
              generalize w5.alloc (.cells #[.string n, .int .i64 r, .int .i64 cc] 39) = w6 at *
              generalize w5.heap.size = N at *
              have qA : B w6 (w6.drew.alloc (.cells #[.string n, .int .i64 r, .int .i64 cc, .int .i64 VV] 41)) := (B.refl w6).drew.alloc _ _
              have hownA := ownsRow_keepB own6 qA
              have hbaseA : base ≤ (w6.drew.alloc (.cells #[.string n, .int .i64 r, .int .i64 cc, .int .i64 VV] 41)).heap.size := by rw [← hbase]; exact (hG6.trans (qA.g _)).size
              have s0 : w6.drew.cell? ⟨X, 2, none⟩ = some fv := obj_cell (w := w6.drew) oX6 2
              have s1 : w6.drew.cell? ⟨N, 0, none⟩ = some (.string n) := obj_cell (w := w6.drew) oN 0
              have s2 : w6.drew.cell? ⟨N, 1, none⟩ = some (.int .i64 r) := obj_cell (w := w6.drew) oN 1
              have s3 : w6.drew.cell? ⟨N, 2, none⟩ = some (.int .i64 cc) := obj_cell (w := w6.drew) oN 2
              have s4 : w6.drew.cell? ⟨lb, lo' + i, none⟩ = some (.int .u32 (x : Int)) := hcx6
              have HX := Lib.hid (And.intro hG6 (And.intro own6 (And.intro hF hl)))
              clear hG6 own6 hF hl
              refine wp_region_noPanic ?_
              refine wp_region_gate (S := fun w' => w'.cell? ⟨X, 2, none⟩ = some fv ∧ w'.cell? ⟨N, 0, none⟩ = some (.string n) ∧ w'.cell? ⟨N, 1, none⟩ = some (.int .i64 r) ∧ w'.cell? ⟨N, 2, none⟩ = some (.int .i64 cc) ∧ w'.cell? ⟨lb, lo' + i, none⟩ = some (.int .u32 (x : Int))) 13 [(0, 3), (1, 0), (2, 0), (3, 3), (4, 3), (5, 3), (6, 0), (7, 3), (8, 3), (9, 3), (10, 3), (11, 3), (12, 2), (13, 4), (14, 3), (15, 4)] [0, 1, 0, 0, 0, 24, 32, 64, 128, 256, 512, 1028, 2048, 4098, 16383, 32767] [0, 1, 0, 0, 0, 24, 32, 64, 128, 256, 512, 1028, 2048, 4098, 0, 24576] [0, 57346, 63492, 0, 0, 0, 65472, 0, 0, 0, 0, 0, 0, 0, 0, 0] (by kernel_rfl) (by kernel_rfl) (fun _ _ _ _ _ h => h) ?_ (fun hH => ?_)
              · exact ⟨s0, s1, s2, s3, s4⟩
              refine wpSeqG_free (d := 105) (v := ?_) rfl rfl (by kernel_rfl) (fun w => ?_) ?_
              rotate_left
              · go_simp <;> with_reducible rfl
              dsimp only [List.set_cons_zero, List.set_cons_succ]
              refine wpSeqG_take (d := 106) (v := ?_) rfl rfl (by kernel_rfl) (fun w hS => ?_) ?_
              rotate_left
              · go_simp <;> with_reducible rfl
              dsimp only [List.set_cons_zero, List.set_cons_succ]
              refine wpSeqG_take (d := 107) (v := ?_) rfl rfl (by kernel_rfl) (fun w hS => ?_) ?_
              rotate_left
              · go_simp <;> with_reducible rfl
              dsimp only [List.set_cons_zero, List.set_cons_succ]
              refine wpSeqG_free (d := 108) (v := ?_) rfl rfl (by kernel_rfl) (fun w => ?_) ?_
              rotate_left
              · go_simp <;> with_reducible rfl
              dsimp only [List.set_cons_zero, List.set_cons_succ]
              refine wpSeqG_free (d := 109) (v := ?_) rfl rfl (by kernel_rfl) (fun w => ?_) ?_
              rotate_left
              · go_simp <;> with_reducible rfl
              dsimp only [List.set_cons_zero, List.set_cons_succ]
              refine wpSeqG_free (d := 110) (v := ?_) rfl rfl (by kernel_rfl) (fun w => ?_) ?_
              rotate_left
              · go_simp <;> with_reducible rfl
              dsimp only [List.set_cons_zero, List.set_cons_succ]
              refine wpSeqG_take (d := 111) (v := ?_) rfl rfl (by kernel_rfl) (fun w hS => ?_) ?_
              rotate_left
              · go_simp <;> with_reducible rfl
              dsimp only [List.set_cons_zero, List.set_cons_succ]
              refine wpSeqG_free (d := 112) (v := ?_) rfl rfl (by kernel_rfl) (fun w => ?_) ?_
              rotate_left
              · go_simp <;> with_reducible rfl
              dsimp only [List.set_cons_zero, List.set_cons_succ]
              refine wpSeqG_free (d := 113) (v := ?_) rfl rfl (by kernel_rfl) (fun w => ?_) ?_
              rotate_left
              · go_simp <;> with_reducible rfl
              dsimp only [List.set_cons_zero, List.set_cons_succ]
              refine wpSeqG_free (d := 114) (v := ?_) rfl rfl (by kernel_rfl) (fun w => ?_) ?_
              rotate_left
              · go_simp <;> with_reducible rfl
              dsimp only [List.set_cons_zero, List.set_cons_succ]
              refine wpSeqG_free (d := 115) (v := ?_) rfl rfl (by kernel_rfl) (fun w => ?_) ?_
              rotate_left
              · go_simp <;> with_reducible rfl
              dsimp only [List.set_cons_zero, List.set_cons_succ]
              refine wpSeqG_free (d := 116) (v := ?_) rfl rfl (by kernel_rfl) (fun w => ?_) ?_
              rotate_left
              · go_simp <;> with_reducible rfl
              dsimp only [List.set_cons_zero, List.set_cons_succ]
              refine wpSeqG_call rfl (by kernel_rfl) (fun K hK => ?_)
              go_simp
              refine hK.out _ _ ?_ (fun hH => ?_)
              · exact ⟨((B.refl _).alloc _ _).keep hH.1, ((B.refl _).alloc _ _).keep hH.2.1, ((B.refl _).alloc _ _).keep hH.2.2.1, ((B.refl _).alloc _ _).keep hH.2.2.2.1, ((B.refl _).alloc _ _).keep hH.2.2.2.2⟩
              clear hK
              refine wpSeqG_gate rfl (by kernel_rfl) (fun K hK => ?_)
              refine wp_append_lies _ _ _ 24 rfl base 41 i0f (.agg #[.string ⟨#[]⟩, .int .i64 0, .int .i64 0, .int .i64 0]) 4 40 (by kernel_rfl) hi0f hz0f hz1f hz2f rfl (by omega) _ _ _ rfl hownA ⟨w6.heap.size, 0, none⟩ 1 1 [.string n, .int .i64 r, .int .i64 cc, .int .i64 VV] rfl rfl (news_plain rfl) (by intro u hu; simp only [List.mem_cons, List.not_mem_nil, or_false] at hu; rcases hu with rfl | rfl | rfl | rfl <;> rfl) (by omega) (by unfold maxLen; omega) (by omega) hbaseA _ rfl ?_
              intro gN cN w9 hownN hgrowN hatN hltN
              have oX9 := obj_grown hgrowN (qA.obj oX6) (farF (qA.obj oX6) hownA (by decide))
              have yX : w9.cell? ⟨X, 2, none⟩ = some fv := obj_cell oX9 2
              have yF := obj_free oX9 2
              try simp only [Act.put, List.setIfInBounds_toArray, List.set_cons_zero, List.set_cons_succ]
              refine hK.out _ _ ?_
              clear hK
              refine wpSeqG_free (d := 119) (v := ?_) rfl rfl (by kernel_rfl) (fun w => ?_) ?_
              rotate_left
              · go_simp <;> with_reducible rfl
              dsimp only [List.set_cons_zero, List.set_cons_succ]
              refine wpSeqG_gate rfl (by kernel_rfl) (fun K hK => ?_)
              go_simp
              refine hK.out _ _ ?_
              clear hK
              refine wpSeqG_done ?_
              refine NoPanic.normal ?_
              all_goals
                obtain ⟨hG6, own6, hF, hl⟩ := HX.out
                have rowsX : fv.ownBlock ≠ some X := farF (qA.obj oX6) hownA (by decide)
                have hG9 : G (fun k => k = X) W4 w9 := (hG6.trans (qA.g _)).grown hgrowN (fun k hk => by
                  have := (ownsRow_obj hownA hk).1
                  right
                  omega)
                have hG10 := hG9.setCell (p := ⟨X, 2, none⟩) (.inl rfl) (.slice (some ⟨gN, 0, none⟩) (fs.length + 1) cN)
                have oX10 : (w9.setCell ⟨X, 2, none⟩ (.slice (some ⟨gN, 0, none⟩) (fs.length + 1) cN)).heap[X]? = some (.cells #[wsv, tsv, .slice (some ⟨gN, 0, none⟩) (fs.length + 1) cN] 26 (0, 0)) := by simpa using obj_set oX9 2 (.slice (some ⟨gN, 0, none⟩) (fs.length + 1) cN)
                have own10 : (w9.setCell ⟨X, 2, none⟩ (.slice (some ⟨gN, 0, none⟩) (fs.length + 1) cN)).ownsRow base 41 4 (.slice (some ⟨gN, 0, none⟩) (fs.length + 1) cN) (fs ++ [(⟨n, r, cc, VV⟩ : Fl)]).length (flatF (fs ++ [(⟨n, r, cc, VV⟩ : Fl)])) := by
                  rw [flatF_snoc, List.length_append]
                  exact ownsRow_setCell_other hownN (a := ⟨X, 2, none⟩) (fun e => farF oX9 hownN (by decide) e) (.slice (some ⟨gN, 0, none⟩) (fs.length + 1) cN)
                have hF10 : (fs ++ [(⟨n, r, cc, VV⟩ : Fl)]) ++ fillsF WL (i + 1) (ll.drop (i + 1)) = FF := by rw [List.append_assoc]; exact hF
                have HZ := Lib.hid (And.intro hG10 (And.intro oX10 (And.intro own10 (And.intro hF10 (And.intro hfi hl)))))
                clear hG9 hG10 oX10 own10 hF10 hF hl hG6 own6 HX rowsX oX9 yX yF hownN hgrowN hatN hltN hownA hbaseA qA oX6 oN hcx6 s0 s1 s2 s3 s4 hH
                generalize w9.setCell ⟨X, 2, none⟩ (.slice (some ⟨gN, 0, none⟩) (fs.length + 1) cN) = w10 at *
                go_wp2
                go_roundw
                case rel =>
                  obtain ⟨h1, h2, h3, h4, h5, h6⟩ := HZ.out
                  exact ⟨i + 1, _, _, by omega, by go_num, h1, h2, h3, h4, by simp; omega⟩
                case measure => have := HZ.out; simp [intOf]; omega
        · have hlB : decide ((i : Int) < (ll.length : Int)) = false := decide_eq_false (by omega)
          have hlN : decide (i < ll.length) = false := decide_eq_false hl
          rw [List.drop_eq_nil_of_le (by omega)] at hF
          unfold fillsF at hF
          rw [List.append_nil] at hF
          subst hF
          obtain ⟨a0, p0, z0⟩ := hDk.ws.form
          obtain ⟨a1, p1, z1⟩ := hDk.ts.form
          obtain ⟨a2, p2, z2⟩ := hDk.fs.form
          subst z0 z1 z2
          have r0 : wr.cell? ⟨w.heap.size, 0, none⟩ = some (.slice none 0 0) := obj_cell oRr 0
          have r1 : wr.cell? ⟨w.heap.size, 1, none⟩ = some (.slice none 0 0) := obj_cell oRr 1
          have r2 : wr.cell? ⟨w.heap.size, 2, none⟩ = some (.slice none 0 0) := obj_cell oRr 2
          have e0 := obj_free oRr 0
          have e1 := obj_free oRr 1
          have e2 := obj_free oRr 2
          have oE := obj_three oRr (.slice a0 WL.length p0) (.slice a1 TL.length p1) (.slice a2 fs.length p2)
          have hqF := b_three bwr (Nat.le_refl _) (.slice a0 WL.length p0) (.slice a1 TL.length p1) (.slice a2 fs.length p2)
          have hnoR : ∀ i, i = w.heap.size → ∀ k, (∀ r, wr.cell? ⟨i, k, none⟩ ≠ some (.bool r)) ∧ ∀ s, wr.cell? ⟨i, k, none⟩ ≠ some (.string s) := by
            rintro i rfl k
            rw [obj_cell oRr k]
            match k with
            | 0 => exact ⟨by simp, by simp⟩
            | 1 => exact ⟨by simp, by simp⟩
            | 2 => exact ⟨by simp, by simp⟩
            | n + 3 => exact ⟨by simp, by simp⟩
          have g5 := g_three wr w.heap.size (.slice a0 WL.length p0) (.slice a1 TL.length p1) (.slice a2 fs.length p2)
          have hown5 := hown.kept (w' := ((wr.setCell ⟨w.heap.size, 0, none⟩ (.slice a0 WL.length p0)).setCell ⟨w.heap.size, 1, none⟩ (.slice a1 TL.length p1)).setCell ⟨w.heap.size, 2, none⟩ (.slice a2 fs.length p2)) (row := some w.heap.size) ⟨g5.os, g5.tape, g5.output, g5.size, fun k hk he => g5.block k hk (fun e => he (by rw [e]))⟩ (.inr (farF oRr hown (by decide)))
          have hDF : IsDk (((wr.setCell ⟨w.heap.size, 0, none⟩ (.slice a0 WL.length p0)).setCell ⟨w.heap.size, 1, none⟩ (.slice a1 TL.length p1)).setCell ⟨w.heap.size, 2, none⟩ (.slice a2 fs.length p2)) (.slice a0 WL.length p0) (.slice a1 TL.length p1) (.slice a2 fs.length p2) ⟨WL, TL, fs⟩ := ⟨isRecs_keepG hDk.ws hnoR g5, isRecs_keepG hDk.ts hnoR g5, isFls_own hown5⟩
          obtain ⟨WO9, ⟨tt, TO9⟩, ob9⟩ := HO.out
          have hTW : ∀ {e size m : Nat} {v : Value} {xs : List Value} {K : Nat}, e ≠ 26 → W4.ownsRow K e size v m xs → (((wr.setCell ⟨w.heap.size, 0, none⟩ (.slice a0 WL.length p0)).setCell ⟨w.heap.size, 1, none⟩ (.slice a1 TL.length p1)).setCell ⟨w.heap.size, 2, none⟩ (.slice a2 fs.length p2)).ownsRow K e size v m xs := fun he h => own_objG (own_objG h ob9 (fun e => he e.symm) hG) oRr (fun e => he e.symm) g5
          have hOwn : OwnD (((wr.setCell ⟨w.heap.size, 0, none⟩ (.slice a0 WL.length p0)).setCell ⟨w.heap.size, 1, none⟩ (.slice a1 TL.length p1)).setCell ⟨w.heap.size, 2, none⟩ (.slice a2 fs.length p2)) w.heap.size (.slice a0 WL.length p0) (.slice a1 TL.length p1) (.slice a2 fs.length p2) ⟨WL, TL, fs⟩ _ tt :=
            ⟨hTW (by decide) WO9.1, hTW (by decide) TO9.1, own_low hown5 hbb, WO9.2.1, TO9.2.1, fun i r v h1 h2 => hTW (by decide) (WO9.2.2 i r v h1 h2).own, fun i r v h1 h2 => hTW (by decide) (TO9.2.2 i r v h1 h2).own, fun r hr => by
              obtain ⟨i, hi, e⟩ := List.getElem_of_mem hr
              exact (WO9.2.2 i r _ (by rw [List.getElem?_eq_getElem hi, e]) (List.getElem?_eq_getElem (by rw [WO9.2.1]; exact hi))).I, fun r hr => by
              obtain ⟨i, hi, e⟩ := List.getElem_of_mem hr
              exact (TO9.2.2 i r _ (by rw [List.getElem?_eq_getElem hi, e]) (List.getElem?_eq_getElem (by rw [TO9.2.1]; exact hi))).I⟩
          have HZ := Lib.hid (And.intro oE (And.intro hqF hOwn))
          clear oE hqF hOwn hDF hTW WO9 TO9 ob9 HO hown5 g5 hnoR hDk hown oRr bwr hG oX wr4 tpT obR4 b04 hnoX hbW hU
          go_wp2
          obtain ⟨oE, hqF, hDF⟩ := HZ.out
          have c0 := obj_cell oE 0
          have c1 := obj_cell oE 1
          have c2 := obj_cell oE 2
          refine bodyPost_ret (v := .agg #[(.slice a0 WL.length p0), (.slice a1 TL.length p1), (.slice a2 fs.length p2)]) (by simp [results, Tryz.results11, go_sem, c0, c1, c2]) rfl ⟨_, _, _, rfl, ⟨_, _, by rw [hWL.out]; exact hDF⟩, hqF⟩
    · obtain ⟨r5, e5⟩ : ∃ r, d % 5 = r := ⟨_, rfl⟩
      have tm5 : d.tmod 5 = r5 := by rw [Int.tmod_eq_emod_of_nonneg (by omega)]; exact e5
      have d5 : decide (0 < r5) = true := decide_eq_true (by omega)
      obtain ⟨d30, e30⟩ : ∃ r, d % 30 = r := ⟨_, rfl⟩
      have tm30 : d.tmod 30 = d30 := by rw [Int.tmod_eq_emod_of_nonneg (by omega)]; exact e30
      have w30 : IntKind.i64.wrap d30 = d30 := wrapI (by omega) (by omega)
      clear pc pf pe tm1 tm2 tm3 tm4 ec3 ed2 edh edh3 cO
      have kx1 : W4.cell? ⟨X, 1, none⟩ = some (.slice (some ⟨g, 0, none⟩) 1 cp) := obj_cell ob4 1
      go_wp2_with fail
      refine wp_region_noPanic ?_
      refine wp_region_slots [(0, 73), (1, 74), (2, 75), (3, 76), (4, 77), (5, 78), (6, 79), (7, 80), (8, 81)] [(9, 2), (10, 0), (11, 2)] [0, 1, 0, 4, 8, 0, 32, 80, 128, 322, 1023, 2047] [0, 1, 0, 4, 8, 0, 32, 80, 128, 258, 0, 1536] [0, 1, 0, 4, 12, 0, 32, 124, 252, 511, 1023, 2047] 511 [(fun v _ => v = .pointer (some ⟨X, 1, none⟩)), (fun v _ => v = .slice (some ⟨g, 0, none⟩) 1 cp), (fun v _ => v = .int .u8 d), (fun v _ => v = .int .u8 d30), (fun v _ => v = .int .i64 d30), (fun v _ => v = .int .u8 d), (SecsVO (g + 1) lp), (RecVO (g + 1) ⟨⟨#[116, 50]⟩, 50000, 40000, d30, lp⟩), (RecRowO (g + 1) ⟨⟨#[116, 50]⟩, 50000, 40000, d30, lp⟩)] (by kernel_rfl) (by kernel_rfl) (fun _ _ _ _ h => h) ⟨slot_val _, slot_val _, slot_val _, slot_val _, slot_val _, slot_val _, slot_secsO _ _, slot_recO _ _, slot_recrowO _ _, trivial⟩ ⟨?_, ?_, ?_, ?_, ?_, ?_, ?_, ?_, ?_, trivial⟩ ?_
      · intro f w' hf hB
        clear hf
        refine slot_op rfl (fun _ => rfl) (fun T hT K hK => ?_)
        simp only [putsL, List.set_cons_zero, List.set_cons_succ] at hT
        subst hT
        go_simp
        exact hK.out _ _ rfl (B.refl _)
      · intro f w' hf hB
        have h0 := hf (0, 73) (by simp) (by rfl)
        clear hf
        have e0 : f 0 = _ := h0
        have k1 := hB.keep kx1
        refine slot_op rfl (fun _ => rfl) (fun T hT K hK => ?_)
        simp only [putsL, List.set_cons_zero, List.set_cons_succ, e0] at hT
        subst hT
        go_simp
        exact hK.out _ _ rfl (B.refl _)
      · intro f w' hf hB
        clear hf
        refine slot_op rfl (fun _ => rfl) (fun T hT K hK => ?_)
        simp only [putsL, List.set_cons_zero, List.set_cons_succ] at hT
        subst hT
        go_simp
        exact hK.out _ _ rfl (B.refl _)
      · intro f w' hf hB
        have h2 := hf (2, 75) (by simp) (by rfl)
        clear hf
        have e2 : f 2 = _ := h2
        refine slot_op rfl (fun _ => rfl) (fun T hT K hK => ?_)
        simp only [putsL, List.set_cons_zero, List.set_cons_succ, e2] at hT
        subst hT
        go_simp
        exact hK.out _ _ rfl (B.refl _)
      · intro f w' hf hB
        have h3 := hf (3, 76) (by simp) (by rfl)
        clear hf
        have e3 : f 3 = _ := h3
        refine slot_op rfl (fun _ => rfl) (fun T hT K hK => ?_)
        simp only [putsL, List.set_cons_zero, List.set_cons_succ, e3] at hT
        subst hT
        go_simp
        exact hK.out _ _ rfl (B.refl _)
      · intro f w' hf hB
        clear hf
        refine slot_op rfl (fun _ => rfl) (fun T hT K hK => ?_)
        simp only [putsL, List.set_cons_zero, List.set_cons_succ] at hT
        subst hT
        go_simp
        exact hK.out _ _ rfl (B.refl _)
      · intro f w' hf hB
        have h5 := hf (5, 78) (by simp) (by rfl)
        clear hf
        have e5 : f 5 = _ := h5
        refine slot_op rfl (fun _ => rfl) (fun T hT K hK => ?_)
        simp only [putsL, List.set_cons_zero, List.set_cons_succ, e5] at hT
        subst hT
        go_simp
        (with_reducible refine (cP _).mono ?_)
        rintro e w2 ⟨vo, rfl, hvo, q, hbo⟩
        obtain ⟨o7, n7, p7, rfl⟩ := hvo.form
        exact hK.out _ _ ⟨_, _, _, rfl, hvo.low (Nat.le_trans s4 hB.below.size), fun b hb => ⟨Nat.le_trans s4 (Nat.le_trans hB.below.size (hbo b hb)), secs_lt hvo.secs hlp hb⟩⟩ q.b
      · intro f w' hf hB
        have h4 := hf (4, 77) (by simp) (by rfl)
        have h6 := hf (6, 79) (by simp) (by rfl)
        clear hf
        have e4 : f 4 = _ := h4
        obtain ⟨o7, n7, p7, e6, hvo, hbo⟩ := h6
        refine slot_op rfl (fun _ => rfl) (fun T hT K hK => ?_)
        simp only [putsL, List.set_cons_zero, List.set_cons_succ, e4, e6] at hT
        subst hT
        go_simp
        exact hK.out _ _ ⟨o7, n7, p7, rfl, hvo, hbo⟩ (B.refl _)
      · intro f w' hf hB
        have h7 := hf (7, 80) (by simp) (by rfl)
        clear hf
        obtain ⟨o7, n7, p7, e7, hvo, hbo⟩ := h7
        refine slot_op rfl (fun _ => rfl) (fun T hT K hK => ?_)
        simp only [putsL, List.set_cons_zero, List.set_cons_succ, e7] at hT
        subst hT
        go_simp
        refine hK.out _ _ ⟨_, o7, n7, p7, rfl, fun j u hj => ?_, hvo.keepB ((B.refl _).alloc _ _), fun b hb => ⟨(hbo b hb).1, Nat.lt_of_lt_of_le (hbo b hb).2 ((B.refl _).alloc _ _).below.size⟩⟩ ((B.refl _).alloc _ _)
        rw [World.cell?_alloc_new]
        simpa [Rec.cells] using hj
      · intro f w' hf hB T hT
        have h1 : f 1 = _ := hf (1, 74) (by simp)
        have h8 : slotOf [(fun v _ => v = .pointer (some ⟨X, 1, none⟩)), (fun v _ => v = .slice (some ⟨g, 0, none⟩) 1 cp), (fun v _ => v = .int .u8 d), (fun v _ => v = .int .u8 d30), (fun v _ => v = .int .i64 d30), (fun v _ => v = .int .u8 d), (SecsVO (g + 1) lp), (RecVO (g + 1) ⟨⟨#[116, 50]⟩, 50000, 40000, d30, lp⟩), (RecRowO (g + 1) ⟨⟨#[116, 50]⟩, 50000, 40000, d30, lp⟩)] 8 (f 8) w' := hf (8, 81) (by simp)
        obtain ⟨B2, o7, n7, p7, e8, hcs, hvp, hbp⟩ := h8
        clear hf
        simp only [putsL, List.set_cons_zero, List.set_cons_succ, h1, e8] at hT
        subst hT
        have obX' := hB.obj ob4
        have own' := ownsRow_keepB own4 hB
        have hv' := hv4.keepB hB
        refine wpSeq_call rfl (by kernel_rfl) (fun K hK => ?_)
        refine wp_append_lies _ (.tmp 74) (.tmp 81) 23 rfl U0.heap.size 35 i0 _ 5 64 Tryz.underlying23 hi0 hz0 hz1 hz2 rfl (by omega) (.slice (some ⟨g, 0, none⟩) 1 cp) 1 (flatR [⟨⟨#[116, 49]⟩, cap, filt, err, lo⟩] [.slice oo no po]) rfl own' ⟨B2, 0, none⟩ 1 1 (Rec.cells ⟨⟨#[116, 50]⟩, 50000, 40000, d30, lp⟩ (.slice o7 n7 p7)) rfl rfl (fun j u hj => by rw [add0]; exact hcs j u hj) (by simp [Rec.cells, Value.oneCell']) (by omega) (by unfold maxLen; omega) (by omega) (Nat.le_trans b4.below.size hB.below.size) _ rfl (fun g2 cp2 w5 hown hgrow hat hlt => ?_)
        refine hK.out _ _ trivial (fun _ => ?_)
        clear hK
        have sX : X < w'.heap.size := (Array.getElem?_eq_some_iff.1 obX').1
        have hg2 : X < g2 := by
          rcases hat with h | h
          · cases h; exact hgX
          · omega
        have gg : G (fun i => i = g) w' w5 := (G.refl _ w').grown hgrow (fun k hk => .inl (by cases hk; rfl))
        have ob5 := gg.obj (by omega) obX'
        have kX1 := obj_cell ob5 1
        have fX1 := obj_free ob5 1
        refine wpSeq_take (d := 83) (v := ?_) rfl rfl (by kernel_rfl) (fun w hS => ?_) ?_
        rotate_left
        · go_simp <;> with_reducible rfl
        dsimp only [List.set_cons_zero, List.set_cons_succ]
        refine wpSeq_call rfl (by kernel_rfl) (fun K hK => ?_)
        go_simp
        refine hK.out _ _ trivial (fun _ => ?_)
        clear hK
        refine wpSeq_done ?_
        refine NoPanic.normal ?_
        have gX : G (fun i => i = X ∨ i = g) w' (w5.setCell ⟨X, 1, none⟩ (.slice (some ⟨g2, 0, none⟩) 2 cp2)) := G.setCell (S := fun i => i = X ∨ i = g) (p := ⟨X, 1, none⟩) (gg.mono (fun _ _ h => .inr h)) (.inl (.inl rfl)) _
        have b6 : B U0 (w5.setCell ⟨X, 1, none⟩ (.slice (some ⟨g2, 0, none⟩) 2 cp2)) := gX.b (b4.trans hB) (fun i hi => by omega)
        have ob6 := obj_set ob5 1 (.slice (some ⟨g2, 0, none⟩) 2 cp2)
        simp only [List.setIfInBounds_toArray, List.set_cons_succ, List.set_cons_zero] at ob6
        have own6 := ownsRow_setCell_other hown (a := ⟨X, 1, none⟩) (by simp [Value.ownBlock]; omega) (.slice (some ⟨g2, 0, none⟩) 2 cp2)
        replace own6 : (w5.setCell ⟨X, 1, none⟩ (.slice (some ⟨g2, 0, none⟩) 2 cp2)).ownsRow U0.heap.size 35 5 (.slice (some ⟨g2, 0, none⟩) 2 cp2) 2 (flatR [⟨⟨#[116, 49]⟩, cap, filt, err, lo⟩, ⟨⟨#[116, 50]⟩, 50000, 40000, d30, lp⟩] [.slice oo no po, .slice o7 n7 p7]) := own6
        have hv6 := secsO_keepOwn hv' (fun b hb => by have := hb4 b hb; omega) gX
        have hp6 := secsO_keepOwn hvp (fun b hb => by have := (hbp b hb).1; omega) gX
        have tp6 : IsRecs (w5.setCell ⟨X, 1, none⟩ (.slice (some ⟨g2, 0, none⟩) 2 cp2)) (.slice (some ⟨g2, 0, none⟩) 2 cp2) [⟨⟨#[116, 49]⟩, cap, filt, err, lo⟩, ⟨⟨#[116, 50]⟩, 50000, 40000, d30, lp⟩] := recs_own (L := [⟨⟨#[116, 49]⟩, cap, filt, err, lo⟩, ⟨⟨#[116, 50]⟩, 50000, 40000, d30, lp⟩]) (vs := [.slice oo no po, .slice o7 n7 p7]) own6 (by omega) rfl rfl (fun i r v hr hv => by
          match i with
          | 0 => obtain rfl := Option.some.inj hr; obtain rfl := Option.some.inj hv; exact hv6.secs
          | 1 => obtain rfl := Option.some.inj hr; obtain rfl := Option.some.inj hv; exact hp6.secs
          | n + 2 => simp at hr)
        have tpT : IsRecs (w5.setCell ⟨X, 1, none⟩ (.slice (some ⟨g2, 0, none⟩) 2 cp2)) (.slice (some ⟨g2, 0, none⟩) 2 cp2) TL := by
          have e := HTL.out
          rw [if_neg h5, e30] at e
          rw [← e]; exact tp6
        have hwX2 : w.heap.size ≤ X := by omega
        have TO0 : ∃ tt, RecsO w.heap.size 35 (w5.setCell ⟨X, 1, none⟩ (.slice (some ⟨g2, 0, none⟩) 2 cp2)) (.slice (some ⟨g2, 0, none⟩) 2 cp2) TL tt := by
          have e := HTL.out
          rw [if_neg h5, e30] at e
          rw [← e]
          refine ⟨[.slice oo no po, .slice o7 n7 p7], own_low own6 hu0.below.size, rfl, fun i r v hr hv => ?_⟩
          match i with
          | 0 => obtain rfl := Option.some.inj hr; obtain rfl := Option.some.inj hv; exact hv6.low (by omega)
          | 1 => obtain rfl := Option.some.inj hr; obtain rfl := Option.some.inj hv; exact hp6.low (by omega)
          | n + 2 => simp at hr
        have WO0 : RecsO w.heap.size 33 (w5.setCell ⟨X, 1, none⟩ (.slice (some ⟨g2, 0, none⟩) 2 cp2)) (.slice (some ⟨Wb, 0, none⟩) 2 2) [⟨⟨#[112, 108, 97, 116, 101]⟩, a / 6 % 3 + 1, b / 6 % 4 + 2, c % 4 * 500, la⟩, ⟨⟨#[116, 117, 98, 101]⟩, 1, c / 4 % 3 + 2, d % 3 * 300, lb⟩] _ := ⟨own_keepBx ro0.1 b6, ro0.2.1, fun i r u h1 h2 => (ro0.2.2 i r u h1 h2).keepB b6⟩
        replace obR4 := b6.obj obR
        replace wr4 := rw0.keepB b6
        replace b04 := hu0.trans b6
        clear h5 e5 tm5 d5 e30 tm30 w30 kX1 fX1 kx1 ob5 ob4 own4 own' own6 hv4 hv' hv6 hvp hp6 tp6 gX gg hown hgrow hat hlt obX' rw0 b4 b6 hB hu0 hu0s obR hX hz0 hz1 hz2 hi0 hcs hbp hb4 s4 sX hgX h1 e8 cP
        generalize w5.setCell ⟨X, 1, none⟩ (.slice (some ⟨g2, 0, none⟩) 2 cp2) = W6 at *
        have hnoX : ∀ i, i = X → ∀ k, (∀ r, W6.cell? ⟨i, k, none⟩ ≠ some (.bool r)) ∧ ∀ s, W6.cell? ⟨i, k, none⟩ ≠ some (.string s) := by
          rintro i rfl k
          rw [obj_cell ob6 k]
          match k with
          | 0 => exact ⟨by simp, by simp⟩
          | 1 => exact ⟨by simp, by simp⟩
          | 2 => exact ⟨by simp, by simp⟩
          | n + 3 => exact ⟨by simp, by simp⟩
        obtain ⟨i0f, hi0f, hz0f, hz1f, hz2f⟩ := info_of fillIF
        have hRne : ¬ w.heap.size = X := by omega
        have hXW := obj_lt ob6
        obtain ⟨base, hbase⟩ : ∃ base, W6.heap.size = base := ⟨_, rfl⟩
        obtain ⟨WL, hWL⟩ : ∃ WL : List Rec, [⟨⟨#[112, 108, 97, 116, 101]⟩, a / 6 % 3 + 1, b / 6 % 4 + 2, c % 4 * 500, la⟩, ⟨⟨#[116, 117, 98, 101]⟩, 1, c / 4 % 3 + 2, d % 3 * 300, lb⟩] = WL := ⟨_, rfl⟩
        have hF0 := HF.out
        rw [hWL] at wr4 hbW hF0 WO0
        replace hWL := Lib.hid hWL
        obtain ⟨wsv, hwsv⟩ : ∃ wsv : Value, .slice (some ⟨Wb, 0, none⟩) 2 2 = wsv := ⟨_, rfl⟩
        obtain ⟨tsv, htsv⟩ : ∃ tsv : Value, .slice (some ⟨g2, 0, none⟩) 2 cp2 = tsv := ⟨_, rfl⟩
        rw [hwsv] at wr4 WO0
        rw [htsv] at tpT TO0
        have ob9 : W6.heap[X]? = some (.cells #[wsv, tsv, .slice none 0 0] 26 (0, 0)) := by rw [← hwsv, ← htsv]; exact ob6
        have HO := Lib.hid (And.intro WO0 (And.intro TO0 ob9))
        have hbb : w.heap.size ≤ base := by rw [← hbase]; exact b04.below.size
        clear hwsv htsv ob6 HF HTL WO0 TO0
        go_wp2_with fail
        go_loopw [12] (fun iv wr => ∃ (i : Nat) (fv : Value) (fs : List Fl), i ≤ ll.length ∧ iv = .int .i64 i ∧ G (fun k => k = X) W6 wr ∧ wr.heap[X]? = some (.cells #[wsv, tsv, fv] 26 (0, 0)) ∧ wr.ownsRow base 41 4 fv fs.length (flatF fs) ∧ fs ++ fillsF WL i (ll.drop i) = FF ∧ fs.length ≤ i) (fun iv _ => ll.length + 1 - (intOf iv).toNat)
        case atStart => exact ⟨0, .slice none 0 0, [], Nat.zero_le _, rfl, G.refl _ _, ob9, World.ownsRow_nil _ _ _ _, hF0, Nat.zero_le _⟩
        case round =>
          obtain ⟨i, fv, fs, hi, rfl, hG, oX, hown, hF, hfi⟩ := hrel
          clear hF0 ob9
          have bwr : B w wr := hG.b b04 (fun k hk => by omega)
          have oRr := hG.obj (b := w.heap.size) hRne obR4
          have hDk : IsDk wr wsv tsv fv ⟨WL, TL, fs⟩ := ⟨isRecs_keepG wr4 hnoX hG, isRecs_keepG tpT hnoX hG, isFls_own hown⟩
          have y0 : wr.cell? ⟨X, 0, none⟩ = some wsv := obj_cell oX 0
          have y1 : wr.cell? ⟨X, 1, none⟩ = some tsv := obj_cell oX 1
          have y2 : wr.cell? ⟨X, 2, none⟩ = some fv := obj_cell oX 2
          by_cases hl : i < ll.length
          · have hlB : decide ((i : Int) < (ll.length : Int)) = true := decide_eq_true (by omega)
            have hlN : decide (i < ll.length) = true := decide_eq_true hl
            have hlI : (i : Int) < (ll.length : Int) := by omega
            have hi0 : (0 : Int) ≤ (i : Int) := by omega
            have wk1 : IntKind.i64.wrap ((i : Int) + 1) = (i : Int) + 1 := by rw [IntKind.wrap_i64]; omega
            obtain ⟨x, hx⟩ : ∃ x, ll[i] = x := ⟨_, rfl⟩
            have hxe : ll[i]? = some x := by rw [List.getElem?_eq_getElem hl, hx]
            obtain ⟨hx32, lb, lo', hla, hcx⟩ := hU i x hxe
            subst hla
            have hcr := bwr.keep hcx
            have hdrop : ll.drop i = x :: ll.drop (i + 1) := by rw [List.drop_eq_getElem_cons hl, hx]
            rw [hdrop] at hF
            unfold fillsF at hF
            have cAt := r8at_any wsv tsv fv ⟨WL, TL, fs⟩ (i : Int) (by unfold I64; omega) wr hDk hbW
            clear hx hxe hdrop hcx
            simp only at cAt
            cases hat : atW WL (i : Int) with
            | none =>
              rw [hat] at cAt hF
              unfold wellV at cAt
              simp only [Option.isSome_none] at cAt
              go_wp2_with fail
              refine cAt.mono ?_
              rintro _ w5 ⟨rfl, q5⟩
              clear cAt
              have q6 := q5.alloc #[.string ⟨#[]⟩, .int .i64 0, .int .i64 0] 39
              have HZ := Lib.hid (And.intro (hG.trans (q6.g _)) (And.intro (q6.obj oX) (And.intro (ownsRow_keepB hown q6) (And.intro hF (And.intro hfi hl)))))
              clear hG oX hown hF hfi hl hDk bwr oRr q5 q6
              go_wp2
              go_roundw
              case rel =>
                obtain ⟨h1, h2, h3, h4, h5, h6⟩ := HZ.out
                exact ⟨i + 1, fv, fs, by omega, by go_num, h1, h2, h3, h4, by omega⟩
              case measure => have := HZ.out; simp [intOf]; omega
            | some nrc =>
              obtain ⟨n, r, cc⟩ := nrc
              rw [hat] at cAt hF
              dsimp only at hF
              unfold wellV at cAt
              simp only [Option.isSome_some] at cAt
              obtain ⟨r6, hr6⟩ : ∃ r6 : Nat, x % 6 = r6 := ⟨_, rfl⟩
              have rm6 : (x : Int).tmod 6 = (r6 : Int) := by rw [Int.tmod_eq_emod_of_nonneg (by omega)]; omega
              by_cases hz : r6 = 0
              · have hrB : decide ((0 : Int) < (r6 : Int)) = false := decide_eq_false (by omega)
                have hrN : decide (0 < r6) = false := decide_eq_false (by omega)
                rw [hr6, if_neg (by omega)] at hF
                clear hr6 hz
                go_wp2_with fail
                refine cAt.mono ?_
                rintro _ w5 ⟨rfl, q5⟩
                clear cAt
                have q6 := q5.alloc #[.string n, .int .i64 r, .int .i64 cc] 39
                have hcx6 := q6.keep hcr
                have hcx5 := q5.keep hcr
                have HZ := Lib.hid (And.intro (hG.trans (q6.g _)) (And.intro (q6.obj oX) (And.intro (ownsRow_keepB hown q6) (And.intro hF (And.intro hfi hl)))))
                clear hG oX hown hF hfi hl hDk bwr oRr q5 q6
                go_wp2
                go_roundw
                case rel =>
                  obtain ⟨h1, h2, h3, h4, h5, h6⟩ := HZ.out
                  exact ⟨i + 1, fv, fs, by omega, by go_num, h1, h2, h3, h4, by omega⟩
                case measure => have := HZ.out; simp [intOf]; omega
              · have hrB : decide ((0 : Int) < (r6 : Int)) = true := decide_eq_true (by omega)
                have hrN : decide (0 < r6) = true := decide_eq_true (by omega)
                rw [hr6, if_pos (by omega)] at hF
                obtain ⟨dq, hdq⟩ : ∃ dq : Nat, x / 6 = dq := ⟨_, rfl⟩
                obtain ⟨dm, hdm⟩ : ∃ dm : Nat, dq % 200000 = dm := ⟨_, rfl⟩
                rw [hdq, hdm] at hF
                have n1 : IntKind.u32.wrap ((x : Int).tdiv 6) = (dq : Int) := by rw [Int.tdiv_eq_ediv_of_nonneg (by omega), IntKind.wrap_u32]; omega
                have n1' : IntKind.u32.wrap ((x : Int) / 6) = (dq : Int) := by rw [IntKind.wrap_u32]; omega
                have n2 : (dq : Int).tmod 200000 = (dm : Int) := by rw [Int.tmod_eq_emod_of_nonneg (by omega)]; omega
                have n3 : IntKind.i64.wrap (dm : Int) = (dm : Int) := by rw [IntKind.wrap_i64]; omega
                obtain ⟨VV, hVV⟩ : ∃ VV : Int, 60000 + (dm : Int) = VV := ⟨_, rfl⟩
                have n4 : IntKind.i64.wrap (60000 + (dm : Int)) = VV := by rw [IntKind.wrap_i64]; omega
                rw [hVV] at hF
                clear hr6 hz hdq hdm hVV
                go_wp2_with fail
                refine cAt.mono ?_
                rintro _ w5 ⟨rfl, q5⟩
                clear cAt
                have q6 := q5.alloc #[.string n, .int .i64 r, .int .i64 cc] 39
                have oN := obj_new w5 (.cells #[.string n, .int .i64 r, .int .i64 cc] 39)
                have hcx6 := q6.keep hcr
                have hcx5 := q5.keep hcr
                have hG6 := hG.trans (q6.g _)
                have oX6 := q6.obj oX
                have own6 := ownsRow_keepB hown q6
                have HZ := Lib.hid (And.intro hG6 (And.intro oX6 (And.intro own6 (And.intro hF (And.intro hfi (And.intro hl oN))))))
                clear hG6 oX6 own6 oN hG oX hown hF hDk bwr oRr q5 q6 y0 y1 y2
                go_wp2_with fail
                obtain ⟨hG6, oX6, own6, hF, hfi, hl, oN⟩ := HZ.out
                clear HZ hcx5 hcr
                generalize w5.alloc (.cells #[.string n, .int .i64 r, .int .i64 cc] 39) = w6 at *
                generalize w5.heap.size = N at *
                have qA : B w6 (w6.drew.alloc (.cells #[.string n, .int .i64 r, .int .i64 cc, .int .i64 VV] 41)) := (B.refl w6).drew.alloc _ _
                have hownA := ownsRow_keepB own6 qA
                have hbaseA : base ≤ (w6.drew.alloc (.cells #[.string n, .int .i64 r, .int .i64 cc, .int .i64 VV] 41)).heap.size := by rw [← hbase]; exact (hG6.trans (qA.g _)).size
                have s0 : w6.drew.cell? ⟨X, 2, none⟩ = some fv := obj_cell (w := w6.drew) oX6 2
                have s1 : w6.drew.cell? ⟨N, 0, none⟩ = some (.string n) := obj_cell (w := w6.drew) oN 0
                have s2 : w6.drew.cell? ⟨N, 1, none⟩ = some (.int .i64 r) := obj_cell (w := w6.drew) oN 1
                have s3 : w6.drew.cell? ⟨N, 2, none⟩ = some (.int .i64 cc) := obj_cell (w := w6.drew) oN 2
                have s4 : w6.drew.cell? ⟨lb, lo' + i, none⟩ = some (.int .u32 (x : Int)) := hcx6
                have HX := Lib.hid (And.intro hG6 (And.intro own6 (And.intro hF hl)))
                clear hG6 own6 hF hl
                refine wp_region_noPanic ?_
                refine wp_region_gate (S := fun w' => w'.cell? ⟨X, 2, none⟩ = some fv ∧ w'.cell? ⟨N, 0, none⟩ = some (.string n) ∧ w'.cell? ⟨N, 1, none⟩ = some (.int .i64 r) ∧ w'.cell? ⟨N, 2, none⟩ = some (.int .i64 cc) ∧ w'.cell? ⟨lb, lo' + i, none⟩ = some (.int .u32 (x : Int))) 13 [(0, 3), (1, 0), (2, 0), (3, 3), (4, 3), (5, 3), (6, 0), (7, 3), (8, 3), (9, 3), (10, 3), (11, 3), (12, 2), (13, 4), (14, 3), (15, 4)] [0, 1, 0, 0, 0, 24, 32, 64, 128, 256, 512, 1028, 2048, 4098, 16383, 32767] [0, 1, 0, 0, 0, 24, 32, 64, 128, 256, 512, 1028, 2048, 4098, 0, 24576] [0, 57346, 63492, 0, 0, 0, 65472, 0, 0, 0, 0, 0, 0, 0, 0, 0] (by kernel_rfl) (by kernel_rfl) (fun _ _ _ _ _ h => h) ?_ (fun hH => ?_)
                · exact ⟨s0, s1, s2, s3, s4⟩
                refine wpSeqG_free (d := 105) (v := ?_) rfl rfl (by kernel_rfl) (fun w => ?_) ?_
                rotate_left
                · go_simp <;> with_reducible rfl
                dsimp only [List.set_cons_zero, List.set_cons_succ]
                refine wpSeqG_take (d := 106) (v := ?_) rfl rfl (by kernel_rfl) (fun w hS => ?_) ?_
                rotate_left
                · go_simp <;> with_reducible rfl
                dsimp only [List.set_cons_zero, List.set_cons_succ]
                refine wpSeqG_take (d := 107) (v := ?_) rfl rfl (by kernel_rfl) (fun w hS => ?_) ?_
                rotate_left
                · go_simp <;> with_reducible rfl
                dsimp only [List.set_cons_zero, List.set_cons_succ]
                refine wpSeqG_free (d := 108) (v := ?_) rfl rfl (by kernel_rfl) (fun w => ?_) ?_
                rotate_left
                · go_simp <;> with_reducible rfl
                dsimp only [List.set_cons_zero, List.set_cons_succ]
                refine wpSeqG_free (d := 109) (v := ?_) rfl rfl (by kernel_rfl) (fun w => ?_) ?_
                rotate_left
                · go_simp <;> with_reducible rfl
                dsimp only [List.set_cons_zero, List.set_cons_succ]
                refine wpSeqG_free (d := 110) (v := ?_) rfl rfl (by kernel_rfl) (fun w => ?_) ?_
                rotate_left
                · go_simp <;> with_reducible rfl
                dsimp only [List.set_cons_zero, List.set_cons_succ]
                refine wpSeqG_take (d := 111) (v := ?_) rfl rfl (by kernel_rfl) (fun w hS => ?_) ?_
                rotate_left
                · go_simp <;> with_reducible rfl
                dsimp only [List.set_cons_zero, List.set_cons_succ]
                refine wpSeqG_free (d := 112) (v := ?_) rfl rfl (by kernel_rfl) (fun w => ?_) ?_
                rotate_left
                · go_simp <;> with_reducible rfl
                dsimp only [List.set_cons_zero, List.set_cons_succ]
                refine wpSeqG_free (d := 113) (v := ?_) rfl rfl (by kernel_rfl) (fun w => ?_) ?_
                rotate_left
                · go_simp <;> with_reducible rfl
                dsimp only [List.set_cons_zero, List.set_cons_succ]
                refine wpSeqG_free (d := 114) (v := ?_) rfl rfl (by kernel_rfl) (fun w => ?_) ?_
                rotate_left
                · go_simp <;> with_reducible rfl
                dsimp only [List.set_cons_zero, List.set_cons_succ]
                refine wpSeqG_free (d := 115) (v := ?_) rfl rfl (by kernel_rfl) (fun w => ?_) ?_
                rotate_left
                · go_simp <;> with_reducible rfl
                dsimp only [List.set_cons_zero, List.set_cons_succ]
                refine wpSeqG_free (d := 116) (v := ?_) rfl rfl (by kernel_rfl) (fun w => ?_) ?_
                rotate_left
                · go_simp <;> with_reducible rfl
                dsimp only [List.set_cons_zero, List.set_cons_succ]
                refine wpSeqG_call rfl (by kernel_rfl) (fun K hK => ?_)
                go_simp
                refine hK.out _ _ ?_ (fun hH => ?_)
                · exact ⟨((B.refl _).alloc _ _).keep hH.1, ((B.refl _).alloc _ _).keep hH.2.1, ((B.refl _).alloc _ _).keep hH.2.2.1, ((B.refl _).alloc _ _).keep hH.2.2.2.1, ((B.refl _).alloc _ _).keep hH.2.2.2.2⟩
                clear hK
                refine wpSeqG_gate rfl (by kernel_rfl) (fun K hK => ?_)
                refine wp_append_lies _ _ _ 24 rfl base 41 i0f (.agg #[.string ⟨#[]⟩, .int .i64 0, .int .i64 0, .int .i64 0]) 4 40 (by kernel_rfl) hi0f hz0f hz1f hz2f rfl (by omega) _ _ _ rfl hownA ⟨w6.heap.size, 0, none⟩ 1 1 [.string n, .int .i64 r, .int .i64 cc, .int .i64 VV] rfl rfl (news_plain rfl) (by intro u hu; simp only [List.mem_cons, List.not_mem_nil, or_false] at hu; rcases hu with rfl | rfl | rfl | rfl <;> rfl) (by omega) (by unfold maxLen; omega) (by omega) hbaseA _ rfl ?_
                intro gN cN w9 hownN hgrowN hatN hltN
                have oX9 := obj_grown hgrowN (qA.obj oX6) (farF (qA.obj oX6) hownA (by decide))
                have yX : w9.cell? ⟨X, 2, none⟩ = some fv := obj_cell oX9 2
                have yF := obj_free oX9 2
                try simp only [Act.put, List.setIfInBounds_toArray, List.set_cons_zero, List.set_cons_succ]
                refine hK.out _ _ ?_
                clear hK
                refine wpSeqG_free (d := 119) (v := ?_) rfl rfl (by kernel_rfl) (fun w => ?_) ?_
                rotate_left
                · go_simp <;> with_reducible rfl
                dsimp only [List.set_cons_zero, List.set_cons_succ]
                refine wpSeqG_gate rfl (by kernel_rfl) (fun K hK => ?_)
                go_simp
                refine hK.out _ _ ?_
                clear hK
                refine wpSeqG_done ?_
                refine NoPanic.normal ?_
                all_goals
                  obtain ⟨hG6, own6, hF, hl⟩ := HX.out
                  have rowsX : fv.ownBlock ≠ some X := farF (qA.obj oX6) hownA (by decide)
                  have hG9 : G (fun k => k = X) W6 w9 := (hG6.trans (qA.g _)).grown hgrowN (fun k hk => by
                    have := (ownsRow_obj hownA hk).1
                    right
                    omega)
                  have hG10 := hG9.setCell (p := ⟨X, 2, none⟩) (.inl rfl) (.slice (some ⟨gN, 0, none⟩) (fs.length + 1) cN)
                  have oX10 : (w9.setCell ⟨X, 2, none⟩ (.slice (some ⟨gN, 0, none⟩) (fs.length + 1) cN)).heap[X]? = some (.cells #[wsv, tsv, .slice (some ⟨gN, 0, none⟩) (fs.length + 1) cN] 26 (0, 0)) := by simpa using obj_set oX9 2 (.slice (some ⟨gN, 0, none⟩) (fs.length + 1) cN)
                  have own10 : (w9.setCell ⟨X, 2, none⟩ (.slice (some ⟨gN, 0, none⟩) (fs.length + 1) cN)).ownsRow base 41 4 (.slice (some ⟨gN, 0, none⟩) (fs.length + 1) cN) (fs ++ [(⟨n, r, cc, VV⟩ : Fl)]).length (flatF (fs ++ [(⟨n, r, cc, VV⟩ : Fl)])) := by
                    rw [flatF_snoc, List.length_append]
                    exact ownsRow_setCell_other hownN (a := ⟨X, 2, none⟩) (fun e => farF oX9 hownN (by decide) e) (.slice (some ⟨gN, 0, none⟩) (fs.length + 1) cN)
                  have hF10 : (fs ++ [(⟨n, r, cc, VV⟩ : Fl)]) ++ fillsF WL (i + 1) (ll.drop (i + 1)) = FF := by rw [List.append_assoc]; exact hF
                  have HZ := Lib.hid (And.intro hG10 (And.intro oX10 (And.intro own10 (And.intro hF10 (And.intro hfi hl)))))
                  clear hG9 hG10 oX10 own10 hF10 hF hl hG6 own6 HX rowsX oX9 yX yF hownN hgrowN hatN hltN hownA hbaseA qA oX6 oN hcx6 s0 s1 s2 s3 s4 hH
                  generalize w9.setCell ⟨X, 2, none⟩ (.slice (some ⟨gN, 0, none⟩) (fs.length + 1) cN) = w10 at *
                  go_wp2
                  go_roundw
                  case rel =>
                    obtain ⟨h1, h2, h3, h4, h5, h6⟩ := HZ.out
                    exact ⟨i + 1, _, _, by omega, by go_num, h1, h2, h3, h4, by simp; omega⟩
                  case measure => have := HZ.out; simp [intOf]; omega
          · have hlB : decide ((i : Int) < (ll.length : Int)) = false := decide_eq_false (by omega)
            have hlN : decide (i < ll.length) = false := decide_eq_false hl
            rw [List.drop_eq_nil_of_le (by omega)] at hF
            unfold fillsF at hF
            rw [List.append_nil] at hF
            subst hF
            obtain ⟨a0, p0, z0⟩ := hDk.ws.form
            obtain ⟨a1, p1, z1⟩ := hDk.ts.form
            obtain ⟨a2, p2, z2⟩ := hDk.fs.form
            subst z0 z1 z2
            have r0 : wr.cell? ⟨w.heap.size, 0, none⟩ = some (.slice none 0 0) := obj_cell oRr 0
            have r1 : wr.cell? ⟨w.heap.size, 1, none⟩ = some (.slice none 0 0) := obj_cell oRr 1
            have r2 : wr.cell? ⟨w.heap.size, 2, none⟩ = some (.slice none 0 0) := obj_cell oRr 2
            have e0 := obj_free oRr 0
            have e1 := obj_free oRr 1
            have e2 := obj_free oRr 2
            have oE := obj_three oRr (.slice a0 WL.length p0) (.slice a1 TL.length p1) (.slice a2 fs.length p2)
            have hqF := b_three bwr (Nat.le_refl _) (.slice a0 WL.length p0) (.slice a1 TL.length p1) (.slice a2 fs.length p2)
            have hnoR : ∀ i, i = w.heap.size → ∀ k, (∀ r, wr.cell? ⟨i, k, none⟩ ≠ some (.bool r)) ∧ ∀ s, wr.cell? ⟨i, k, none⟩ ≠ some (.string s) := by
              rintro i rfl k
              rw [obj_cell oRr k]
              match k with
              | 0 => exact ⟨by simp, by simp⟩
              | 1 => exact ⟨by simp, by simp⟩
              | 2 => exact ⟨by simp, by simp⟩
              | n + 3 => exact ⟨by simp, by simp⟩
            have g5 := g_three wr w.heap.size (.slice a0 WL.length p0) (.slice a1 TL.length p1) (.slice a2 fs.length p2)
            have hown5 := hown.kept (w' := ((wr.setCell ⟨w.heap.size, 0, none⟩ (.slice a0 WL.length p0)).setCell ⟨w.heap.size, 1, none⟩ (.slice a1 TL.length p1)).setCell ⟨w.heap.size, 2, none⟩ (.slice a2 fs.length p2)) (row := some w.heap.size) ⟨g5.os, g5.tape, g5.output, g5.size, fun k hk he => g5.block k hk (fun e => he (by rw [e]))⟩ (.inr (farF oRr hown (by decide)))
            have hDF : IsDk (((wr.setCell ⟨w.heap.size, 0, none⟩ (.slice a0 WL.length p0)).setCell ⟨w.heap.size, 1, none⟩ (.slice a1 TL.length p1)).setCell ⟨w.heap.size, 2, none⟩ (.slice a2 fs.length p2)) (.slice a0 WL.length p0) (.slice a1 TL.length p1) (.slice a2 fs.length p2) ⟨WL, TL, fs⟩ := ⟨isRecs_keepG hDk.ws hnoR g5, isRecs_keepG hDk.ts hnoR g5, isFls_own hown5⟩
            obtain ⟨WO9, ⟨tt, TO9⟩, ob9⟩ := HO.out
            have hTW : ∀ {e size m : Nat} {v : Value} {xs : List Value} {K : Nat}, e ≠ 26 → W6.ownsRow K e size v m xs → (((wr.setCell ⟨w.heap.size, 0, none⟩ (.slice a0 WL.length p0)).setCell ⟨w.heap.size, 1, none⟩ (.slice a1 TL.length p1)).setCell ⟨w.heap.size, 2, none⟩ (.slice a2 fs.length p2)).ownsRow K e size v m xs := fun he h => own_objG (own_objG h ob9 (fun e => he e.symm) hG) oRr (fun e => he e.symm) g5
            have hOwn : OwnD (((wr.setCell ⟨w.heap.size, 0, none⟩ (.slice a0 WL.length p0)).setCell ⟨w.heap.size, 1, none⟩ (.slice a1 TL.length p1)).setCell ⟨w.heap.size, 2, none⟩ (.slice a2 fs.length p2)) w.heap.size (.slice a0 WL.length p0) (.slice a1 TL.length p1) (.slice a2 fs.length p2) ⟨WL, TL, fs⟩ _ tt :=
              ⟨hTW (by decide) WO9.1, hTW (by decide) TO9.1, own_low hown5 hbb, WO9.2.1, TO9.2.1, fun i r v h1 h2 => hTW (by decide) (WO9.2.2 i r v h1 h2).own, fun i r v h1 h2 => hTW (by decide) (TO9.2.2 i r v h1 h2).own, fun r hr => by
                obtain ⟨i, hi, e⟩ := List.getElem_of_mem hr
                exact (WO9.2.2 i r _ (by rw [List.getElem?_eq_getElem hi, e]) (List.getElem?_eq_getElem (by rw [WO9.2.1]; exact hi))).I, fun r hr => by
                obtain ⟨i, hi, e⟩ := List.getElem_of_mem hr
                exact (TO9.2.2 i r _ (by rw [List.getElem?_eq_getElem hi, e]) (List.getElem?_eq_getElem (by rw [TO9.2.1]; exact hi))).I⟩
            have HZ := Lib.hid (And.intro oE (And.intro hqF hOwn))
            clear oE hqF hOwn hDF hTW WO9 TO9 ob9 HO hown5 g5 hnoR hDk hown oRr bwr hG oX wr4 tpT obR4 b04 hnoX hbW hU
            go_wp2
            obtain ⟨oE, hqF, hDF⟩ := HZ.out
            have c0 := obj_cell oE 0
            have c1 := obj_cell oE 1
            have c2 := obj_cell oE 2
            refine bodyPost_ret (v := .agg #[(.slice a0 WL.length p0), (.slice a1 TL.length p1), (.slice a2 fs.length p2)]) (by simp [results, Tryz.results11, go_sem, c0, c1, c2]) rfl ⟨_, _, _, rfl, ⟨_, _, by rw [hWL.out]; exact hDF⟩, hqF⟩
end Go.Proofs.YtalnfojaccfcjaaGreatDoor
namespace Go.Proofs.YtalnfojaccfcjaaGreatDoor
open Go.RowKit

theorem indexC_some : ∀ (ws : List Wr) (K : Int) (n : ByteArray) (r c : Int), (∃ w ∈ ws, hasB w.n w.x w.y n r c = true) → ∃ k, indexC ws K n r c = some k
  | [], _, _, _, _, h => by obtain ⟨w, h, _⟩ := h; cases h
  | w :: ws, K, n, r, c, h => by
    rw [indexC]
    by_cases hb : hasB w.n w.x w.y n r c = true
    · rw [if_pos hb]
      exact ⟨_, rfl⟩
    · rw [if_neg hb]
      obtain ⟨v, hv, e⟩ := h
      rcases List.mem_cons.1 hv with rfl | hv
      · exact absurd e hb
      · exact indexC_some ws _ n r c ⟨v, hv, e⟩
theorem name_one {ok : Wr → Bool} {ws : List Wr} (hA : apartW ok ws = true) {i j : Nat} {a b : Wr} (ha : ws[i]? = some a) (hb : ws[j]? = some b) (h : a.n = b.n) : a = b := by
  have key : ∀ {i j : Nat} {a b : Wr}, ws[i]? = some a → ws[j]? = some b → i < j → a.n ≠ b.n := fun {i j a b} ha hb hij he => by
    have hap := (apart_at hA hb).2
    unfold namedW at hap
    rw [List.any_eq_false] at hap
    have := hap a (List.mem_of_getElem? (show (ws.take j)[i]? = some a by rw [List.getElem?_take, if_pos hij]; exact ha))
    rw [he] at this
    simp at this
  rcases Nat.lt_trichotomy i j with hij | hij | hij
  · exact absurd h (key ha hb hij)
  · subst hij
    exact Option.some.inj (ha.symm.trans hb)
  · exact absurd h.symm (key hb ha hij)
end Go.Proofs.YtalnfojaccfcjaaGreatDoor
namespace Go.Proofs.YtalnfojaccfcjaaGreatDoor
open Go.RowKit
set_option linter.unusedVariables false

theorem IsU32s.keepB {w w' : World} {v : Value} {l : List Nat} (h : IsU32s w v l) (q : B w w') : IsU32s w' v l := by
  obtain ⟨ao, cap, h1, h2, h3⟩ := h
  exact ⟨ao, cap, h1, h2, fun i x hx => by
    obtain ⟨h4, b, o, h5, h6⟩ := h3 i x hx
    exact ⟨h4, b, o, h5, q.keep h6⟩⟩
/-- A row that the call owns, at its head. -/
theorem own_head {w : World} {base e size n : Nat} {o : Option Addr} {c : Nat} {xs : List Value} (h : w.ownsRow base e size (.slice o n c) n xs) (hn : 0 < n) : ∃ g, o = some ⟨g, 0, none⟩ ∧ base ≤ g ∧ g < w.heap.size := by
  obtain ⟨g, cap, e1, h1, h2⟩ := h.form hn
  simp only [Value.slice.injEq, true_and] at e1
  exact ⟨g, e1.1, h1, h2⟩
theorem own_obj {w : World} {base e size n c g : Nat} {xs : List Value} (h : w.ownsRow base e size (.slice (some ⟨g, 0, none⟩) n c) n xs) : ∃ cs, w.heap[g]? = some (.cells cs e (0, 0)) := (ownsRow_obj h rfl).2
theorem obj_ne {w : World} {a b : Nat} {x y : Array Value} {s t : TypeId} (ha : w.heap[a]? = some (.cells x s (0, 0))) (hb : w.heap[b]? = some (.cells y t (0, 0))) (h : s ≠ t) : a ≠ b := fun e => by
  subst e
  rw [ha] at hb
  simp only [Option.some.injEq, Obj.cells.injEq] at hb
  exact h hb.2.1
set_option maxRecDepth 100000 in
set_option maxHeartbeats 8000000 in
theorem own11_law (a b c d : Int) (lv : Value) (ll : List Nat) (ha : (Lit.int .u8 a).wf = true) (hb : (Lit.int .u8 b).wf = true) (hc : (Lit.int .u8 c).wf = true) (hd : (Lit.int .u8 d).wf = true) (w : World) (hU : IsU32s w lv ll) (hp : Pow10 w) :
    Calls Tryz.prog 8 #[.int .u8 a, .int .u8 b, .int .u8 c, .int .u8 d, lv] w fun e w' => e = .returned (.bool true) ∧ B w w' := by
  have cK := known11_any w hp
  replace ha := u8_wf ha
  replace hb := u8_wf hb
  replace hc := u8_wf hc
  replace hd := u8_wf hd
  obtain ⟨mL, hmL⟩ : ∃ mL, ll.length = mL := ⟨_, rfl⟩
  have hUf := hU
  obtain ⟨lo, lc, rfl, hmax, _⟩ := hUf
  have hnot : ∀ (x : Bool) (w : World), (Op.unary .not (.bool x)).run Tryz.prog w = .ok (.bool (!x)) w := fun _ _ => rfl
  rw [hmL] at hU hmax ⊢
  go_enter Tryz.func8, Tryz.ntmps8
  go_wp2_with fail
  refine cK.mono ?_
  rintro e w0 ⟨rfl, b0⟩
  clear cK
  by_cases h20 : 20 < mL
  · have t : decide ((20 : Int) < (mL : Int)) = true := decide_eq_true (by omega)
    have t' : decide (20 < mL) = true := decide_eq_true h20
    clear hU
    go_wp2
    go_ret
    exact ⟨rfl, b0⟩
  have t : decide ((20 : Int) < (mL : Int)) = false := decide_eq_false (by omega)
  have t' : decide (20 < mL) = false := decide_eq_false h20
  have hcO := fun w' (q : IsU32s w' (.slice lo mL lc) ll) => deck_own a b c d (.slice lo mL lc) ll (by omega) ha hb hc hd w' q
  have hcD := fun w' (q : IsU32s w' (.slice lo mL lc) ll) => deck_any a b c d (.slice lo mL lc) ll (by omega) ha hb hc hd w' q
  have hR := seat_right ha hb hc hd ll
  have hfl : (seatD a b c d ll).fs.length < 1000 := by have := fillsF_len (wares7 a b c d) ll 0; simp only [seatD]; omega
  obtain ⟨r0, hr0, hr0n⟩ : ∃ r0, (seatD a b c d ll).ws[0]? = some r0 ∧ r0.n = namePlate := ⟨_, rfl, rfl⟩
  obtain ⟨r1, hr1⟩ : ∃ r1, (seatD a b c d ll).ws[1]? = some r1 := ⟨_, rfl⟩
  obtain ⟨t0, ht0, ht0n, ht0x⟩ : ∃ t0, (seatD a b c d ll).ts[0]? = some t0 ∧ t0.n = nameT1 ∧ 1 < t0.x := ⟨_, rfl, rfl, by
    show 1 < cap7 c
    unfold cap7
    repeat' split
    all_goals omega⟩
  generalize seatD a b c d ll = D at *
  go_wp2_with fail
  refine (hcO _ (hU.keepB b0)).mono ?_
  rintro e w1 ⟨xw, xt, xf, xs, xtt, rfl, hO, q1⟩
  obtain ⟨xao, xac, xbo, xbc, xco, xcc, rfl, rfl, rfl⟩ := hO.dk.forms
  have q1b : B w1 (w1.alloc (.cells #[.slice xao D.ws.length xac, .slice xbo D.ts.length xbc, .slice xco D.fs.length xcc] 26)) := (B.refl _).alloc _ _
  have oX := obj_new w1 (.cells #[.slice xao D.ws.length xac, .slice xbo D.ts.length xbc, .slice xco D.fs.length xcc] 26)
  have hOb := hO.on (fun i _ h2 => q1b.below.block i h2)
  have b1 := (b0.trans q1).trans q1b
  have hb0 := b0.below.size
  clear hcO hO q1 b0 t t' q1b
  obtain ⟨nW, hnWe⟩ : ∃ nW, D.ws.length = nW := ⟨_, rfl⟩
  obtain ⟨nT, hnTe⟩ : ∃ nT, D.ts.length = nT := ⟨_, rfl⟩
  obtain ⟨nF, hnFe⟩ : ∃ nF, D.fs.length = nF := ⟨_, rfl⟩
  rw [hnWe, hnTe, hnFe] at oX hOb b1 ⊢
  have hnW : 1 < nW := by have := (List.getElem?_eq_some_iff.1 hr1).1; omega
  have hnT : 0 < nT := by have := (List.getElem?_eq_some_iff.1 ht0).1; omega
  obtain ⟨p8, p4, pW, pT⟩ := right_parts9 hR
  rw [hnWe] at p8
  rw [hnTe] at p4
  go_wp2_with fail
  have cN := dnew_right _ _ _ D _ hOb.dk hR hfl
  generalize w1.alloc (.cells #[.slice xao nW xac, .slice xbo nT xbc, .slice xco nF xcc] 26) = w1b at *
  generalize w1.heap.size = Xb at *
  refine cN.mono ?_
  rintro e w2 ⟨P, X0, rfl, hPd, hM2, hlo2, htop2, q2⟩
  clear cN
  have hOx := hOb.on (fun i _ h2 => q2.below.block i h2)
  have oX2 := q2.obj oX
  have b2 := b1.trans q2
  have hX1b := obj_lt oX
  -- the rows of x
  have hw2 := hOx.ws
  have ht2 := hOx.ts
  rw [hnWe] at hw2
  rw [hnTe] at ht2
  obtain ⟨gW, rfl, hgW1, _⟩ := own_head hw2 (by omega)
  obtain ⟨gT, rfl, hgT1, _⟩ := own_head ht2 hnT
  have hgW2 : gW < w1b.heap.size := by have := hOb.ws; rw [hnWe] at this; exact (this.lt gW rfl).2
  have hgT2 : gT < w1b.heap.size := by have := hOb.ts; rw [hnTe] at this; exact (this.lt gT rfl).2
  obtain ⟨v0, hv0⟩ : ∃ v, xs[0]? = some v := ⟨_, List.getElem?_eq_getElem (by have := hOx.sl; omega)⟩
  obtain ⟨v1, hv1⟩ : ∃ v, xs[1]? = some v := ⟨_, List.getElem?_eq_getElem (by have := hOx.sl; omega)⟩
  obtain ⟨vt, hvt⟩ : ∃ v, xtt[0]? = some v := ⟨_, List.getElem?_eq_getElem (by have := hOx.tl; omega)⟩
  have hs1 := hOx.sh 1 r1 v1 hr1 hv1
  have hs1b := hOb.sh 1 r1 v1 hr1 hv1
  have hl1 := (right_all (wareOk_right (apart_at pW hr1).1)).1
  obtain ⟨so, sc, rfl⟩ := ownsRow_form hs1
  obtain ⟨gS, rfl, hgS1, _⟩ := own_head hs1 (by omega)
  have hgS2 := (hs1b.lt gS rfl).2
  have yW := (hw2.cellAt 0 (by omega)).trans (flatR_get D.ws xs 0 0 r0 v0 hr0 hv0 (by omega))
  have yW9 := (hw2.cellAt 9 (by omega)).trans (flatR_get D.ws xs 1 4 r1 _ hr1 hv1 (by omega))
  have yT := (ht2.cellAt 1 (by omega)).trans (flatR_get D.ts xtt 0 1 t0 vt ht0 hvt (by omega))
  obtain ⟨sA, hsA⟩ : ∃ s, r1.l[0]? = some s := ⟨_, List.getElem?_eq_getElem (by omega)⟩
  have yS := (hs1.cellAt 1 (by omega)).trans (flat_get r1.l 0 1 sA hsA (by omega))
  obtain ⟨csW, ocW⟩ := own_obj hw2
  obtain ⟨csT, ocT⟩ := own_obj ht2
  obtain ⟨csS, ocS⟩ := own_obj hs1
  have n1 := obj_ne ocW ocS (by decide)
  have n2 := obj_ne ocW ocT (by decide)
  have n3 := obj_ne ocS ocT (by decide)
  have n4 := obj_ne oX2 ocW (by decide)
  have n5 := obj_ne oX2 ocS (by decide)
  have n6 := obj_ne oX2 ocT (by decide)
  have zW := obj_free ocW 0
  obtain ⟨cW, rfl⟩ : ∃ cW, cW = xac := ⟨_, rfl⟩
  obtain ⟨cT, rfl⟩ : ∃ cT, cT = xbc := ⟨_, rfl⟩
  obtain ⟨nS, hnS⟩ : ∃ nS, r1.l.length = nS := ⟨_, rfl⟩
  rw [hnS] at yW9 hl1
  have s0a : w2.drew.cell? ⟨Xb, 0, none⟩ = some (.slice (some ⟨gW, 0, none⟩) nW cW) := obj_cell (w := w2.drew) oX2 0
  have s0b : w2.drew.cell? ⟨Xb, 1, none⟩ = some (.slice (some ⟨gT, 0, none⟩) nT cT) := obj_cell (w := w2.drew) oX2 1
  have s0c : w2.drew.cell? ⟨gW, 9, none⟩ = some (.slice (some ⟨gS, 0, none⟩) nS sc) := yW9
  have yW' : w2.cell? ⟨gW, 0, none⟩ = some (.string r0.n) := yW
  have yT' : w2.cell? ⟨gT, 1, none⟩ = some (.int .i64 t0.x) := yT
  have yS' : w2.cell? ⟨gS, 1, none⟩ = some (.int .i64 sA.h) := yS
  obtain ⟨A1, hA1⟩ : ∃ A1, w2.setCell ⟨gW, 0, none⟩ (.string ⟨#[122, 122]⟩) = A1 := ⟨_, rfl⟩
  obtain ⟨A2, hA2⟩ : ∃ A2, A1.setCell ⟨gS, 1, none⟩ (.int .i64 100) = A2 := ⟨_, rfl⟩
  have o1X := obj_other oX2 (p := ⟨gW, 0, none⟩) n4 (.string ⟨#[122, 122]⟩)
  rw [hA1] at o1X
  have o1S := obj_other ocS (p := ⟨gW, 0, none⟩) (fun e => n1 e.symm) (.string ⟨#[122, 122]⟩)
  rw [hA1] at o1S
  have o1T := obj_other ocT (p := ⟨gW, 0, none⟩) (fun e => n2 e.symm) (.string ⟨#[122, 122]⟩)
  rw [hA1] at o1T
  have o2X := obj_other o1X (p := ⟨gS, 1, none⟩) n5 (.int .i64 100)
  rw [hA2] at o2X
  have o2T := obj_other o1T (p := ⟨gS, 1, none⟩) (fun e => n3 e.symm) (.int .i64 100)
  rw [hA2] at o2T
  have s1a : A1.drew.cell? ⟨Xb, 0, none⟩ = some (.slice (some ⟨gW, 0, none⟩) nW cW) := obj_cell (w := A1.drew) o1X 0
  have s1b : A1.drew.cell? ⟨Xb, 1, none⟩ = some (.slice (some ⟨gT, 0, none⟩) nT cT) := obj_cell (w := A1.drew) o1X 1
  have s1c0 : A1.cell? ⟨gW, 9, none⟩ = some (.slice (some ⟨gS, 0, none⟩) nS sc) := by rw [← hA1]; exact (World.cell?_setCell_other _ ⟨gW, 0, none⟩ ⟨gW, 9, none⟩ _ (by simp)).trans yW9
  have s1c : A1.drew.cell? ⟨gW, 9, none⟩ = some (.slice (some ⟨gS, 0, none⟩) nS sc) := s1c0
  have s2a : A2.drew.cell? ⟨Xb, 0, none⟩ = some (.slice (some ⟨gW, 0, none⟩) nW cW) := obj_cell (w := A2.drew) o2X 0
  have s2b : A2.drew.cell? ⟨Xb, 1, none⟩ = some (.slice (some ⟨gT, 0, none⟩) nT cT) := obj_cell (w := A2.drew) o2X 1
  have s2c : A2.drew.cell? ⟨gW, 9, none⟩ = some (.slice (some ⟨gS, 0, none⟩) nS sc) := by
    have : A2.cell? ⟨gW, 9, none⟩ = some (.slice (some ⟨gS, 0, none⟩) nS sc) := by rw [← hA2]; exact (World.cell?_setCell_other _ ⟨gS, 1, none⟩ ⟨gW, 9, none⟩ _ (by simp)).trans s1c0
    exact this
  have y1S : A1.cell? ⟨gS, 1, none⟩ = some (.int .i64 sA.h) := by rw [obj_cell o1S, ← obj_cell ocS 1]; exact yS'
  have z1S := obj_free o1S 1
  have y2T : A2.cell? ⟨gT, 1, none⟩ = some (.int .i64 t0.x) := by rw [obj_cell o2T, ← obj_cell ocT 1]; exact yT'
  have z2T := obj_free o2T 1
  have g3 : G (fun i => i = gW ∨ i = gS ∨ i = gT) w2 (A2.setCell ⟨gT, 1, none⟩ (.int .i64 1)).drew := by
    rw [← hA2, ← hA1]
    exact (G.setCell (S := fun i => i = gW ∨ i = gS ∨ i = gT) (p := ⟨gT, 1, none⟩) (G.setCell (S := fun i => i = gW ∨ i = gS ∨ i = gT) (p := ⟨gS, 1, none⟩) (G.setCell (S := fun i => i = gW ∨ i = gS ∨ i = gT) (p := ⟨gW, 0, none⟩) (G.refl _ _) (.inl (.inl rfl)) _) (.inl (.inr (.inl rfl))) _) (.inl (.inr (.inr rfl))) _).drew
  have hM3 := hM2.keepG g3 (fun i hi => by rcases hi with rfl | rfl | rfl <;> omega)
  have b3 := g3.b b2 (fun i hi => by rcases hi with rfl | rfl | rfl <;> omega)
  have HM3 := Lib.hid (And.intro hM3 b3)
  have hlow := hM3.low
  have hnW0 : (0 : Int) < (nW : Int) := by omega
  have hnW1 : (1 : Int) < (nW : Int) := by omega
  have hnT0 : (0 : Int) < (nT : Int) := by omega
  have hnWn : 0 < nW := by omega
  have hnSn : 0 < nS := by omega
  have hnS0 : (0 : Int) < (nS : Int) := by omega
  have n1' : ¬ gS = gW := fun e => n1 e.symm
  have n2' : ¬ gT = gW := fun e => n2 e.symm
  have n3' : ¬ gT = gS := fun e => n3 e.symm
  clear hM3 b3 g3 hM2 b2 hOx hOb oX oX2 hw2 ht2 hs1 hs1b yW9 yW yT yS ocT ocS o1X o1S o1T o2X o2T s1c0 hv0 hv1 hvt hsA yT' yS' htop2
  go_wp2_with fail
  refine wp_region_noPanic ?_
  refine wp_region_gate (S := fun w' => w'.cell? ⟨Xb, 0, none⟩ = some (.slice (some ⟨gW, 0, none⟩) nW cW) ∧ w'.cell? ⟨Xb, 1, none⟩ = some (.slice (some ⟨gT, 0, none⟩) nT cT) ∧ w'.cell? ⟨gW, 9, none⟩ = some (.slice (some ⟨gS, 0, none⟩) nS sc)) 17 [(0, 3), (1, 0), (2, 3), (3, 0), (4, 3), (5, 3), (6, 0), (7, 3), (8, 0), (9, 3), (10, 3), (11, 2), (12, 3), (13, 3), (14, 2), (15, 3), (16, 3), (17, 4)] [0, 1, 0, 4, 8, 16, 32, 0, 128, 67, 579, 1091, 3711, 7807, 11903, 32767, 65535, 98303] [0, 1, 0, 4, 8, 16, 32, 0, 128, 2, 512, 1024, 64, 4096, 8192, 256, 32768, 65536] [0, 261634, 0, 261752, 0, 0, 261696, 0, 229632, 0, 0, 0, 0, 0, 0, 0, 0, 0] (by kernel_rfl) (by kernel_rfl) (fun _ _ _ _ _ h => h) ?_ (fun hH => ?_)
  · exact ⟨s0a, s0b, s0c⟩
  refine wpSeqG_free (d := 42) (v := ?_) rfl rfl (by kernel_rfl) (fun w => ?_) ?_
  rotate_left
  · go_simp <;> with_reducible rfl
  dsimp only [List.set_cons_zero, List.set_cons_succ]
  refine wpSeqG_take (d := 43) (v := ?_) rfl rfl (by kernel_rfl) (fun w hS => ?_) ?_
  rotate_left
  · go_simp <;> with_reducible rfl
  dsimp only [List.set_cons_zero, List.set_cons_succ]
  refine wpSeqG_free (d := 44) (v := ?_) rfl rfl (by kernel_rfl) (fun w => ?_) ?_
  rotate_left
  · go_simp <;> with_reducible rfl
  dsimp only [List.set_cons_zero, List.set_cons_succ]
  refine wpSeqG_take (d := 45) (v := ?_) rfl rfl (by kernel_rfl) (fun w hS => ?_) ?_
  rotate_left
  · go_simp <;> with_reducible rfl
  dsimp only [List.set_cons_zero, List.set_cons_succ]
  refine wpSeqG_free (d := 46) (v := ?_) rfl rfl (by kernel_rfl) (fun w => ?_) ?_
  rotate_left
  · go_simp <;> with_reducible rfl
  dsimp only [List.set_cons_zero, List.set_cons_succ]
  refine wpSeqG_free (d := 47) (v := ?_) rfl rfl (by kernel_rfl) (fun w => ?_) ?_
  rotate_left
  · go_simp <;> with_reducible rfl
  dsimp only [List.set_cons_zero, List.set_cons_succ]
  refine wpSeqG_take (d := 48) (v := ?_) rfl rfl (by kernel_rfl) (fun w hS => ?_) ?_
  rotate_left
  · go_simp <;> with_reducible rfl
  dsimp only [List.set_cons_zero, List.set_cons_succ]
  refine wpSeqG_free (d := 49) (v := ?_) rfl rfl (by kernel_rfl) (fun w => ?_) ?_
  rotate_left
  · go_simp <;> with_reducible rfl
  dsimp only [List.set_cons_zero, List.set_cons_succ]
  refine wpSeqG_take (d := 50) (v := ?_) rfl rfl (by kernel_rfl) (fun w hS => ?_) ?_
  rotate_left
  · go_simp <;> with_reducible rfl
  dsimp only [List.set_cons_zero, List.set_cons_succ]
  refine wpSeqG_free (d := 51) (v := ?_) rfl rfl (by kernel_rfl) (fun w => ?_) ?_
  rotate_left
  · go_simp <;> with_reducible rfl
  dsimp only [List.set_cons_zero, List.set_cons_succ]
  refine wpSeqG_free (d := 52) (v := ?_) rfl rfl (by kernel_rfl) (fun w => ?_) ?_
  rotate_left
  · go_simp <;> with_reducible rfl
  dsimp only [List.set_cons_zero, List.set_cons_succ]
  refine wpSeqG_call rfl (by kernel_rfl) (fun K hK => ?_)
  go_simp
  refine hK.out _ _ ?_ (fun hH => ?_)
  · first | exact ⟨s1a, s1b, s1c⟩ | exact ⟨s2a, s2b, s2c⟩
  clear hK
  refine wpSeqG_free (d := 53) (v := ?_) rfl rfl (by kernel_rfl) (fun w => ?_) ?_
  rotate_left
  · go_simp <;> with_reducible rfl
  dsimp only [List.set_cons_zero, List.set_cons_succ]
  refine wpSeqG_free (d := 54) (v := ?_) rfl rfl (by kernel_rfl) (fun w => ?_) ?_
  rotate_left
  · go_simp <;> with_reducible rfl
  dsimp only [List.set_cons_zero, List.set_cons_succ]
  refine wpSeqG_call rfl (by kernel_rfl) (fun K hK => ?_)
  go_simp
  refine hK.out _ _ ?_ (fun hH => ?_)
  · first | exact ⟨s1a, s1b, s1c⟩ | exact ⟨s2a, s2b, s2c⟩
  clear hK
  refine wpSeqG_free (d := 55) (v := ?_) rfl rfl (by kernel_rfl) (fun w => ?_) ?_
  rotate_left
  · go_simp <;> with_reducible rfl
  dsimp only [List.set_cons_zero, List.set_cons_succ]
  refine wpSeqG_free (d := 56) (v := ?_) rfl rfl (by kernel_rfl) (fun w => ?_) ?_
  rotate_left
  · go_simp <;> with_reducible rfl
  dsimp only [List.set_cons_zero, List.set_cons_succ]
  refine wpSeqG_gate rfl (by kernel_rfl) (fun K hK => ?_)
  go_simp
  refine hK.out _ _ ?_
  clear hK
  refine wpSeqG_done ?_
  refine NoPanic.normal ?_
  generalize (A2.setCell ⟨gT, 1, none⟩ (.int .i64 1)).drew = w3 at *
  obtain ⟨hM3, b3⟩ := HM3.out
  have cY := ddeck_any w3 hM3 (by rw [hPd]; omega)
  rw [hPd, hnWe, hnTe, hnFe] at cY
  clear HM3 hH s0a s0b s0c s1a s1b s1c s2a s2b s2c yW' y1S z1S y2T z2T zW hA1 hA2 n1 n2 n3 n4 n5 n6 n1' n2' n3'
  have HX := Lib.hid (And.intro hM3 b3)
  clear hM3 b3
  go_wp2_with fail
  refine cY.mono ?_
  rintro e w4 ⟨o1, c1, o2, c2, o3, c3, ss, tt, rfl, hY, q4⟩
  have q5 : B w4 (w4.alloc (.cells #[.slice o1 nW c1, .slice o2 nT c2, .slice o3 nF c3] 26)) := (B.refl _).alloc _ _
  have oY := obj_new w4 (.cells #[.slice o1 nW c1, .slice o2 nT c2, .slice o3 nF c3] 26)
  have hY5 := hY.on (fun i _ h2 => q5.below.block i h2)
  have hv2 := hY5.ws
  have hu2 := hY5.ts
  rw [hnWe] at hv2
  rw [hnTe] at hu2
  obtain ⟨gV, rfl, hgV1, _⟩ := own_head hv2 (by omega)
  obtain ⟨gU, rfl, hgU1, _⟩ := own_head hu2 hnT
  obtain ⟨vo, hvo⟩ : ∃ v, tt[0]? = some v := ⟨_, List.getElem?_eq_getElem (by have := hY5.tl; omega)⟩
  obtain ⟨vs0, hvs0⟩ : ∃ v, ss[0]? = some v := ⟨_, List.getElem?_eq_getElem (by have := hY5.sl; omega)⟩
  have ho1 := hY5.th 0 t0 vo ht0 hvo
  have hlo1 := (right_all (tipOk_right (apart_at pT ht0).1)).1
  obtain ⟨xo, cO, rfl⟩ := ownsRow_form ho1
  obtain ⟨gO, rfl, hgO1, _⟩ := own_head ho1 (by omega)
  obtain ⟨b3, hM3'⟩ : B w w3 ∧ BoardM P w3 0 [] X0 := ⟨HX.out.2, HX.out.1⟩
  have q35 := q4.trans q5
  have b5 := b3.trans q35
  have u0 := obj_cell oY 0
  have u1 := obj_cell oY 1
  have u2 := obj_cell oY 2
  have hYd := hY5.dk
  have hUy := hU.keepB b5
  have HY := Lib.hid (And.intro hY5 (And.intro oY (And.intro q35 (And.intro hvo hvs0))))
  obtain ⟨nO, hnO⟩ : ∃ nO, t0.l.length = nO := ⟨_, rfl⟩
  clear hY hv2 hu2 ho1 hY5 oY q4 q5 q35 b3 hM3' b5 hvo hvs0 cY
  go_wp2_with fail
  generalize w4.alloc (.cells #[.slice (some ⟨gV, 0, none⟩) nW c1, .slice (some ⟨gU, 0, none⟩) nT c2, .slice o3 nF c3] 26) = w5 at *
  generalize w4.heap.size = Yb at *
  have qyd : B w5 w5.drew := (B.refl _).drew
  refine wp_region_noPanic ?_
  refine wp_region_gate (S := fun w' => w'.cell? ⟨Yb, 0, none⟩ = some (.slice (some ⟨gV, 0, none⟩) nW c1) ∧ w'.cell? ⟨Yb, 1, none⟩ = some (.slice (some ⟨gU, 0, none⟩) nT c2) ∧ w'.cell? ⟨Yb, 2, none⟩ = some (.slice o3 nF c3)) 7 [(0, 0), (1, 3), (2, 3), (3, 3), (4, 3), (5, 3), (6, 2), (7, 4), (8, 3)] [0, 0, 0, 0, 0, 0, 62, 65, 128] [0, 0, 0, 0, 0, 0, 62, 65, 128] [385, 0, 0, 0, 0, 0, 0, 0, 0] (by kernel_rfl) (by kernel_rfl) (fun _ _ _ _ _ h => h) ?_ (fun hH => ?_)
  · exact ⟨qyd.keep u0, qyd.keep u1, qyd.keep u2⟩
  refine wpSeqG_take (d := 59) (v := ?_) rfl rfl (by kernel_rfl) (fun w hS => ?_) ?_
  rotate_left
  · go_simp <;> with_reducible rfl
  dsimp only [List.set_cons_zero, List.set_cons_succ]
  refine wpSeqG_free (d := 60) (v := ?_) rfl rfl (by kernel_rfl) (fun w => ?_) ?_
  rotate_left
  · go_simp <;> with_reducible rfl
  dsimp only [List.set_cons_zero, List.set_cons_succ]
  refine wpSeqG_free (d := 61) (v := ?_) rfl rfl (by kernel_rfl) (fun w => ?_) ?_
  rotate_left
  · go_simp <;> with_reducible rfl
  dsimp only [List.set_cons_zero, List.set_cons_succ]
  refine wpSeqG_free (d := 62) (v := ?_) rfl rfl (by kernel_rfl) (fun w => ?_) ?_
  rotate_left
  · go_simp <;> with_reducible rfl
  dsimp only [List.set_cons_zero, List.set_cons_succ]
  refine wpSeqG_free (d := 63) (v := ?_) rfl rfl (by kernel_rfl) (fun w => ?_) ?_
  rotate_left
  · go_simp <;> with_reducible rfl
  dsimp only [List.set_cons_zero, List.set_cons_succ]
  refine wpSeqG_free (d := 64) (v := ?_) rfl rfl (by kernel_rfl) (fun w => ?_) ?_
  rotate_left
  · go_simp <;> with_reducible rfl
  dsimp only [List.set_cons_zero, List.set_cons_succ]
  refine wpSeqG_call rfl (by kernel_rfl) (fun K hK => ?_)
  go_simp
  (with_reducible refine (hcD _ (hUy.keepB qyd)).mono ?_)
  rintro e w6 ⟨w2v, t2v, f2v, rfl, hD6, q6⟩
  have hy6 := hYd.keepB (qyd.trans q6)
  have u0 := q6.keep hH.1
  have u1 := q6.keep hH.2.1
  have u2 := q6.keep hH.2.2
  refine hK.out _ _ ?_ (fun hH => ?_)
  · exact ⟨u0, u1, u2⟩
  clear hK
  refine wpSeqG_gate rfl (by kernel_rfl) (fun K hK => ?_)
  go_simp
  (with_reducible refine (helpdeck_any _ _ _ _ _ _ D w6 hy6 hD6).mono ?_)
  rintro e w7 ⟨rfl, q7⟩
  refine hK.out _ _ ?_
  clear hK
  refine wpSeqG_free (d := 67) (v := ?_) rfl rfl (by kernel_rfl) (fun w => ?_) ?_
  rotate_left
  · go_simp <;> with_reducible rfl
  dsimp only [List.set_cons_zero, List.set_cons_succ]
  refine wpSeqG_done ?_
  refine NoPanic.normal ?_
  obtain ⟨hY5, oY, q35, hvo, hvs0⟩ := HY.out
  obtain ⟨hM3, b3⟩ := HX.out
  have q57 := (qyd.trans q6).trans q7.b
  have hY7 := hY5.on (fun i _ h2 => q57.below.block i h2)
  have oY7 := q57.obj oY
  have hv2 := hY7.ws
  have hu2 := hY7.ts
  rw [hnWe] at hv2
  rw [hnTe] at hu2
  have ho1 := hY7.th 0 t0 _ ht0 hvo
  have yV := (hv2.cellAt 0 (by omega)).trans (flatR_get D.ws ss 0 0 r0 vs0 hr0 hvs0 (by omega))
  have yU := (hu2.cellAt 4 (by omega)).trans (flatR_get D.ts tt 0 4 t0 _ ht0 hvo (by omega))
  rw [hnO] at yU hlo1
  obtain ⟨sB, hsB⟩ : ∃ s, t0.l[0]? = some s := ⟨_, List.getElem?_eq_getElem (by omega)⟩
  have yO := (ho1.cellAt 1 (by omega)).trans (flat_get t0.l 0 1 sB hsB (by omega))
  obtain ⟨csV, ocV⟩ := own_obj hv2
  obtain ⟨csU, ocU⟩ := own_obj hu2
  obtain ⟨csO, ocO⟩ := own_obj ho1
  have n1 := obj_ne ocV ocO (by decide)
  have n4 := obj_ne oY7 ocV (by decide)
  have n7 := obj_ne ocV ocU (by decide)
  have s0a : w7.drew.cell? ⟨Yb, 0, none⟩ = some (.slice (some ⟨gV, 0, none⟩) nW c1) := obj_cell (w := w7.drew) oY7 0
  have s0b : w7.drew.cell? ⟨Yb, 1, none⟩ = some (.slice (some ⟨gU, 0, none⟩) nT c2) := obj_cell (w := w7.drew) oY7 1
  have s0c : w7.drew.cell? ⟨gU, 4, none⟩ = some (.slice (some ⟨gO, 0, none⟩) nO cO) := yU
  have yV' : w7.cell? ⟨gV, 0, none⟩ = some (.string r0.n) := yV
  have zV := obj_free ocV 0
  have yO' : w7.cell? ⟨gO, 1, none⟩ = some (.int .i64 sB.h) := yO
  obtain ⟨A1, hA1⟩ : ∃ A1, w7.setCell ⟨gV, 0, none⟩ (.string ⟨#[121, 121]⟩) = A1 := ⟨_, rfl⟩
  have o1Y := obj_other oY7 (p := ⟨gV, 0, none⟩) n4 (.string ⟨#[121, 121]⟩)
  have o1U := obj_other ocU (p := ⟨gV, 0, none⟩) (fun e => n7 e.symm) (.string ⟨#[121, 121]⟩)
  have o1O := obj_other ocO (p := ⟨gV, 0, none⟩) (fun e => n1 e.symm) (.string ⟨#[121, 121]⟩)
  rw [hA1] at o1Y o1U o1O
  have s1a : A1.drew.cell? ⟨Yb, 0, none⟩ = some (.slice (some ⟨gV, 0, none⟩) nW c1) := obj_cell (w := A1.drew) o1Y 0
  have s1b : A1.drew.cell? ⟨Yb, 1, none⟩ = some (.slice (some ⟨gU, 0, none⟩) nT c2) := obj_cell (w := A1.drew) o1Y 1
  have s1c : A1.drew.cell? ⟨gU, 4, none⟩ = some (.slice (some ⟨gO, 0, none⟩) nO cO) := by
    have : A1.cell? ⟨gU, 4, none⟩ = some (.slice (some ⟨gO, 0, none⟩) nO cO) := by rw [obj_cell o1U, ← obj_cell ocU 4]; exact s0c
    exact this
  have y1O : A1.cell? ⟨gO, 1, none⟩ = some (.int .i64 sB.h) := by rw [obj_cell o1O, ← obj_cell ocO 1]; exact yO'
  have z1O := obj_free o1O 1
  have q37 := q35.trans q57
  have q38 : B w3 (A1.setCell ⟨gO, 1, none⟩ (.int .i64 100)).drew := by
    rw [← hA1]
    exact (B.setCell (p := ⟨gO, 1, none⟩) (B.setCell (p := ⟨gV, 0, none⟩) q37 hgV1 _) hgO1 _).drew
  have hM8 := hM3.keepB q38
  have b8 := b3.trans q38
  have HM8 := Lib.hid (And.intro hM8 b8)
  have hnO0 : (0 : Int) < (nO : Int) := by omega
  have hnOn : 0 < nO := by omega
  have n1' : ¬ gO = gV := fun e => n1 e.symm
  clear hM8 b8 q38 q37 hM3 b3 hY7 hY5 oY7 oY hv2 hu2 ho1 yV yU yO ocU ocO ocV o1Y o1U o1O hvo hvs0 hsB q6 q7 q57 q35 hy6 hD6 u0 u1 u2 qyd HX HY hH n4 n7 hUy hYd
  go_wp2_with fail
  refine wp_region_noPanic ?_
  refine wp_region_gate (S := fun w' => w'.cell? ⟨Yb, 0, none⟩ = some (.slice (some ⟨gV, 0, none⟩) nW c1) ∧ w'.cell? ⟨Yb, 1, none⟩ = some (.slice (some ⟨gU, 0, none⟩) nT c2) ∧ w'.cell? ⟨gU, 4, none⟩ = some (.slice (some ⟨gO, 0, none⟩) nO cO)) 12 [(0, 3), (1, 0), (2, 3), (3, 0), (4, 3), (5, 3), (6, 0), (7, 3), (8, 3), (9, 2), (10, 3), (11, 3), (12, 4)] [0, 1, 0, 4, 8, 16, 32, 67, 195, 323, 1023, 2047, 3071] [0, 1, 0, 4, 8, 16, 32, 2, 128, 256, 64, 1024, 2048] [0, 8066, 0, 8184, 0, 0, 8128, 0, 0, 0, 0, 0, 0] (by kernel_rfl) (by kernel_rfl) (fun _ _ _ _ _ h => h) ?_ (fun hH => ?_)
  · exact ⟨s0a, s0b, s0c⟩
  refine wpSeqG_free (d := 68) (v := ?_) rfl rfl (by kernel_rfl) (fun w => ?_) ?_
  rotate_left
  · go_simp <;> with_reducible rfl
  dsimp only [List.set_cons_zero, List.set_cons_succ]
  refine wpSeqG_take (d := 69) (v := ?_) rfl rfl (by kernel_rfl) (fun w hS => ?_) ?_
  rotate_left
  · go_simp <;> with_reducible rfl
  dsimp only [List.set_cons_zero, List.set_cons_succ]
  refine wpSeqG_free (d := 70) (v := ?_) rfl rfl (by kernel_rfl) (fun w => ?_) ?_
  rotate_left
  · go_simp <;> with_reducible rfl
  dsimp only [List.set_cons_zero, List.set_cons_succ]
  refine wpSeqG_take (d := 71) (v := ?_) rfl rfl (by kernel_rfl) (fun w hS => ?_) ?_
  rotate_left
  · go_simp <;> with_reducible rfl
  dsimp only [List.set_cons_zero, List.set_cons_succ]
  refine wpSeqG_free (d := 72) (v := ?_) rfl rfl (by kernel_rfl) (fun w => ?_) ?_
  rotate_left
  · go_simp <;> with_reducible rfl
  dsimp only [List.set_cons_zero, List.set_cons_succ]
  refine wpSeqG_free (d := 73) (v := ?_) rfl rfl (by kernel_rfl) (fun w => ?_) ?_
  rotate_left
  · go_simp <;> with_reducible rfl
  dsimp only [List.set_cons_zero, List.set_cons_succ]
  refine wpSeqG_take (d := 74) (v := ?_) rfl rfl (by kernel_rfl) (fun w hS => ?_) ?_
  rotate_left
  · go_simp <;> with_reducible rfl
  dsimp only [List.set_cons_zero, List.set_cons_succ]
  refine wpSeqG_free (d := 75) (v := ?_) rfl rfl (by kernel_rfl) (fun w => ?_) ?_
  rotate_left
  · go_simp <;> with_reducible rfl
  dsimp only [List.set_cons_zero, List.set_cons_succ]
  refine wpSeqG_free (d := 76) (v := ?_) rfl rfl (by kernel_rfl) (fun w => ?_) ?_
  rotate_left
  · go_simp <;> with_reducible rfl
  dsimp only [List.set_cons_zero, List.set_cons_succ]
  refine wpSeqG_call rfl (by kernel_rfl) (fun K hK => ?_)
  go_simp
  refine hK.out _ _ ?_ (fun hH => ?_)
  · exact ⟨s1a, s1b, s1c⟩
  clear hK
  refine wpSeqG_free (d := 77) (v := ?_) rfl rfl (by kernel_rfl) (fun w => ?_) ?_
  rotate_left
  · go_simp <;> with_reducible rfl
  dsimp only [List.set_cons_zero, List.set_cons_succ]
  refine wpSeqG_free (d := 78) (v := ?_) rfl rfl (by kernel_rfl) (fun w => ?_) ?_
  rotate_left
  · go_simp <;> with_reducible rfl
  dsimp only [List.set_cons_zero, List.set_cons_succ]
  refine wpSeqG_gate rfl (by kernel_rfl) (fun K hK => ?_)
  go_simp
  refine hK.out _ _ ?_
  clear hK
  refine wpSeqG_done ?_
  refine NoPanic.normal ?_
  generalize (A1.setCell ⟨gO, 1, none⟩ (.int .i64 100)).drew = w8 at *
  obtain ⟨hM8, b8⟩ := HM8.out
  clear HM8 hH s0a s0b s0c s1a s1b s1c yV' zV yO' y1O z1O hA1 n1 n1'
  have hwB := wares_in pW r0 (List.mem_of_getElem? hr0)
  obtain ⟨b1', b2', b3', b4'⟩ := hwB
  obtain ⟨kq, hkq⟩ := indexC_some D.ws 0 namePlate 0 0 ⟨r0, List.mem_of_getElem? hr0, by
    unfold hasB
    rw [hr0n]
    simp only [beq_self_eq_true, Bool.true_and, Bool.and_eq_true, decide_eq_true_eq]
    omega⟩
  have hbm : w.heap.size ≤ P.bm := by have := hlow.1; omega
  have hSlo : ∀ i, P.S i → w.heap.size ≤ i := fun i hi => by have := hlow.2 i hi; omega
  have hnm : namedL (D.ts.map (·.n)) nameT1 = true := List.any_eq_true.2 ⟨t0.n, List.mem_map.2 ⟨_, List.mem_of_getElem? ht0, rfl⟩, by rw [ht0n]; simp⟩
  have cW := dwell_yes w w8 b8 hp hbm hM8 namePlate 0 0 (by decide) (by decide) (by decide) kq (by rw [hPd]; exact hkq)
  have HB8 := Lib.hid b8
  clear hM8 b8 b1' b2' b3' b4' hkq
  go_wp2_with fail
  refine cW.mono ?_
  rintro e w9 ⟨i9, rc, p9, e0, n', E', X', hi9, hrn, rfl, hpp, hE, hM9, hg9⟩
  have b9 := hg9.b HB8.out hSlo
  have cT := dtip_yes w w9 b9 hp hbm hM9 nameT1 (by decide) (by rw [hPd]; exact hnm)
  clear cW hi9 hrn hpp hE hg9 hM9 HB8
  go_wp2_with fail
  refine cT.mono ?_
  rintro e w10 ⟨i10, rc10, p10, e10, n10, E10, X10, o9, c9, hi10, hrn10, rfl, hs10, hpp10, hE10, hM10, hg10⟩
  rw [hPd] at hi10
  obtain rfl : rc10 = t0 := name_one pT hi10 ht0 (hrn10.trans ht0n.symm)
  have b10 := hg10.b b9 hSlo
  have hx1 : decide ((1 : Int) < rc10.x) = true := decide_eq_true ht0x
  have q11 : B w10 (w10.alloc (.cells #[.string nameT1, .int .i64 rc10.x, .int .i64 rc10.y, .int .i64 rc10.z, .slice o9 nO c9] 35)) := (B.refl _).alloc _ _
  have hM11 := hM10.keepB q11
  have b11 := b10.trans q11
  have cY2 := ddeck_any _ hM11 (by rw [hPd]; omega)
  rw [hPd, hnWe, hnTe, hnFe] at cY2
  have HB11 := Lib.hid b11
  clear cT hi10 hrn10 hs10 hpp10 hE10 hg10 hM10 b9 b10 q11 hM11 b11
  go_wp2_with fail
  generalize w10.alloc (.cells #[.string nameT1, .int .i64 rc10.x, .int .i64 rc10.y, .int .i64 rc10.z, .slice o9 nO c9] 35) = w11 at *
  refine cY2.mono ?_
  rintro e w12 ⟨m1, k1, m2, k2, m3, k3, ss2, tt2, rfl, hY2, q12⟩
  have b12 := HB11.out.trans q12
  have hYd2 := hY2.dk
  have cD2 := hcD w12 (hU.keepB b12)
  clear cY2 hY2 q12 HB11
  go_wp2_with fail
  refine cD2.mono ?_
  rintro e w13 ⟨z1, z2, z3, rfl, hD13, q13⟩
  have cH := helpdeck_any _ _ _ _ _ _ D w13 (hYd2.keepB q13) hD13
  have HB13 := Lib.hid (b12.trans q13)
  clear cD2 hYd2 hD13 q13 b12
  go_wp2_with fail
  refine cH.mono ?_
  rintro e w14 ⟨rfl, q14⟩
  have HZ := Lib.hid (HB13.out.trans q14.b)
  clear cH q14 HB13 hU
  go_wp2
  go_ret
  exact ⟨rfl, HZ.out⟩
theorem own11_ok (a b c d : Int) (lv : Value) (ll : List Nat) (ha : (Lit.int .u8 a).wf = true) (hb : (Lit.int .u8 b).wf = true) (hc : (Lit.int .u8 c).wf = true) (hd : (Lit.int .u8 d).wf = true) (w : World) (hU : IsU32s w lv ll) (htab : Lib.TabIs Tryz.prog w "internal/strconv.uint64pow10" .u64 Lib.pow10Tab) :
    Calls Tryz.prog 8 #[.int .u8 a, .int .u8 b, .int .u8 c, .int .u8 d, lv] w fun e w' => e = .returned (.bool true) ∧ B w w' := own11_law a b c d lv ll ha hb hc hd w hU (Lib.tabBelow_of_tabIs htab)
end Go.Proofs.YtalnfojaccfcjaaGreatDoor
