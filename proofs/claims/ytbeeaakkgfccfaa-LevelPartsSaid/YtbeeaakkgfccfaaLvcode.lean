/-
  The code's own levels, over any tables that do what the document says.
-/
import Derived.Test.YtbeeaakkgfccfaaSrch
import Derived.Test.YtbeeaakkgfccfaaLvC
namespace Go.Proofs.Ytbeeaakkgfccfaa
open Go.RowKit

theorem cubic_any (v : Int) (w : World) : Calls Try.prog 31 #[.int .i64 v] w fun e w' => e = .returned (.int .i64 (cubM v)) ∧ w = w' := by
  unfold cubM
  obtain ⟨m, e1⟩ : ∃ m, max v 0 = m := ⟨_, rfl⟩
  obtain ⟨q, e2⟩ : ∃ q, min m 1000000000 = q := ⟨_, rfl⟩
  rw [e1, e2]
  have w1 : IntKind.i64.wrap (1000000 * q) = q * 1000000 := by rw [Int.mul_comm]; exact wrapI (by omega) (by omega)
  have w2 : IntKind.i64.wrap (q * 1000000) = q * 1000000 := wrapI (by omega) (by omega)
  go_enter Try.func31, Try.ntmps31
  go_wp2
  go_ret
  exact ⟨rfl, rfl⟩

theorem upw_any (a b : Int) (h0 : 0 ≤ a) (h1 : a ≤ 1000000000000000) (b0 : 0 < b) (b1 : b ≤ 1000000) (w : World) : Calls Try.prog 38 #[.int .i64 a, .int .i64 b] w fun e w' => e = .returned (.int .i64 ((a + b - 1) / b)) ∧ w = w' := by
  have hb : ¬ b = 0 := by omega
  obtain ⟨s, e1⟩ : ∃ s, a + b = s := ⟨_, rfl⟩
  obtain ⟨r, e2⟩ : ∃ r, s - 1 = r := ⟨_, rfl⟩
  have w1 : IntKind.i64.wrap (a + b) = s := by rw [e1]; exact wrapI (by omega) (by omega)
  have w2 : IntKind.i64.wrap (s - 1) = r := by rw [e2]; exact wrapI (by omega) (by omega)
  have w3 : r.tdiv b = r / b := Int.tdiv_eq_ediv_of_nonneg (by omega)
  have f0 : 0 ≤ r / b := Int.ediv_nonneg (by omega) (by omega)
  have f1 : r / b ≤ r := Int.ediv_le_self _ (by omega)
  have w4 : IntKind.i64.wrap (r / b) = r / b := wrapI (by omega) (by omega)
  have e3 : a + b - 1 = r := by omega
  rw [e3]
  generalize r / b = z at *
  clear e1 e2 e3 f0 f1
  go_enter Try.func38, Try.ntmps38
  go_wp2
  go_ret
  exact ⟨rfl, rfl⟩

/-- Of a nil table. -/
theorem low_nil (x : Int) (w : World) : Calls Try.prog 14 #[.pointer none, .int .i64 x] w fun e w' => e = .returned (.int .i64 0) ∧ B w w' := by
  go_enter Try.func14, Try.ntmps14
  go_wp2
  go_ret
  exact ⟨rfl, B.refl _⟩
theorem high_nil (x : Int) (w : World) : Calls Try.prog 16 #[.pointer none, .int .i64 x] w fun e w' => e = .returned (.int .i64 0) ∧ B w w' := by
  go_enter Try.func16, Try.ntmps16
  go_wp2
  go_ret
  exact ⟨rfl, B.refl _⟩
theorem true_nil (x part : Int) (w : World) : Calls Try.prog 18 #[.pointer none, .int .i64 x, .int .i64 part] w fun e w' => e = .returned (.int .i64 0) ∧ B w w' := by
  go_enter Try.func18, Try.ntmps18
  go_wp2
  go_ret
  exact ⟨rfl, ((B.refl _).alloc _ _).alloc _ _⟩
theorem vol_nil (h : Int) (up : Bool) (w : World) : Calls Try.prog 20 #[.pointer none, .int .i64 h, .bool up] w fun e w' => e = .returned (.int .i64 0) ∧ B w w' := by
  go_enter Try.func20, Try.ntmps20
  go_wp2
  go_ret
  exact ⟨rfl, B.refl _⟩
theorem nil_code : LvN := ⟨low_nil, high_nil, true_nil, vol_nil⟩

theorem first_low (L : List (Int × Int)) (x : Int) (hx : 0 ≤ x) : (firstIx (L.length + 1) (fun i => decide (x + 1 ≤ highT L i)) : Int) = (firstIx L.length (fun i => decide (x < highT L (i + 1))) : Int) + 1 := by
  have h0 : decide (x + 1 ≤ highT L 0) = false := decide_eq_false (by simp [highT]; omega)
  have e : (fun k => decide (x + 1 ≤ highT L (k + 1))) = (fun i => decide (x < highT L (i + 1))) := by
    funext k
    exact decide_eq_decide.2 ⟨fun h => by omega, fun h => by omega⟩
  rw [firstIx, h0, e]
  simp

variable {T : World → Value → List (Int × Int) → Prop}
theorem clv_low (c : TabC T) (v : Value) (L : List (Int × Int)) (x : Int) (w : World) (hb : TBnd L) (ht : T w v L) :
    Calls Try.prog 14 #[v, .int .i64 x] w fun e w' => e = .returned (.int .i64 (lvLow L x)) ∧ B w w' := by
  obtain ⟨a, rfl⟩ := c.ptr ht
  have hn6 := hb.n
  obtain ⟨x0, x1⟩ := cub_bnd x
  have cC := fun w => cubic_any x w
  have cS := fun w ht => c.slices (.pointer (some a)) L w hb ht
  have ek : ∀ args w, (callFunc 30 args).run Try.prog w = .ok (.enter 30 args) w := enters_of Try.func30 (by kernel_rfl) rfl
  have cF := fun w (hw : T w (.pointer (some a)) L) => first_any 30 #[.pointer (some a)] #[] L.length (highT L) (cubM x + 1) w ek (by omega)
    (fun i hi w1 h1 => by
      have := c.high (.pointer (some a)) L i w1 hb (by unfold I64; omega) (c.keep hw h1)
      rw [nearI_of _ _ hi] at this
      exact this)
    (fun i j hij _ => (low_all hb i j hij).2)
  have fl := first_low L (cubM x) x0
  have fle := firstIx_le L.length (fun i => decide (cubM x < highT L (i + 1)))
  rw [fl] at cF
  unfold lvLow
  generalize firstIx L.length (fun i => decide (cubM x < highT L (i + 1))) = F at *
  generalize cubM x = X at *
  clear fl ek hb
  have u1 : IntKind.i64.wrap (X + 1) = X + 1 := wrapI (by omega) (by omega)
  have u2 : IntKind.i64.wrap ((F : Int) + 1 - 1) = F := by rw [Int.add_sub_cancel]; exact wrapI (by omega) (by omega)
  have u3 : IntKind.i64.wrap (100 * (F : Int)) = 100 * (F : Int) := wrapI (by omega) (by omega)
  have u4 : IntKind.i64.wrap (F : Int) = F := wrapI (by omega) (by omega)
  have HT := Lib.hid ht
  clear ht
  have hmf : ∀ (fn : Fn) (first cap : Array Value) (w : World), (Instr.makeFunc fn first cap).run Try.prog w = .ok (.func fn first cap) w := fun _ _ _ _ => rfl
  go_enter Try.func14, Try.ntmps14
  go_wp2_with fail
  refine (cS _ HT.out).mono ?_
  rintro e w1 ⟨rfl, q1⟩
  go_wp2_with fail
  refine (cC _).mono ?_
  rintro e w2 ⟨rfl, rfl⟩
  go_wp2_with fail
  refine (cF _ (c.keep HT.out q1)).mono ?_
  rintro e w3 ⟨rfl, q2⟩
  replace q1 := q1.trans q2
  go_wp2
  go_ret
  exact ⟨rfl, q1⟩
theorem clv_high (c : TabC T) (v : Value) (L : List (Int × Int)) (x : Int) (w : World) (hb : TBnd L) (ht : T w v L) :
    Calls Try.prog 16 #[v, .int .i64 x] w fun e w' => e = .returned (.int .i64 (lvHigh L x)) ∧ B w w' := by
  obtain ⟨a, rfl⟩ := c.ptr ht
  have hn6 := hb.n
  have cC := fun w => cubic_any x w
  have cS := fun w ht => c.slices (.pointer (some a)) L w hb ht
  have ek : ∀ args w, (callFunc 34 args).run Try.prog w = .ok (.enter 34 args) w := enters_of Try.func34 (by kernel_rfl) rfl
  have cF := fun w (hw : T w (.pointer (some a)) L) => first_any 34 #[.pointer (some a)] #[] L.length (lowT L) (cubM x) w ek (by omega)
    (fun i hi w1 h1 => by
      have := c.low (.pointer (some a)) L i w1 hb (by unfold I64; omega) (c.keep hw h1)
      rw [nearI_of _ _ hi] at this
      exact this)
    (fun i j hij _ => (low_all hb i j hij).1)
  have fle := firstIx_le (L.length + 1) (fun i => decide (cubM x ≤ lowT L i))
  unfold lvHigh
  generalize firstIx (L.length + 1) (fun i => decide (cubM x ≤ lowT L i)) = F at *
  generalize cubM x = X at *
  clear ek hb
  have u3 : IntKind.i64.wrap (100 * (F : Int)) = 100 * (F : Int) := wrapI (by omega) (by omega)
  have u4 : IntKind.i64.wrap (F : Int) = F := wrapI (by omega) (by omega)
  have HT := Lib.hid ht
  clear ht
  go_enter Try.func16, Try.ntmps16
  go_wp2_with fail
  refine (cS _ HT.out).mono ?_
  rintro e w1 ⟨rfl, q1⟩
  go_wp2_with fail
  refine (cC _).mono ?_
  rintro e w2 ⟨rfl, rfl⟩
  go_wp2_with fail
  refine (cF _ (c.keep HT.out q1)).mono ?_
  rintro e w3 ⟨rfl, q2⟩
  replace q1 := q1.trans q2
  go_wp2
  go_ret
  exact ⟨rfl, q1⟩

theorem clv_vol (c : TabC T) (p : Value) (L : List (Int × Int)) (h : Int) (up : Bool) (w : World) (hb : TBnd L) (ht : T w p L) :
    Calls Try.prog 20 #[p, .int .i64 h, .bool up] w fun e w' => e = .returned (.int .i64 (lvVol L h up)) ∧ B w w' := by
  obtain ⟨a, rfl⟩ := c.ptr ht
  have cT := fun w ht => c.tall (.pointer (some a)) L w hb ht
  have hn6 := hb.n
  obtain ⟨m, em⟩ : ∃ m, max h 0 = m := ⟨_, rfl⟩
  obtain ⟨N, eN⟩ : ∃ N : Int, (L.length : Int) * 100 = N := ⟨_, rfl⟩
  obtain ⟨H, eH⟩ : ∃ H, min m N = H := ⟨_, rfl⟩
  have eg : hgtM L h = H := by unfold hgtM; rw [em, eN, eH]
  rw [eN] at cT
  unfold lvVol
  rw [eg]
  have HT := Lib.hid ht
  clear ht
  cases up
  · obtain ⟨k, ek⟩ : ∃ k : Nat, (H / 100).toNat = k := ⟨_, rfl⟩
    have hk : k ≤ L.length := by omega
    have u1 : H.tdiv 100 = (k : Int) := by rw [Int.tdiv_eq_ediv_of_nonneg (by omega)]; omega
    have cL := fun w ht => c.low (.pointer (some a)) L k w hb (by unfold I64; omega) ht
    rw [nearI_of _ _ hk] at cL
    have bk := hb.at k hk
    rw [ek]
    generalize lowT L k = Y at *
    have u2 : Y.tdiv 1000000 = Y / 1000000 := Int.tdiv_eq_ediv_of_nonneg (by omega)
    have u3 : IntKind.i64.wrap (Y / 1000000) = Y / 1000000 := wrapI (by omega) (by omega)
    have u4 : IntKind.i64.wrap (k : Int) = (k : Int) := wrapI (by omega) (by omega)
    generalize Y / 1000000 = Z at *
    clear bk eg ek
    go_enter Try.func20, Try.ntmps20
    go_wp2_with fail
    refine (cT _ HT.out).mono ?_
    rintro e w1 ⟨rfl, q1⟩
    go_wp2_with fail
    refine (cL _ (c.keep HT.out q1)).mono ?_
    rintro e w2 ⟨rfl, q2⟩
    replace q1 := q1.trans q2
    go_wp2
    go_ret
    exact ⟨by simp, q1⟩
  · obtain ⟨k, ek⟩ : ∃ k : Nat, ((H + 99) / 100).toNat = k := ⟨_, rfl⟩
    have hk : k ≤ L.length := by omega
    have cU := fun w => upw_any H 100 (by omega) (by omega) (by omega) (by omega) w
    rw [show (H + 100 - 1) / 100 = (k : Int) by omega] at cU
    have cL := fun w ht => c.high (.pointer (some a)) L k w hb (by unfold I64; omega) ht
    rw [nearI_of _ _ hk] at cL
    have bk := hb.at k hk
    rw [ek]
    generalize highT L k = Y at *
    have cV := fun w => upw_any Y 1000000 (by omega) (by omega) (by omega) (by omega) w
    rw [show Y + 1000000 - 1 = Y + 999999 by omega] at cV
    have u4 : IntKind.i64.wrap (k : Int) = (k : Int) := wrapI (by omega) (by omega)
    generalize (Y + 999999) / 1000000 = Z at *
    clear bk eg ek
    go_enter Try.func20, Try.ntmps20
    go_wp2_with fail
    refine (cT _ HT.out).mono ?_
    rintro e w1 ⟨rfl, q1⟩
    go_wp2_with fail
    refine (cU _).mono ?_
    rintro e w2 ⟨rfl, rfl⟩
    go_wp2_with fail
    refine (cL _ (c.keep HT.out q1)).mono ?_
    rintro e w3 ⟨rfl, q2⟩
    replace q1 := q1.trans q2
    go_wp2_with fail
    refine (cV _).mono ?_
    rintro e w4 ⟨rfl, rfl⟩
    go_wp2
    go_ret
    exact ⟨by simp, q1⟩

/-- True's own sums, as a function value. -/
theorem held_any (c : TabC T) (a : Addr) (L : List (Int × Int)) (part : Int) (i : Nat) (bt bp : Nat) (w : World) (hb : TBnd L) (hi : i ≤ L.length) (hp : I64 part) (ht : T w (.pointer (some a)) L)
    (h1 : w.cell? ⟨bt, 0, none⟩ = some (.pointer (some a))) (h2 : w.cell? ⟨bp, 0, none⟩ = some (.int .i64 part)) :
    Calls Try.prog 35 #[.int .i64 i, .pointer (some ⟨bt, 0, none⟩), .pointer (some ⟨bp, 0, none⟩)] w fun e w' => e = .returned (.int .i64 (trI L part i)) ∧ B w w' := by
  have hn6 := hb.n
  have cT := fun w ht => c.tru (.pointer (some a)) L i part w hb (by unfold I64; omega) hp ht
  rw [nearI_of _ _ hi] at cT
  have eT : trI L part i = trueM (lowT L i) (highT L i) (min (max part 0) 1000) := rfl
  rw [← eT] at cT
  clear eT
  generalize trI L part i = Y at *
  have HT := Lib.hid ht
  clear ht
  go_enter Try.func35, Try.ntmps35
  go_wp2_with fail
  refine (cT _ HT.out).mono ?_
  rintro e w1 ⟨rfl, q1⟩
  go_wp2
  go_ret
  exact ⟨rfl, q1⟩

structure HeldAt (T : World → Value → List (Int × Int) → Prop) (a : Addr) (L : List (Int × Int)) (part : Int) (H H1 : Nat) (w w' : World) : Prop where
  c1 : w'.cell? ⟨H, 0, none⟩ = some (.pointer (some a))
  c2 : w'.cell? ⟨H1, 0, none⟩ = some (.int .i64 part)
  t : T w' (.pointer (some a)) L
  b : B w w'
theorem HeldAt.keep {a : Addr} {L : List (Int × Int)} {part : Int} {H H1 : Nat} {w w1 w2 : World} (h : HeldAt T a L part H H1 w w1) (c : TabC T) (q : B w1 w2) : HeldAt T a L part H H1 w w2 :=
  ⟨q.keep h.c1, q.keep h.c2, c.keep h.t q, h.b.trans q⟩

set_option maxHeartbeats 4000000 in
theorem clv_true (c : TabC T) (p : Value) (L : List (Int × Int)) (v part : Int) (w : World) (hb : TBnd L) (hp : I64 part) (ht : T w p L) :
    Calls Try.prog 18 #[p, .int .i64 v, .int .i64 part] w fun e w' => e = .returned (.int .i64 (lvTrue L v part)) ∧ B w w' := by
  obtain ⟨a, rfl⟩ := c.ptr ht
  have hn6 := hb.n
  have S0 : HeldAt T a L part w.heap.size (w.heap.size + 1) w (((w.alloc (.cells #[.pointer (some a)] 29)).alloc (.cells #[.int .i64 part] 2)).drew) :=
    ⟨by simp [go_sem], by simp [go_sem], c.keep ht (((B.refl w).alloc _ _).alloc _ _).drew, (((B.refl w).alloc _ _).alloc _ _).drew⟩
  have cC := fun w => cubic_any v w
  have cS := fun w ht => c.slices (.pointer (some a)) L w hb ht
  have cL := fun w ht => c.tall (.pointer (some a)) L w hb ht
  have cT : ∀ (k : Nat), k ≤ L.length → ∀ w', HeldAt T a L part w.heap.size (w.heap.size + 1) w w' → Calls Try.prog 35 #[.int .i64 k, .pointer (some ⟨w.heap.size, 0, none⟩), .pointer (some ⟨w.heap.size + 1, 0, none⟩)] w' fun e w2 => e = .returned (.int .i64 (trI L part k)) ∧ B w' w2 :=
    fun k hk w' h => held_any c a L part k _ _ w' hb hk hp h.t h.c1 h.c2
  have ek : ∀ args w, (callFunc 35 args).run Try.prog w = .ok (.enter 35 args) w := enters_of Try.func35 (by kernel_rfl) rfl
  obtain ⟨x0, x1⟩ := cub_bnd v
  have hbt : ∀ k, k ≤ L.length → 0 ≤ trI L part k ∧ trI L part k ≤ 24000000000000 := fun k hk => by
    have a := hb.at k hk; have b := trI_bnd hb part k hk; omega
  have hmono : ∀ i j, i ≤ j → j ≤ L.length → trI L part i ≤ trI L part j := fun i j hij _ => by
    have := low_all hb i j hij
    unfold trI
    exact true_rise this.1 this.2 (by omega) (by omega)
  have cF := fun x w' (h : HeldAt T a L part w.heap.size (w.heap.size + 1) w w') => first_any 35 #[] #[.pointer (some ⟨w.heap.size, 0, none⟩), .pointer (some ⟨w.heap.size + 1, 0, none⟩)] L.length (trI L part) x w' ek (by omega)
    (fun i hi w1 h1 => cT i hi w1 (h.keep c h1)) hmono
  have hz := trI_zero L part
  unfold lvTrue
  generalize cubM v = x at *
  have hmid := lvT_mid (t := trI L part) (n := L.length) (x := x) hz
  have hover := (lvT_bnd (t := trI L part) (n := L.length) (x := x) hz x0).2.2.2
  have hzero : ¬ trI L part L.length < x → x = 0 → lvT (trI L part) L.length x = 0 := fun h1 h2 => by unfold lvT; rw [if_neg h1, if_pos h2]
  replace cF := cF x
  generalize lvT (trI L part) L.length x = R at *
  generalize trI L part = t at *
  have hmf : ∀ (fn : Fn) (first cap : Array Value) (w : World), (Instr.makeFunc fn first cap).run Try.prog w = .ok (.func fn first cap) w := fun _ _ _ _ => rfl
  have cTn := cT L.length (Nat.le_refl _)
  clear hmono ek ht
  by_cases ho : t L.length < x
  · have hoB : decide (t L.length < x) = true := decide_eq_true ho
    have HR := Lib.hid (hover ho)
    have w1 : IntKind.i64.wrap ((L.length : Int) * 100 + 1) = (L.length : Int) * 100 + 1 := wrapI (by omega) (by omega)
    clear hmid hover hzero hbt cT hz ho cF
    generalize t L.length = Y at *
    go_enter Try.func18, Try.ntmps18
    go_wp2
    refine wp_region_noPanic ?_
    refine wp_region_seq (S := fun w' => HeldAt T a L part w.heap.size (w.heap.size + 1) w w') [(0, 0), (2, 0), (1, 2), (3, 2), (4, 0), (5, 0)] [0, 1, 0, 6, 11, 31] [0, 1, 0, 4, 2, 8] (by kernel_rfl) (by kernel_rfl) (fun _ _ _ _ _ h => h) ?_ (fun hH => ?_)
    · exact S0
    refine wpSeq_take (d := 15) (v := ?_) rfl rfl (by kernel_rfl) (fun w hS => ?_) ?_
    rotate_left
    · go_simp <;> with_reducible rfl
    dsimp only [List.set_cons_zero, List.set_cons_succ]
    refine wpSeq_take (d := 17) (v := ?_) rfl rfl (by kernel_rfl) (fun w hS => ?_) ?_
    rotate_left
    have hS1 := hS.c1
    · go_simp <;> with_reducible rfl
    dsimp only [List.set_cons_zero, List.set_cons_succ]
    refine wpSeq_call rfl (by kernel_rfl) (fun K hK => ?_)
    go_simp
    (with_reducible refine (cC _).mono ?_)
    rintro e w' ⟨rfl, rfl⟩
    refine hK.out _ _ hH (fun hH => ?_)
    clear hK
    refine wpSeq_call rfl (by kernel_rfl) (fun K hK => ?_)
    go_simp
    (with_reducible refine (cS _ hH.t).mono ?_)
    rintro e w' ⟨rfl, hq⟩
    refine hK.out _ _ ?_ (fun hH => ?_)
    · exact hH.keep c hq
    clear hK
    refine wpSeq_take (d := 8) (v := ?_) rfl rfl (by kernel_rfl) (fun w hS => ?_) ?_
    rotate_left
    · go_simp <;> with_reducible rfl
    dsimp only [List.set_cons_zero, List.set_cons_succ]
    refine wpSeq_take (d := 9) (v := ?_) rfl rfl (by kernel_rfl) (fun w hS => ?_) ?_
    rotate_left
    · go_simp <;> with_reducible rfl
    dsimp only [List.set_cons_zero, List.set_cons_succ]
    refine wpSeq_done ?_
    refine NoPanic.normal ?_
    generalize w.heap.size = H at *
    go_wp2_with fail
    refine (cTn _ hH).mono ?_
    rintro e w1 ⟨rfl, q1⟩
    replace hH := hH.keep c q1
    clear q1
    have k1 := hH.c1
    go_wp2_with fail
    refine (cL _ hH.t).mono ?_
    rintro e w2 ⟨rfl, q2⟩
    have g := hH.b.trans q2
    go_wp2
    go_ret
    exact ⟨by rw [HR.out, Int.mul_comm 100]; rfl, g⟩
  have hoB : decide (t L.length < x) = false := decide_eq_false ho
  by_cases h0 : x = 0
  · have HR := Lib.hid (hzero ho h0)
    subst h0
    clear hmid hover hzero hbt cT hz ho cF cL
    generalize t L.length = Y at *
    go_enter Try.func18, Try.ntmps18
    go_wp2
    refine wp_region_noPanic ?_
    refine wp_region_seq (S := fun w' => HeldAt T a L part w.heap.size (w.heap.size + 1) w w') [(0, 0), (2, 0), (1, 2), (3, 2), (4, 0), (5, 0)] [0, 1, 0, 6, 11, 31] [0, 1, 0, 4, 2, 8] (by kernel_rfl) (by kernel_rfl) (fun _ _ _ _ _ h => h) ?_ (fun hH => ?_)
    · exact S0
    refine wpSeq_take (d := 15) (v := ?_) rfl rfl (by kernel_rfl) (fun w hS => ?_) ?_
    rotate_left
    · go_simp <;> with_reducible rfl
    dsimp only [List.set_cons_zero, List.set_cons_succ]
    refine wpSeq_take (d := 17) (v := ?_) rfl rfl (by kernel_rfl) (fun w hS => ?_) ?_
    rotate_left
    have hS1 := hS.c1
    · go_simp <;> with_reducible rfl
    dsimp only [List.set_cons_zero, List.set_cons_succ]
    refine wpSeq_call rfl (by kernel_rfl) (fun K hK => ?_)
    go_simp
    (with_reducible refine (cC _).mono ?_)
    rintro e w' ⟨rfl, rfl⟩
    refine hK.out _ _ hH (fun hH => ?_)
    clear hK
    refine wpSeq_call rfl (by kernel_rfl) (fun K hK => ?_)
    go_simp
    (with_reducible refine (cS _ hH.t).mono ?_)
    rintro e w' ⟨rfl, hq⟩
    refine hK.out _ _ ?_ (fun hH => ?_)
    · exact hH.keep c hq
    clear hK
    refine wpSeq_take (d := 8) (v := ?_) rfl rfl (by kernel_rfl) (fun w hS => ?_) ?_
    rotate_left
    · go_simp <;> with_reducible rfl
    dsimp only [List.set_cons_zero, List.set_cons_succ]
    refine wpSeq_take (d := 9) (v := ?_) rfl rfl (by kernel_rfl) (fun w hS => ?_) ?_
    rotate_left
    · go_simp <;> with_reducible rfl
    dsimp only [List.set_cons_zero, List.set_cons_succ]
    refine wpSeq_done ?_
    refine NoPanic.normal ?_
    generalize w.heap.size = H at *
    go_wp2_with fail
    refine (cTn _ hH).mono ?_
    rintro e w1 ⟨rfl, q1⟩
    replace hH := hH.keep c q1
    clear q1
    have g := hH.b
    go_wp2
    go_ret
    exact ⟨by rw [HR.out]; rfl, g⟩
  have h0B : (x == 0) = false := by simpa using h0
  obtain ⟨i, i1, i2, i3, i4, hR⟩ := hmid (by omega) (by omega)
  rw [i1] at cF
  have HR := Lib.hid hR
  have cTi := cT i (by omega)
  have cTi1 := cT (i + 1) i2
  have bi := hbt i (by omega)
  have bi1 := hbt (i + 1) i2
  obtain ⟨d, ed⟩ : ∃ d, t (i + 1) - t i = d := ⟨_, rfl⟩
  obtain ⟨y, ey⟩ : ∃ y, (x - t i) * 100 = y := ⟨_, rfl⟩
  rw [ed, ey] at HR
  have hd0 : ¬ d = 0 := by omega
  have fb : 0 ≤ y / d ∧ y / d ≤ 100 := by
    have := frac_bnd i3 i4
    rw [ed, ey] at this
    exact ⟨this.1, this.2.1⟩
  have u1' : IntKind.i64.wrap (((i + 1 : Nat) : Int) - 1) = (i : Int) := by rw [show ((i + 1 : Nat) : Int) - 1 = (i : Int) by omega]; exact wrapI (by omega) (by omega)
  rw [show ((i + 1 : Nat) : Int) = (i : Int) + 1 by omega] at u1' cF cTi1
  have u1 : IntKind.i64.wrap (100 * (i : Int)) = 100 * (i : Int) := wrapI (by omega) (by omega)
  have u0 : IntKind.i64.wrap (i : Int) = (i : Int) := wrapI (by omega) (by omega)
  have u2 : IntKind.i64.wrap (x - t i) = x - t i := wrapI (by omega) (by omega)
  have u3 : IntKind.i64.wrap ((x - t i) * 100) = y := by rw [ey]; exact wrapI (by omega) (by omega)
  have u4 : IntKind.i64.wrap (t (i + 1) - t i) = d := by rw [ed]; exact wrapI (by omega) (by omega)
  have u5 : y.tdiv d = y / d := Int.tdiv_eq_ediv_of_nonneg (by omega)
  have u6 : IntKind.i64.wrap (y / d) = y / d := wrapI (by omega) (by omega)
  have u7 : IntKind.i64.wrap (100 * (i : Int) + y / d) = 100 * (i : Int) + y / d := wrapI (by omega) (by omega)
  clear hover hzero hbt i1 hmid hR cT cL ed ey
  generalize t (i + 1) = Y1 at *
  generalize t i = Y0 at *
  generalize t L.length = YL at *
  generalize y / d = z at *
  go_enter Try.func18, Try.ntmps18
  go_wp2
  refine wp_region_noPanic ?_
  refine wp_region_seq (S := fun w' => HeldAt T a L part w.heap.size (w.heap.size + 1) w w') [(0, 0), (2, 0), (1, 2), (3, 2), (4, 0), (5, 0)] [0, 1, 0, 6, 11, 31] [0, 1, 0, 4, 2, 8] (by kernel_rfl) (by kernel_rfl) (fun _ _ _ _ _ h => h) ?_ (fun hH => ?_)
  · exact S0
  refine wpSeq_take (d := 15) (v := ?_) rfl rfl (by kernel_rfl) (fun w hS => ?_) ?_
  rotate_left
  · go_simp <;> with_reducible rfl
  dsimp only [List.set_cons_zero, List.set_cons_succ]
  refine wpSeq_take (d := 17) (v := ?_) rfl rfl (by kernel_rfl) (fun w hS => ?_) ?_
  rotate_left
  have hS1 := hS.c1
  · go_simp <;> with_reducible rfl
  dsimp only [List.set_cons_zero, List.set_cons_succ]
  refine wpSeq_call rfl (by kernel_rfl) (fun K hK => ?_)
  go_simp
  (with_reducible refine (cC _).mono ?_)
  rintro e w' ⟨rfl, rfl⟩
  refine hK.out _ _ hH (fun hH => ?_)
  clear hK
  refine wpSeq_call rfl (by kernel_rfl) (fun K hK => ?_)
  go_simp
  (with_reducible refine (cS _ hH.t).mono ?_)
  rintro e w' ⟨rfl, hq⟩
  refine hK.out _ _ ?_ (fun hH => ?_)
  · exact hH.keep c hq
  clear hK
  refine wpSeq_take (d := 8) (v := ?_) rfl rfl (by kernel_rfl) (fun w hS => ?_) ?_
  rotate_left
  · go_simp <;> with_reducible rfl
  dsimp only [List.set_cons_zero, List.set_cons_succ]
  refine wpSeq_take (d := 9) (v := ?_) rfl rfl (by kernel_rfl) (fun w hS => ?_) ?_
  rotate_left
  · go_simp <;> with_reducible rfl
  dsimp only [List.set_cons_zero, List.set_cons_succ]
  refine wpSeq_done ?_
  refine NoPanic.normal ?_
  generalize w.heap.size = H at *
  go_wp2_with fail
  refine (cTn _ hH).mono ?_
  rintro e w1 ⟨rfl, q1⟩
  replace hH := hH.keep c q1
  clear q1
  go_wp2_with fail
  refine (cF _ hH).mono ?_
  rintro e w2 ⟨rfl, q1⟩
  replace hH := hH.keep c q1
  clear q1
  go_wp2_with fail
  refine (cTi _ hH).mono ?_
  rintro e w3 ⟨rfl, q1⟩
  replace hH := hH.keep c q1
  clear q1
  go_wp2_with fail
  refine (cTi1 _ hH).mono ?_
  rintro e w4 ⟨rfl, q1⟩
  have g := hH.b.trans q1
  go_wp2
  go_ret
  exact ⟨by rw [HR.out]; rfl, g⟩

/-- The code's levels do what the document says, of any tables that do. -/
theorem lv_of (c : TabC T) : LvC T := ⟨fun v L x w hb _ ht => clv_low c v L x w hb ht, fun v L x w hb _ ht => clv_high c v L x w hb ht, fun v L x part w hb _ hp ht => clv_true c v L x part w hb hp ht⟩
theorem vol_of (c : TabC T) : VolC T := ⟨fun v L h up w hb _ ht => clv_vol c v L h up w hb ht⟩
end Go.Proofs.Ytbeeaakkgfccfaa
