/-
  A law and what it rests on.
-/
import Derived.Test.YtjdkhobkdlldnaaDoorY23
namespace Go.Proofs.YtjdkhobkdlldnaaDoor
open Go.RowKit
set_option linter.unusedVariables false

def tpT (u : Bool) : ByteArray := if u then nameT2 else nameT1
def tpN (e : Bool) : Int := if e then 1 else 0
def tpS (u e : Bool) : List Sp := [⟨0, tpT u, [], 0, 0⟩, ⟨1, ⟨#[]⟩, [], 0, tpN e⟩, ⟨2, ⟨#[]⟩, [⟨namePlate, 0, 0⟩, ⟨nameTube, 0, 0⟩], 3, 0⟩]
def tpL (ps : List (Bool × Bool)) : List Sp := ps.flatMap fun p => tpS p.1 p.2
def tpO : ByteArray → List (Bool × Bool) → List Opx
  | _, [] => []
  | last, p :: ps => ⟨⟨namePlate, 0, 0⟩, ⟨nameTube, 0, 0⟩, 3, tpT p.1, p.2 || !(last.toList == (tpT p.1).toList)⟩ :: tpO (tpT p.1) ps
/-- Which are new ones. -/
def tpW (last : ByteArray) (ps : List (Bool × Bool)) : List Bool := (tpO last ps).map (·.nw)
def tpLast (ps : List (Bool × Bool)) : ByteArray := match ps.getLast? with
  | none => ⟨#[]⟩
  | some p => tpT p.1
theorem tpL_len (ps : List (Bool × Bool)) : (tpL ps).length = 3 * ps.length := by
  induction ps with
  | nil => rfl
  | cons p ps ih =>
    show (tpS p.1 p.2 ++ tpL ps).length = _
    rw [List.length_append, ih, List.length_cons]
    show 3 + _ = _
    omega
theorem tpL_snoc (ps : List (Bool × Bool)) (p : Bool × Bool) : tpL (ps ++ [p]) = tpL ps ++ tpS p.1 p.2 := by simp [tpL]
theorem tpO_len : ∀ (last : ByteArray) (ps : List (Bool × Bool)), (tpO last ps).length = ps.length
  | _, [] => rfl
  | last, p :: ps => by rw [tpO, List.length_cons, tpO_len, List.length_cons]
theorem tpO_snoc : ∀ (last : ByteArray) (ps : List (Bool × Bool)) (p : Bool × Bool), tpO last (ps ++ [p]) = tpO last ps ++ [⟨⟨namePlate, 0, 0⟩, ⟨nameTube, 0, 0⟩, 3, tpT p.1, p.2 || !((match ps.getLast? with | none => last | some q => tpT q.1).toList == (tpT p.1).toList)⟩]
  | last, [], p => rfl
  | last, q :: ps, p => by
    rw [List.cons_append, tpO, tpO_snoc (tpT q.1) ps p, tpO, List.cons_append]
    congr 2
    cases ps with
    | nil => rfl
    | cons r ps =>
      rw [List.getLast?_cons_cons]
      cases hg : (r :: ps).getLast? with
      | none => rw [List.getLast?_eq_none_iff] at hg; cases hg
      | some x => rfl
theorem tpW_snoc (ps : List (Bool × Bool)) (p : Bool × Bool) : tpW ⟨#[]⟩ (ps ++ [p]) = tpW ⟨#[]⟩ ps ++ [p.2 || !((tpLast ps).toList == (tpT p.1).toList)] := by
  unfold tpW
  rw [tpO_snoc, List.map_append]
  rfl
theorem tpLast_snoc (ps : List (Bool × Bool)) (p : Bool × Bool) : tpLast (ps ++ [p]) = tpT p.1 := by
  unfold tpLast
  rw [List.getLast?_append]
  rfl
theorem tp_tip (u : Bool) : tipIn knD (tpT u) = true := by cases u <;> kernel_rfl
theorem tp_ne (u : Bool) : ((tpT u).toList == ([] : List UInt8)) = false := by cases u <;> kernel_rfl
theorem tp_in : ([⟨namePlate, 0, 0⟩, ⟨nameTube, 0, 0⟩] : List Wp).all (inD knD) = true := by kernel_rfl
theorem tp_ok (u e : Bool) : (tpS u e).all stepOk = true := by cases u <;> cases e <;> kernel_rfl
theorem tp_stepsOk {ps : List (Bool × Bool)} (h : ps.length ≤ 30) : stepsOk (tpL ps) = true := by
  unfold stepsOk
  rw [decide_eq_true (by rw [tpL_len]; omega), Bool.true_and, List.all_eq_true]
  intro s hs
  obtain ⟨p, _, hp⟩ := List.mem_flatMap.1 hs
  exact List.all_eq_true.1 (tp_ok p.1 p.2) s hp
theorem tp_step (u e : Bool) (i : Nat) (st : XSt) (L : List Sp) (hl : st.ops.length + 1 ≤ 1000) :
    ∃ st', runX knD i (tpS u e ++ L) st = runX knD (i + 3) L st' ∧ st'.ops = st.ops ++ [⟨⟨namePlate, 0, 0⟩, ⟨nameTube, 0, 0⟩, 3, tpT u, e || changedX (tpT u) st.ops⟩] := by
  have h1 : stepX knD i ⟨0, tpT u, [], 0, 0⟩ st = .ok { st with t := tpT u } := by
    unfold stepX
    rw [if_pos rfl]
    simp only
    rw [tp_tip]
    rfl
  have h2 : stepX knD (i + 1) ⟨1, ⟨#[]⟩, [], 0, tpN e⟩ { st with t := tpT u } = .ok { st with t := tpT u, fr := e } := by
    unfold stepX
    rw [if_neg (by simp), if_pos rfl]
    cases e <;> rfl
  have h3 : stepX knD (i + 2) ⟨2, ⟨#[]⟩, [⟨namePlate, 0, 0⟩, ⟨nameTube, 0, 0⟩], 3, 0⟩ { st with t := tpT u, fr := e } = .ok { st with t := tpT u, fr := e, ops := st.ops ++ [⟨⟨namePlate, 0, 0⟩, ⟨nameTube, 0, 0⟩, 3, tpT u, e || changedX (tpT u) st.ops⟩], of := st.of ++ [i + 2] } := by
    unfold stepX
    rw [if_neg (by simp), if_neg (by simp)]
    simp only
    rw [tp_ne, if_neg (by simp), tp_in]
    have e1 : movesS ⟨2, ⟨#[]⟩, [⟨namePlate, 0, 0⟩, ⟨nameTube, 0, 0⟩], 3, 0⟩ = [opOf ⟨namePlate, 0, 0⟩ ⟨nameTube, 0, 0⟩ 3] := rfl
    rw [e1, if_neg (by simp), if_neg (by simp; omega)]
    rfl
  refine ⟨{ st with t := tpT u, fr := e, ops := st.ops ++ [⟨⟨namePlate, 0, 0⟩, ⟨nameTube, 0, 0⟩, 3, tpT u, e || changedX (tpT u) st.ops⟩], of := st.of ++ [i + 2] }, ?_, rfl⟩
  show runX knD i (_ :: _ :: _ :: L) st = _
  rw [runX, h1]
  simp only
  rw [runX, h2]
  simp only
  rw [runX, h3]
theorem tp_run : ∀ (ps : List (Bool × Bool)) (i : Nat) (st : XSt) (last : ByteArray), (∀ u, changedX (tpT u) st.ops = !(last.toList == (tpT u).toList)) → st.ops.length + ps.length ≤ 1000 → ∃ st', runX knD i (tpL ps) st = .ok st' ∧ st'.ops = st.ops ++ tpO last ps
  | [], i, st, last, _, _ => ⟨st, rfl, by simp [tpO]⟩
  | p :: ps, i, st, last, hc, hl => by
    simp only [List.length_cons] at hl
    obtain ⟨st1, h1, h2⟩ := tp_step p.1 p.2 i st (tpL ps) (by omega)
    obtain ⟨st2, h3, h4⟩ := tp_run ps (i + 3) st1 (tpT p.1) (fun u => by
      rw [h2]
      unfold changedX
      rw [List.getLast?_append]
      rfl) (by rw [h2, List.length_append]; simp; omega)
    refine ⟨st2, by show runX knD i (tpS p.1 p.2 ++ tpL ps) st = _; rw [h1, h3], ?_⟩
    rw [h4, h2, hc, List.append_assoc]
    rfl
theorem tp_ops {ps : List (Bool × Bool)} (h : ps.length ≤ 30) : ∃ st, opsX knD (tpL ps) = .ok st ∧ st.ops = tpO ⟨#[]⟩ ps := by
  unfold opsX
  rw [tp_stepsOk h]
  obtain ⟨st, h1, h2⟩ := tp_run ps 0 xst0 ⟨#[]⟩ (fun u => by cases u <;> kernel_rfl) (by show 0 + _ ≤ _; omega)
  exact ⟨st, h1, by rw [h2]; rfl⟩
theorem tp_I (ps : List (Bool × Bool)) : SpsI (tpL ps) := fun s hs => by
  obtain ⟨p, _, hp⟩ := List.mem_flatMap.1 hs
  simp only [tpS, List.mem_cons, List.not_mem_nil, or_false] at hp
  rcases hp with rfl | rfl | rfl
  · intro p hp; simp at hp
  · intro p hp; simp at hp
  · intro p hp
    simp only [List.mem_cons, List.not_mem_nil, or_false] at hp
    rcases hp with rfl | rfl <;> (unfold I64; simp)
def IsBs (w : World) (v : Value) (l : List Bool) : Prop := ∃ ao cap, v = .slice ao l.length cap ∧ l.length ≤ 9223372036854775807 ∧ ∀ (i : Nat) (x : Bool), l[i]? = some x → ∃ b o, ao = some ⟨b, o, none⟩ ∧ w.cell? ⟨b, o + i, none⟩ = some (.bool x)
theorem spot_bool {w : World} {p : Addr} {x : Bool} (h : w.cell? p = some (.bool x)) : p.spot = none := by
  cases hsp : p.spot with
  | none => rfl
  | some x =>
    unfold World.cell? at h
    split at h
    · simp [hsp] at h
    · cases h
theorem isBs_nil (w : World) : IsBs w (.slice none 0 0) [] := ⟨none, 0, rfl, by simp, fun i x h => by simp at h⟩
theorem isBs_of {w : World} {a : Addr} {len cap : Nat} {Bf : Nat → Bool} (h1 : len ≤ cap) (h2 : cap ≤ maxLen) (hc : ∀ i, i < cap → w.cell? (a.add i) = some (.bool (Bf i))) : IsBs w (.slice (some a) len cap) ((List.range len).map Bf) := by
  have hl : ((List.range len).map Bf).length = len := by rw [List.length_map, List.length_range]
  refine ⟨some a, cap, by rw [hl], by rw [hl]; unfold maxLen at h2; omega, fun i x hi => ?_⟩
  have hlt : i < len := by have := (List.getElem?_eq_some_iff.1 hi).1; omega
  rw [List.getElem?_map, List.getElem?_range hlt] at hi
  obtain rfl : Bf i = x := by simpa using hi
  have h0 := hc 0 (by omega)
  have hsp : a.spot = none := spot_bool (x := Bf 0) (by have e0 : a.add 0 = a := by unfold Addr.add; simp
                                                        rw [← e0]; exact h0)
  have ea : a.add i = ⟨a.block, a.off + i, none⟩ := by
    unfold Addr.add
    split
    · rename_i h; subst h; rw [Nat.add_zero, ← hsp]
    · rfl
  have hcc := hc i (by omega)
  rw [ea] at hcc
  exact ⟨a.block, a.off, by rw [← hsp], hcc⟩
theorem IsBs.keepB {w w' : World} {v : Value} {l : List Bool} (h : IsBs w v l) (q : B w w') : IsBs w' v l := by
  obtain ⟨ao, cap, h1, h2, h3⟩ := h
  exact ⟨ao, cap, h1, h2, fun i x hx => let ⟨b, o, e, hc⟩ := h3 i x hx; ⟨b, o, e, q.keep hc⟩⟩
end Go.Proofs.YtjdkhobkdlldnaaDoor
namespace Go.Proofs.YtjdkhobkdlldnaaDoor
open Go.RowKit
set_option linter.unusedVariables false

theorem boolI13 : (Tryd.prog.info? 4).map (fun i => (i.zero, i.size, i.bytes)) = some (some (.bool false), 1, 1) := by kernel_rfl
theorem StS.grown {w w' : World} {base b2 : Nat} {sv v2 : Value} {S : List Sp} {vs x2 : List Value} {e2 : TypeId} {s2 n2 : Nat} (h : StS w base sv S vs) (hg : w.grownBy w' v2.ownBlock) (hr : w.ownsRow b2 e2 s2 v2 n2 x2) (he : 27 ≠ e2 ∧ 36 ≠ e2) : StS w' base sv S vs :=
  ⟨h.sl, own_grownU h.so hg hr he.1, fun j u s h1 h2 => own_grownU (h.sr j u s h1 h2) hg hr he.2⟩
theorem tips_wells {w : World} {base b : Nat} {u e : Bool} (hw : w.ownsRow base 36 3 (.slice (some ⟨b, 0, none⟩) 2 2) 2 (flatWp [⟨namePlate, 0, 0⟩, ⟨nameTube, 0, 0⟩])) {j : Nat} {v : Value} {s : Sp}
    (h1 : ([.slice none 0 0, .slice none 0 0, .slice (some ⟨b, 0, none⟩) 2 2] : List Value)[j]? = some v) (h2 : (tpS u e)[j]? = some s) : w.ownsRow base 36 3 v s.w.length (flatWp s.w) := by
  match j, h1, h2 with
  | 0, h1, h2 => cases h1; cases h2; exact World.ownsRow_nil _ _ _ _
  | 1, h1, h2 => cases h1; cases h2; exact World.ownsRow_nil _ _ _ _
  | 2, h1, h2 => cases h1; cases h2; exact hw
  | n + 3, h1, h2 => simp at h1
set_option maxRecDepth 100000 in
set_option maxHeartbeats 4000000 in
theorem tips13_any (uv ev : Value) (us es : List Bool) (w : World) (hU : IsBs w uv us) (hE : IsBs w ev es) : Calls Tryd.prog 4 #[uv, ev] w fun e w' => e = .returned (.bool true) ∧ B w w' := by
  have ck := known13_any w
  obtain ⟨uo, uc, rfl, hun, hUc⟩ := hU
  obtain ⟨eo, ec, rfl, hen, hEc⟩ := hE
  obtain ⟨n, hn⟩ : ∃ n, us.length = n := ⟨_, rfl⟩
  obtain ⟨m, hm⟩ : ∃ m, es.length = m := ⟨_, rfl⟩
  rw [hn] at hun ⊢
  rw [hm] at hen ⊢
  by_cases hbig : 30 < n ∨ m < n
  · have hor : (decide ((30 : Int) < (n : Int)) = true ∧ decide (30 < n) = true) ∨ (decide ((30 : Int) < (n : Int)) = false ∧ decide (30 < n) = false ∧ decide ((m : Int) < (n : Int)) = true ∧ decide (m < n) = true) := by
      by_cases h1 : 30 < n
      · exact .inl ⟨decide_eq_true (by omega), decide_eq_true h1⟩
      · exact .inr ⟨decide_eq_false (by omega), decide_eq_false h1, decide_eq_true (by omega), decide_eq_true (by omega)⟩
    clear hbig hUc hEc hn hm
    rcases hor with ⟨g1, g2⟩ | ⟨g1, g2, g3, g4⟩
    all_goals
      go_enter Tryd.func4, Tryd.ntmps4
      go_wp2_with fail
      refine ck.mono ?_
      rintro _ w1 ⟨rfl, q1⟩
      go_wp2
      go_ret
      exact ⟨rfl, q1⟩
  have g1 : decide ((30 : Int) < (n : Int)) = false := decide_eq_false (by omega)
  have g2 : decide (30 < n) = false := decide_eq_false (by omega)
  have g3 : decide ((m : Int) < (n : Int)) = false := decide_eq_false (by omega)
  have g4 : decide (m < n) = false := decide_eq_false (by omega)
  have hn30 : n ≤ 30 := by omega
  have hnm : n ≤ m := by omega
  obtain ⟨i0, hi0, hz0, hz1, hz2⟩ := info_of stepI13
  obtain ⟨j0, hj0, hy0, hy1, hy2⟩ := info_of boolI13
  obtain ⟨ps, hps⟩ : ∃ ps, us.zip es = ps := ⟨_, rfl⟩
  have hpl : ps.length = n := by rw [← hps, List.length_zip, hn, hm]; omega
  have hpa : ∀ (i : Nat) p, ps[i]? = some p → us[i]? = some p.1 ∧ es[i]? = some p.2 := fun i p h => by
    rw [← hps] at h
    rw [List.getElem?_zip_eq_some] at h
    exact h
  have HL := Lib.hid hpl
  have HP := Lib.hid hpa
  have HC := Lib.hid (And.intro hUc hEc)
  have cB := fun w' lv (h : IsU32s w' lv [7, 7]) => boards13_any 0 1 0 1 lv [7, 7] (by decide) (by decide) (by decide) (by decide) (by decide) w' h
  clear hbig hUc hEc hn hm hps hpl hpa
  go_enter Tryd.func4, Tryd.ntmps4
  go_wp2_with fail
  refine ck.mono ?_
  rintro _ w1 ⟨rfl, q1⟩
  clear ck
  go_wp2_with fail
  refine Calls.mono (cB _ _ (u32s_77 w1)) ?_
  rintro e w2 ⟨P, X, b, wv, tv, fv, rfl, hPd, hM, _, _, q2⟩
  have cO := fun w' (q : B w2 w') lv L hL hI => xops_any knD hPd w' (hM.keepB q) (by show (fillsF _ _ _).length ≤ _; have := fillsF_len (wares7 0 1 0 1) [7, 7] 0; simp at this; omega) lv L hL hI
  have hqw := q1.trans (((B.refl w1).alloc #[.int .u32 7, .int .u32 7] 57).trans q2)
  have HB2 := Lib.hid (And.intro hPd hqw)
  generalize P.b = pb at *
  clear hM cB q1 q2 hPd hqw
  go_wp2_with fail
  go_loopw [11, 8, 9, 10] (fun iv sv nv lv wr => ∃ (i : Nat) (so no : Option Addr) (sc nc : Nat) (vs : List Value), i ≤ n ∧ iv = .int .i64 i ∧ sv = .slice so (3 * i) sc ∧ nv = .slice no i nc ∧ lv = .string (tpLast (ps.take i)) ∧ StS wr w2.heap.size (.slice so (3 * i) sc) (tpL (ps.take i)) vs ∧ wr.ownsRow w2.heap.size 4 1 (.slice no i nc) i ((tpW ⟨#[]⟩ (ps.take i)).map Value.bool) ∧ B w2 wr) (fun iv _ _ _ _ => n + 1 - (intOf iv).toNat)
  case atStart => exact ⟨0, none, none, 0, 0, [], Nat.zero_le _, rfl, rfl, rfl, rfl, StS.nil _ _, World.ownsRow_nil _ _ _ _, B.refl _⟩
  case round =>
    obtain ⟨i, so, no, sc, nc, vs, hi, rfl, rfl, rfl, rfl, hSt, hW, q⟩ := hrel
    obtain ⟨wo, rfl⟩ : ∃ wo : World, wo = wr := ⟨_, rfl⟩
    by_cases hl : i < n
    · have hlB : decide ((i : Int) < (n : Int)) = true := decide_eq_true (by omega)
      have hlN : decide (i < n) = true := decide_eq_true hl
      have hlI : (i : Int) < (n : Int) := by omega
      have hlM : (i : Int) < (m : Int) := by omega
      have hi0' : (0 : Int) ≤ (i : Int) := by omega
      have wk1 : IntKind.i64.wrap ((i : Int) + 1) = (i : Int) + 1 := by rw [IntKind.wrap_i64]; omega
      obtain ⟨p, hp⟩ : ∃ p, ps[i]? = some p := ⟨_, List.getElem?_eq_getElem (by rw [HL.out]; exact hl)⟩
      obtain ⟨pu, pe⟩ := HP.out i p hp
      obtain ⟨ub, uo', rfl, hu0⟩ := HC.out.1 i _ pu
      obtain ⟨eb, eo', rfl, he0⟩ := HC.out.2 i _ pe
      have x0 := q.keep (HB2.out.2.keep hu0)
      have x1 := q.keep (HB2.out.2.keep he0)
      have htk : ps.take (i + 1) = ps.take i ++ [p] := by rw [List.take_add_one, hp]; rfl
      obtain ⟨u, e⟩ := p
      simp only at x0 x1
      have HX := Lib.hid (And.intro hl (And.intro hSt (And.intro hW q)))
      have HT := Lib.hid htk
      clear hl hSt hW q hi hp pu pe hu0 he0 htk
      obtain ⟨LT, hLT⟩ : ∃ LT, tpLast (ps.take i) = LT := ⟨_, rfl⟩
      rw [hLT]
      have HLT := Lib.hid hLT
      clear hLT
      cases hu : u <;> cases he : e
      · subst hu he
        cases hBB : (LT.toList == (⟨#[116, 49]⟩ : ByteArray).toList)
        · have HB := Lib.hid hBB
          have hbb : ¬ LT.toList = [116, 49] := by have := hBB; rw [show (⟨#[116, 49]⟩ : ByteArray).toList = [116, 49] by kernel_rfl] at this; simpa using this
          have q0 : B wo ((wo.alloc (.cells #[.string ⟨#[112, 108, 97, 116, 101]⟩, .int .i64 0, .int .i64 0, .string ⟨#[116, 117, 98, 101]⟩, .int .i64 0, .int .i64 0] 36)).alloc (.cells #[.int .i64 0, .string ⟨#[116, 49]⟩, .slice none 0 0, .int .i64 0, .int .i64 0, .int .i64 1, .string ⟨#[]⟩, .slice none 0 0, .int .i64 0, .int .i64 0, .int .i64 2, .string ⟨#[]⟩, .slice (some ⟨wo.heap.size, 0, none⟩) 2 2, .int .i64 3, .int .i64 0] 27)) := ((B.refl _).alloc _ _).alloc _ _
          have hSt2 := HX.out.2.1.keep q0
          have own3 := hSt2.so
          rw [tpL_len, List.length_take, Nat.min_eq_left (by have := HX.out.1; have := HL.out; omega)] at own3
          have hw1 := row_keep (well_own wo w2.heap.size HX.out.2.2.2.below.size [⟨namePlate, 0, 0⟩, ⟨nameTube, 0, 0⟩] (by simp)) ((B.refl (wo.alloc (.cells #[.string ⟨#[112, 108, 97, 116, 101]⟩, .int .i64 0, .int .i64 0, .string ⟨#[116, 117, 98, 101]⟩, .int .i64 0, .int .i64 0] 36))).alloc #[.int .i64 0, .string ⟨#[116, 49]⟩, .slice none 0 0, .int .i64 0, .int .i64 0, .int .i64 1, .string ⟨#[]⟩, .slice none 0 0, .int .i64 0, .int .i64 0, .int .i64 2, .string ⟨#[]⟩, .slice (some ⟨wo.heap.size, 0, none⟩) 2 2, .int .i64 3, .int .i64 0] 27)
          have hwn2 := row_keep HX.out.2.2.1 q0
          have hb3 := (HX.out.2.2.2.trans q0).below.size
          have HY := Lib.hid (And.intro hSt2 (And.intro hw1 (And.intro (HX.out.2.2.2.trans q0) hwn2)))
          clear hSt2 hw1 q0 hwn2 hBB
          go_wp2_with (at_builtin; go_loud (refine wpList_append_lies _ rfl _ _ 22 rfl w2.heap.size 27 i0 _ 5 64 Tryd.underlying22 hi0 hz0 hz1 hz2 rfl (by omega) (.slice so (3 * i) sc) (3 * i) (flatSp (tpL (ps.take i)) vs) rfl own3 ⟨_, 0, none⟩ 3 3 [.int .i64 0, .string ⟨#[116, 49]⟩, .slice none 0 0, .int .i64 0, .int .i64 0, .int .i64 1, .string ⟨#[]⟩, .slice none 0 0, .int .i64 0, .int .i64 0, .int .i64 2, .string ⟨#[]⟩, .slice (some ⟨wo.heap.size, 0, none⟩) 2 2, .int .i64 3, .int .i64 0] rfl rfl (newest (by simp)) (fun u hu => by simp only [List.mem_cons, List.not_mem_nil, or_false] at hu; rcases hu with rfl | rfl | rfl | rfl | rfl | rfl | rfl | rfl | rfl | rfl | rfl | rfl | rfl | rfl | rfl <;> rfl) (by omega) (by unfold maxLen; omega) (by omega) hb3 _ rfl ?_; intro g1 c1 W4 hown4 hgrow4 hat4 hlt4; have hB4 := HY.out.2.2.1.grownBy hgrow4 (fun x hx => (own3.lt x hx).1); have hS4 := StS.add (T := tpS false false) (us := [.slice none 0 0, .slice none 0 0, .slice (some ⟨wo.heap.size, 0, none⟩) 2 2]) HY.out.1 (by rw [tpL_len, List.length_take, Nat.min_eq_left (by have := HX.out.1; have := HL.out; omega)]) hgrow4 rfl rfl hown4 (fun j u s h1 h2 => tips_wells HY.out.2.1 h1 h2); have hwn4 := own_grownU HY.out.2.2.2 hgrow4 HY.out.1.so (by decide); clear hgrow4 hat4 hlt4 own3 hown4 hb3; have qc : B W4 (W4.alloc (.cells #[.bool true] 4)) := (B.refl W4).alloc _ _; have hwn5 := row_keep hwn4 qc; have hb5 := (hB4.trans qc).below.size; replace hS4 := Lib.hid (And.intro (hS4.keep qc) (hB4.trans qc)); clear hwn4 qc hB4; go_wp2_with (at_builtin; go_loud (refine wpList_append_lies _ rfl _ _ 52 rfl w2.heap.size 4 j0 _ 1 1 Tryd.underlying52 hj0 hy0 hy1 hy2 rfl (by omega) (.slice no i nc) i _ rfl hwn5 ⟨_, 0, none⟩ 1 1 [.bool true] rfl rfl (newest rfl) (fun u hu => by simp only [List.mem_cons, List.not_mem_nil, or_false] at hu; subst hu; rfl) (by omega) (by unfold maxLen; omega) (by omega) hb5 _ rfl ?_; intro g2 c2 W5 hown5 hgrow5 hat5 hlt5; have hS5 := hS4.out.1.grown hgrow5 hwn5 (by decide); have hB5 := hS4.out.2.grownBy hgrow5 (fun x hx => (hwn5.lt x hx).1); clear hgrow5 hat5 hlt5 hwn5 hb5 hS4; replace hS5 := Lib.hid (And.intro hS5 (And.intro hown5 hB5)); clear hown5 hB5; go_wp2_with fail))))
          refine ⟨⟨i + 1, some ⟨g1, 0, none⟩, some ⟨g2, 0, none⟩, c1, c2, vs ++ [.slice none 0 0, .slice none 0 0, .slice (some ⟨wo.heap.size, 0, none⟩) 2 2], by have := HX.out.1; omega, by go_num, by rw [Nat.mul_add], rfl, ?_, ?_, ?_, hS5.out.2.2⟩, by have := HX.out.1; simp [intOf]; omega⟩
          · rw [HT.out, tpLast_snoc]; rfl
          · have hs := hS5.out.1
            rw [HT.out, tpL_snoc]
            exact hs
          · have hs := hS5.out.2.1
            rw [HT.out, tpW_snoc, List.map_append, HLT.out]
            have e2 : (LT.toList == (tpT false).toList) = false := HB.out
            simp only [e2]
            exact hs
        · have HB := Lib.hid hBB
          have hbb : LT.toList = [116, 49] := by have := hBB; rw [show (⟨#[116, 49]⟩ : ByteArray).toList = [116, 49] by kernel_rfl] at this; simpa using this
          have q0 : B wo ((wo.alloc (.cells #[.string ⟨#[112, 108, 97, 116, 101]⟩, .int .i64 0, .int .i64 0, .string ⟨#[116, 117, 98, 101]⟩, .int .i64 0, .int .i64 0] 36)).alloc (.cells #[.int .i64 0, .string ⟨#[116, 49]⟩, .slice none 0 0, .int .i64 0, .int .i64 0, .int .i64 1, .string ⟨#[]⟩, .slice none 0 0, .int .i64 0, .int .i64 0, .int .i64 2, .string ⟨#[]⟩, .slice (some ⟨wo.heap.size, 0, none⟩) 2 2, .int .i64 3, .int .i64 0] 27)) := ((B.refl _).alloc _ _).alloc _ _
          have hSt2 := HX.out.2.1.keep q0
          have own3 := hSt2.so
          rw [tpL_len, List.length_take, Nat.min_eq_left (by have := HX.out.1; have := HL.out; omega)] at own3
          have hw1 := row_keep (well_own wo w2.heap.size HX.out.2.2.2.below.size [⟨namePlate, 0, 0⟩, ⟨nameTube, 0, 0⟩] (by simp)) ((B.refl (wo.alloc (.cells #[.string ⟨#[112, 108, 97, 116, 101]⟩, .int .i64 0, .int .i64 0, .string ⟨#[116, 117, 98, 101]⟩, .int .i64 0, .int .i64 0] 36))).alloc #[.int .i64 0, .string ⟨#[116, 49]⟩, .slice none 0 0, .int .i64 0, .int .i64 0, .int .i64 1, .string ⟨#[]⟩, .slice none 0 0, .int .i64 0, .int .i64 0, .int .i64 2, .string ⟨#[]⟩, .slice (some ⟨wo.heap.size, 0, none⟩) 2 2, .int .i64 3, .int .i64 0] 27)
          have hwn2 := row_keep HX.out.2.2.1 q0
          have hb3 := (HX.out.2.2.2.trans q0).below.size
          have HY := Lib.hid (And.intro hSt2 (And.intro hw1 (And.intro (HX.out.2.2.2.trans q0) hwn2)))
          clear hSt2 hw1 q0 hwn2 hBB
          go_wp2_with (at_builtin; go_loud (refine wpList_append_lies _ rfl _ _ 22 rfl w2.heap.size 27 i0 _ 5 64 Tryd.underlying22 hi0 hz0 hz1 hz2 rfl (by omega) (.slice so (3 * i) sc) (3 * i) (flatSp (tpL (ps.take i)) vs) rfl own3 ⟨_, 0, none⟩ 3 3 [.int .i64 0, .string ⟨#[116, 49]⟩, .slice none 0 0, .int .i64 0, .int .i64 0, .int .i64 1, .string ⟨#[]⟩, .slice none 0 0, .int .i64 0, .int .i64 0, .int .i64 2, .string ⟨#[]⟩, .slice (some ⟨wo.heap.size, 0, none⟩) 2 2, .int .i64 3, .int .i64 0] rfl rfl (newest (by simp)) (fun u hu => by simp only [List.mem_cons, List.not_mem_nil, or_false] at hu; rcases hu with rfl | rfl | rfl | rfl | rfl | rfl | rfl | rfl | rfl | rfl | rfl | rfl | rfl | rfl | rfl <;> rfl) (by omega) (by unfold maxLen; omega) (by omega) hb3 _ rfl ?_; intro g1 c1 W4 hown4 hgrow4 hat4 hlt4; have hB4 := HY.out.2.2.1.grownBy hgrow4 (fun x hx => (own3.lt x hx).1); have hS4 := StS.add (T := tpS false false) (us := [.slice none 0 0, .slice none 0 0, .slice (some ⟨wo.heap.size, 0, none⟩) 2 2]) HY.out.1 (by rw [tpL_len, List.length_take, Nat.min_eq_left (by have := HX.out.1; have := HL.out; omega)]) hgrow4 rfl rfl hown4 (fun j u s h1 h2 => tips_wells HY.out.2.1 h1 h2); have hwn4 := own_grownU HY.out.2.2.2 hgrow4 HY.out.1.so (by decide); clear hgrow4 hat4 hlt4 own3 hown4 hb3; have qc : B W4 (W4.alloc (.cells #[.bool false] 4)) := (B.refl W4).alloc _ _; have hwn5 := row_keep hwn4 qc; have hb5 := (hB4.trans qc).below.size; replace hS4 := Lib.hid (And.intro (hS4.keep qc) (hB4.trans qc)); clear hwn4 qc hB4; go_wp2_with (at_builtin; go_loud (refine wpList_append_lies _ rfl _ _ 52 rfl w2.heap.size 4 j0 _ 1 1 Tryd.underlying52 hj0 hy0 hy1 hy2 rfl (by omega) (.slice no i nc) i _ rfl hwn5 ⟨_, 0, none⟩ 1 1 [.bool false] rfl rfl (newest rfl) (fun u hu => by simp only [List.mem_cons, List.not_mem_nil, or_false] at hu; subst hu; rfl) (by omega) (by unfold maxLen; omega) (by omega) hb5 _ rfl ?_; intro g2 c2 W5 hown5 hgrow5 hat5 hlt5; have hS5 := hS4.out.1.grown hgrow5 hwn5 (by decide); have hB5 := hS4.out.2.grownBy hgrow5 (fun x hx => (hwn5.lt x hx).1); clear hgrow5 hat5 hlt5 hwn5 hb5 hS4; replace hS5 := Lib.hid (And.intro hS5 (And.intro hown5 hB5)); clear hown5 hB5; go_wp2_with fail))))
          refine ⟨⟨i + 1, some ⟨g1, 0, none⟩, some ⟨g2, 0, none⟩, c1, c2, vs ++ [.slice none 0 0, .slice none 0 0, .slice (some ⟨wo.heap.size, 0, none⟩) 2 2], by have := HX.out.1; omega, by go_num, by rw [Nat.mul_add], rfl, ?_, ?_, ?_, hS5.out.2.2⟩, by have := HX.out.1; simp [intOf]; omega⟩
          · rw [HT.out, tpLast_snoc]; rfl
          · have hs := hS5.out.1
            rw [HT.out, tpL_snoc]
            exact hs
          · have hs := hS5.out.2.1
            rw [HT.out, tpW_snoc, List.map_append, HLT.out]
            have e2 : (LT.toList == (tpT false).toList) = true := HB.out
            simp only [e2]
            exact hs
      · subst hu he
        cases hBB : (LT.toList == (⟨#[116, 49]⟩ : ByteArray).toList)
        · have HB := Lib.hid hBB
          have hbb : ¬ LT.toList = [116, 49] := by have := hBB; rw [show (⟨#[116, 49]⟩ : ByteArray).toList = [116, 49] by kernel_rfl] at this; simpa using this
          have q0 : B wo ((wo.alloc (.cells #[.string ⟨#[112, 108, 97, 116, 101]⟩, .int .i64 0, .int .i64 0, .string ⟨#[116, 117, 98, 101]⟩, .int .i64 0, .int .i64 0] 36)).alloc (.cells #[.int .i64 0, .string ⟨#[116, 49]⟩, .slice none 0 0, .int .i64 0, .int .i64 0, .int .i64 1, .string ⟨#[]⟩, .slice none 0 0, .int .i64 0, .int .i64 1, .int .i64 2, .string ⟨#[]⟩, .slice (some ⟨wo.heap.size, 0, none⟩) 2 2, .int .i64 3, .int .i64 0] 27)) := ((B.refl _).alloc _ _).alloc _ _
          have hSt2 := HX.out.2.1.keep q0
          have own3 := hSt2.so
          rw [tpL_len, List.length_take, Nat.min_eq_left (by have := HX.out.1; have := HL.out; omega)] at own3
          have hw1 := row_keep (well_own wo w2.heap.size HX.out.2.2.2.below.size [⟨namePlate, 0, 0⟩, ⟨nameTube, 0, 0⟩] (by simp)) ((B.refl (wo.alloc (.cells #[.string ⟨#[112, 108, 97, 116, 101]⟩, .int .i64 0, .int .i64 0, .string ⟨#[116, 117, 98, 101]⟩, .int .i64 0, .int .i64 0] 36))).alloc #[.int .i64 0, .string ⟨#[116, 49]⟩, .slice none 0 0, .int .i64 0, .int .i64 0, .int .i64 1, .string ⟨#[]⟩, .slice none 0 0, .int .i64 0, .int .i64 1, .int .i64 2, .string ⟨#[]⟩, .slice (some ⟨wo.heap.size, 0, none⟩) 2 2, .int .i64 3, .int .i64 0] 27)
          have hwn2 := row_keep HX.out.2.2.1 q0
          have hb3 := (HX.out.2.2.2.trans q0).below.size
          have HY := Lib.hid (And.intro hSt2 (And.intro hw1 (And.intro (HX.out.2.2.2.trans q0) hwn2)))
          clear hSt2 hw1 q0 hwn2 hBB
          go_wp2_with (at_builtin; go_loud (refine wpList_append_lies _ rfl _ _ 22 rfl w2.heap.size 27 i0 _ 5 64 Tryd.underlying22 hi0 hz0 hz1 hz2 rfl (by omega) (.slice so (3 * i) sc) (3 * i) (flatSp (tpL (ps.take i)) vs) rfl own3 ⟨_, 0, none⟩ 3 3 [.int .i64 0, .string ⟨#[116, 49]⟩, .slice none 0 0, .int .i64 0, .int .i64 0, .int .i64 1, .string ⟨#[]⟩, .slice none 0 0, .int .i64 0, .int .i64 1, .int .i64 2, .string ⟨#[]⟩, .slice (some ⟨wo.heap.size, 0, none⟩) 2 2, .int .i64 3, .int .i64 0] rfl rfl (newest (by simp)) (fun u hu => by simp only [List.mem_cons, List.not_mem_nil, or_false] at hu; rcases hu with rfl | rfl | rfl | rfl | rfl | rfl | rfl | rfl | rfl | rfl | rfl | rfl | rfl | rfl | rfl <;> rfl) (by omega) (by unfold maxLen; omega) (by omega) hb3 _ rfl ?_; intro g1 c1 W4 hown4 hgrow4 hat4 hlt4; have hB4 := HY.out.2.2.1.grownBy hgrow4 (fun x hx => (own3.lt x hx).1); have hS4 := StS.add (T := tpS false true) (us := [.slice none 0 0, .slice none 0 0, .slice (some ⟨wo.heap.size, 0, none⟩) 2 2]) HY.out.1 (by rw [tpL_len, List.length_take, Nat.min_eq_left (by have := HX.out.1; have := HL.out; omega)]) hgrow4 rfl rfl hown4 (fun j u s h1 h2 => tips_wells HY.out.2.1 h1 h2); have hwn4 := own_grownU HY.out.2.2.2 hgrow4 HY.out.1.so (by decide); clear hgrow4 hat4 hlt4 own3 hown4 hb3; have qc : B W4 (W4.alloc (.cells #[.bool true] 4)) := (B.refl W4).alloc _ _; have hwn5 := row_keep hwn4 qc; have hb5 := (hB4.trans qc).below.size; replace hS4 := Lib.hid (And.intro (hS4.keep qc) (hB4.trans qc)); clear hwn4 qc hB4; go_wp2_with (at_builtin; go_loud (refine wpList_append_lies _ rfl _ _ 52 rfl w2.heap.size 4 j0 _ 1 1 Tryd.underlying52 hj0 hy0 hy1 hy2 rfl (by omega) (.slice no i nc) i _ rfl hwn5 ⟨_, 0, none⟩ 1 1 [.bool true] rfl rfl (newest rfl) (fun u hu => by simp only [List.mem_cons, List.not_mem_nil, or_false] at hu; subst hu; rfl) (by omega) (by unfold maxLen; omega) (by omega) hb5 _ rfl ?_; intro g2 c2 W5 hown5 hgrow5 hat5 hlt5; have hS5 := hS4.out.1.grown hgrow5 hwn5 (by decide); have hB5 := hS4.out.2.grownBy hgrow5 (fun x hx => (hwn5.lt x hx).1); clear hgrow5 hat5 hlt5 hwn5 hb5 hS4; replace hS5 := Lib.hid (And.intro hS5 (And.intro hown5 hB5)); clear hown5 hB5; go_wp2_with fail))))
          refine ⟨⟨i + 1, some ⟨g1, 0, none⟩, some ⟨g2, 0, none⟩, c1, c2, vs ++ [.slice none 0 0, .slice none 0 0, .slice (some ⟨wo.heap.size, 0, none⟩) 2 2], by have := HX.out.1; omega, by go_num, by rw [Nat.mul_add], rfl, ?_, ?_, ?_, hS5.out.2.2⟩, by have := HX.out.1; simp [intOf]; omega⟩
          · rw [HT.out, tpLast_snoc]; rfl
          · have hs := hS5.out.1
            rw [HT.out, tpL_snoc]
            exact hs
          · have hs := hS5.out.2.1
            rw [HT.out, tpW_snoc, List.map_append, HLT.out]
            have e2 : (LT.toList == (tpT false).toList) = false := HB.out
            simp only [e2]
            exact hs
        · have HB := Lib.hid hBB
          have hbb : LT.toList = [116, 49] := by have := hBB; rw [show (⟨#[116, 49]⟩ : ByteArray).toList = [116, 49] by kernel_rfl] at this; simpa using this
          have q0 : B wo ((wo.alloc (.cells #[.string ⟨#[112, 108, 97, 116, 101]⟩, .int .i64 0, .int .i64 0, .string ⟨#[116, 117, 98, 101]⟩, .int .i64 0, .int .i64 0] 36)).alloc (.cells #[.int .i64 0, .string ⟨#[116, 49]⟩, .slice none 0 0, .int .i64 0, .int .i64 0, .int .i64 1, .string ⟨#[]⟩, .slice none 0 0, .int .i64 0, .int .i64 1, .int .i64 2, .string ⟨#[]⟩, .slice (some ⟨wo.heap.size, 0, none⟩) 2 2, .int .i64 3, .int .i64 0] 27)) := ((B.refl _).alloc _ _).alloc _ _
          have hSt2 := HX.out.2.1.keep q0
          have own3 := hSt2.so
          rw [tpL_len, List.length_take, Nat.min_eq_left (by have := HX.out.1; have := HL.out; omega)] at own3
          have hw1 := row_keep (well_own wo w2.heap.size HX.out.2.2.2.below.size [⟨namePlate, 0, 0⟩, ⟨nameTube, 0, 0⟩] (by simp)) ((B.refl (wo.alloc (.cells #[.string ⟨#[112, 108, 97, 116, 101]⟩, .int .i64 0, .int .i64 0, .string ⟨#[116, 117, 98, 101]⟩, .int .i64 0, .int .i64 0] 36))).alloc #[.int .i64 0, .string ⟨#[116, 49]⟩, .slice none 0 0, .int .i64 0, .int .i64 0, .int .i64 1, .string ⟨#[]⟩, .slice none 0 0, .int .i64 0, .int .i64 1, .int .i64 2, .string ⟨#[]⟩, .slice (some ⟨wo.heap.size, 0, none⟩) 2 2, .int .i64 3, .int .i64 0] 27)
          have hwn2 := row_keep HX.out.2.2.1 q0
          have hb3 := (HX.out.2.2.2.trans q0).below.size
          have HY := Lib.hid (And.intro hSt2 (And.intro hw1 (And.intro (HX.out.2.2.2.trans q0) hwn2)))
          clear hSt2 hw1 q0 hwn2 hBB
          go_wp2_with (at_builtin; go_loud (refine wpList_append_lies _ rfl _ _ 22 rfl w2.heap.size 27 i0 _ 5 64 Tryd.underlying22 hi0 hz0 hz1 hz2 rfl (by omega) (.slice so (3 * i) sc) (3 * i) (flatSp (tpL (ps.take i)) vs) rfl own3 ⟨_, 0, none⟩ 3 3 [.int .i64 0, .string ⟨#[116, 49]⟩, .slice none 0 0, .int .i64 0, .int .i64 0, .int .i64 1, .string ⟨#[]⟩, .slice none 0 0, .int .i64 0, .int .i64 1, .int .i64 2, .string ⟨#[]⟩, .slice (some ⟨wo.heap.size, 0, none⟩) 2 2, .int .i64 3, .int .i64 0] rfl rfl (newest (by simp)) (fun u hu => by simp only [List.mem_cons, List.not_mem_nil, or_false] at hu; rcases hu with rfl | rfl | rfl | rfl | rfl | rfl | rfl | rfl | rfl | rfl | rfl | rfl | rfl | rfl | rfl <;> rfl) (by omega) (by unfold maxLen; omega) (by omega) hb3 _ rfl ?_; intro g1 c1 W4 hown4 hgrow4 hat4 hlt4; have hB4 := HY.out.2.2.1.grownBy hgrow4 (fun x hx => (own3.lt x hx).1); have hS4 := StS.add (T := tpS false true) (us := [.slice none 0 0, .slice none 0 0, .slice (some ⟨wo.heap.size, 0, none⟩) 2 2]) HY.out.1 (by rw [tpL_len, List.length_take, Nat.min_eq_left (by have := HX.out.1; have := HL.out; omega)]) hgrow4 rfl rfl hown4 (fun j u s h1 h2 => tips_wells HY.out.2.1 h1 h2); have hwn4 := own_grownU HY.out.2.2.2 hgrow4 HY.out.1.so (by decide); clear hgrow4 hat4 hlt4 own3 hown4 hb3; have qc : B W4 (W4.alloc (.cells #[.bool true] 4)) := (B.refl W4).alloc _ _; have hwn5 := row_keep hwn4 qc; have hb5 := (hB4.trans qc).below.size; replace hS4 := Lib.hid (And.intro (hS4.keep qc) (hB4.trans qc)); clear hwn4 qc hB4; go_wp2_with (at_builtin; go_loud (refine wpList_append_lies _ rfl _ _ 52 rfl w2.heap.size 4 j0 _ 1 1 Tryd.underlying52 hj0 hy0 hy1 hy2 rfl (by omega) (.slice no i nc) i _ rfl hwn5 ⟨_, 0, none⟩ 1 1 [.bool true] rfl rfl (newest rfl) (fun u hu => by simp only [List.mem_cons, List.not_mem_nil, or_false] at hu; subst hu; rfl) (by omega) (by unfold maxLen; omega) (by omega) hb5 _ rfl ?_; intro g2 c2 W5 hown5 hgrow5 hat5 hlt5; have hS5 := hS4.out.1.grown hgrow5 hwn5 (by decide); have hB5 := hS4.out.2.grownBy hgrow5 (fun x hx => (hwn5.lt x hx).1); clear hgrow5 hat5 hlt5 hwn5 hb5 hS4; replace hS5 := Lib.hid (And.intro hS5 (And.intro hown5 hB5)); clear hown5 hB5; go_wp2_with fail))))
          refine ⟨⟨i + 1, some ⟨g1, 0, none⟩, some ⟨g2, 0, none⟩, c1, c2, vs ++ [.slice none 0 0, .slice none 0 0, .slice (some ⟨wo.heap.size, 0, none⟩) 2 2], by have := HX.out.1; omega, by go_num, by rw [Nat.mul_add], rfl, ?_, ?_, ?_, hS5.out.2.2⟩, by have := HX.out.1; simp [intOf]; omega⟩
          · rw [HT.out, tpLast_snoc]; rfl
          · have hs := hS5.out.1
            rw [HT.out, tpL_snoc]
            exact hs
          · have hs := hS5.out.2.1
            rw [HT.out, tpW_snoc, List.map_append, HLT.out]
            have e2 : (LT.toList == (tpT false).toList) = true := HB.out
            simp only [e2]
            exact hs
      · subst hu he
        cases hBB : (LT.toList == (⟨#[116, 50]⟩ : ByteArray).toList)
        · have HB := Lib.hid hBB
          have hbb : ¬ LT.toList = [116, 50] := by have := hBB; rw [show (⟨#[116, 50]⟩ : ByteArray).toList = [116, 50] by kernel_rfl] at this; simpa using this
          have q0 : B wo ((wo.alloc (.cells #[.string ⟨#[112, 108, 97, 116, 101]⟩, .int .i64 0, .int .i64 0, .string ⟨#[116, 117, 98, 101]⟩, .int .i64 0, .int .i64 0] 36)).alloc (.cells #[.int .i64 0, .string ⟨#[116, 50]⟩, .slice none 0 0, .int .i64 0, .int .i64 0, .int .i64 1, .string ⟨#[]⟩, .slice none 0 0, .int .i64 0, .int .i64 0, .int .i64 2, .string ⟨#[]⟩, .slice (some ⟨wo.heap.size, 0, none⟩) 2 2, .int .i64 3, .int .i64 0] 27)) := ((B.refl _).alloc _ _).alloc _ _
          have hSt2 := HX.out.2.1.keep q0
          have own3 := hSt2.so
          rw [tpL_len, List.length_take, Nat.min_eq_left (by have := HX.out.1; have := HL.out; omega)] at own3
          have hw1 := row_keep (well_own wo w2.heap.size HX.out.2.2.2.below.size [⟨namePlate, 0, 0⟩, ⟨nameTube, 0, 0⟩] (by simp)) ((B.refl (wo.alloc (.cells #[.string ⟨#[112, 108, 97, 116, 101]⟩, .int .i64 0, .int .i64 0, .string ⟨#[116, 117, 98, 101]⟩, .int .i64 0, .int .i64 0] 36))).alloc #[.int .i64 0, .string ⟨#[116, 50]⟩, .slice none 0 0, .int .i64 0, .int .i64 0, .int .i64 1, .string ⟨#[]⟩, .slice none 0 0, .int .i64 0, .int .i64 0, .int .i64 2, .string ⟨#[]⟩, .slice (some ⟨wo.heap.size, 0, none⟩) 2 2, .int .i64 3, .int .i64 0] 27)
          have hwn2 := row_keep HX.out.2.2.1 q0
          have hb3 := (HX.out.2.2.2.trans q0).below.size
          have HY := Lib.hid (And.intro hSt2 (And.intro hw1 (And.intro (HX.out.2.2.2.trans q0) hwn2)))
          clear hSt2 hw1 q0 hwn2 hBB
          go_wp2_with (at_builtin; go_loud (refine wpList_append_lies _ rfl _ _ 22 rfl w2.heap.size 27 i0 _ 5 64 Tryd.underlying22 hi0 hz0 hz1 hz2 rfl (by omega) (.slice so (3 * i) sc) (3 * i) (flatSp (tpL (ps.take i)) vs) rfl own3 ⟨_, 0, none⟩ 3 3 [.int .i64 0, .string ⟨#[116, 50]⟩, .slice none 0 0, .int .i64 0, .int .i64 0, .int .i64 1, .string ⟨#[]⟩, .slice none 0 0, .int .i64 0, .int .i64 0, .int .i64 2, .string ⟨#[]⟩, .slice (some ⟨wo.heap.size, 0, none⟩) 2 2, .int .i64 3, .int .i64 0] rfl rfl (newest (by simp)) (fun u hu => by simp only [List.mem_cons, List.not_mem_nil, or_false] at hu; rcases hu with rfl | rfl | rfl | rfl | rfl | rfl | rfl | rfl | rfl | rfl | rfl | rfl | rfl | rfl | rfl <;> rfl) (by omega) (by unfold maxLen; omega) (by omega) hb3 _ rfl ?_; intro g1 c1 W4 hown4 hgrow4 hat4 hlt4; have hB4 := HY.out.2.2.1.grownBy hgrow4 (fun x hx => (own3.lt x hx).1); have hS4 := StS.add (T := tpS true false) (us := [.slice none 0 0, .slice none 0 0, .slice (some ⟨wo.heap.size, 0, none⟩) 2 2]) HY.out.1 (by rw [tpL_len, List.length_take, Nat.min_eq_left (by have := HX.out.1; have := HL.out; omega)]) hgrow4 rfl rfl hown4 (fun j u s h1 h2 => tips_wells HY.out.2.1 h1 h2); have hwn4 := own_grownU HY.out.2.2.2 hgrow4 HY.out.1.so (by decide); clear hgrow4 hat4 hlt4 own3 hown4 hb3; have qc : B W4 (W4.alloc (.cells #[.bool true] 4)) := (B.refl W4).alloc _ _; have hwn5 := row_keep hwn4 qc; have hb5 := (hB4.trans qc).below.size; replace hS4 := Lib.hid (And.intro (hS4.keep qc) (hB4.trans qc)); clear hwn4 qc hB4; go_wp2_with (at_builtin; go_loud (refine wpList_append_lies _ rfl _ _ 52 rfl w2.heap.size 4 j0 _ 1 1 Tryd.underlying52 hj0 hy0 hy1 hy2 rfl (by omega) (.slice no i nc) i _ rfl hwn5 ⟨_, 0, none⟩ 1 1 [.bool true] rfl rfl (newest rfl) (fun u hu => by simp only [List.mem_cons, List.not_mem_nil, or_false] at hu; subst hu; rfl) (by omega) (by unfold maxLen; omega) (by omega) hb5 _ rfl ?_; intro g2 c2 W5 hown5 hgrow5 hat5 hlt5; have hS5 := hS4.out.1.grown hgrow5 hwn5 (by decide); have hB5 := hS4.out.2.grownBy hgrow5 (fun x hx => (hwn5.lt x hx).1); clear hgrow5 hat5 hlt5 hwn5 hb5 hS4; replace hS5 := Lib.hid (And.intro hS5 (And.intro hown5 hB5)); clear hown5 hB5; go_wp2_with fail))))
          refine ⟨⟨i + 1, some ⟨g1, 0, none⟩, some ⟨g2, 0, none⟩, c1, c2, vs ++ [.slice none 0 0, .slice none 0 0, .slice (some ⟨wo.heap.size, 0, none⟩) 2 2], by have := HX.out.1; omega, by go_num, by rw [Nat.mul_add], rfl, ?_, ?_, ?_, hS5.out.2.2⟩, by have := HX.out.1; simp [intOf]; omega⟩
          · rw [HT.out, tpLast_snoc]; rfl
          · have hs := hS5.out.1
            rw [HT.out, tpL_snoc]
            exact hs
          · have hs := hS5.out.2.1
            rw [HT.out, tpW_snoc, List.map_append, HLT.out]
            have e2 : (LT.toList == (tpT true).toList) = false := HB.out
            simp only [e2]
            exact hs
        · have HB := Lib.hid hBB
          have hbb : LT.toList = [116, 50] := by have := hBB; rw [show (⟨#[116, 50]⟩ : ByteArray).toList = [116, 50] by kernel_rfl] at this; simpa using this
          have q0 : B wo ((wo.alloc (.cells #[.string ⟨#[112, 108, 97, 116, 101]⟩, .int .i64 0, .int .i64 0, .string ⟨#[116, 117, 98, 101]⟩, .int .i64 0, .int .i64 0] 36)).alloc (.cells #[.int .i64 0, .string ⟨#[116, 50]⟩, .slice none 0 0, .int .i64 0, .int .i64 0, .int .i64 1, .string ⟨#[]⟩, .slice none 0 0, .int .i64 0, .int .i64 0, .int .i64 2, .string ⟨#[]⟩, .slice (some ⟨wo.heap.size, 0, none⟩) 2 2, .int .i64 3, .int .i64 0] 27)) := ((B.refl _).alloc _ _).alloc _ _
          have hSt2 := HX.out.2.1.keep q0
          have own3 := hSt2.so
          rw [tpL_len, List.length_take, Nat.min_eq_left (by have := HX.out.1; have := HL.out; omega)] at own3
          have hw1 := row_keep (well_own wo w2.heap.size HX.out.2.2.2.below.size [⟨namePlate, 0, 0⟩, ⟨nameTube, 0, 0⟩] (by simp)) ((B.refl (wo.alloc (.cells #[.string ⟨#[112, 108, 97, 116, 101]⟩, .int .i64 0, .int .i64 0, .string ⟨#[116, 117, 98, 101]⟩, .int .i64 0, .int .i64 0] 36))).alloc #[.int .i64 0, .string ⟨#[116, 50]⟩, .slice none 0 0, .int .i64 0, .int .i64 0, .int .i64 1, .string ⟨#[]⟩, .slice none 0 0, .int .i64 0, .int .i64 0, .int .i64 2, .string ⟨#[]⟩, .slice (some ⟨wo.heap.size, 0, none⟩) 2 2, .int .i64 3, .int .i64 0] 27)
          have hwn2 := row_keep HX.out.2.2.1 q0
          have hb3 := (HX.out.2.2.2.trans q0).below.size
          have HY := Lib.hid (And.intro hSt2 (And.intro hw1 (And.intro (HX.out.2.2.2.trans q0) hwn2)))
          clear hSt2 hw1 q0 hwn2 hBB
          go_wp2_with (at_builtin; go_loud (refine wpList_append_lies _ rfl _ _ 22 rfl w2.heap.size 27 i0 _ 5 64 Tryd.underlying22 hi0 hz0 hz1 hz2 rfl (by omega) (.slice so (3 * i) sc) (3 * i) (flatSp (tpL (ps.take i)) vs) rfl own3 ⟨_, 0, none⟩ 3 3 [.int .i64 0, .string ⟨#[116, 50]⟩, .slice none 0 0, .int .i64 0, .int .i64 0, .int .i64 1, .string ⟨#[]⟩, .slice none 0 0, .int .i64 0, .int .i64 0, .int .i64 2, .string ⟨#[]⟩, .slice (some ⟨wo.heap.size, 0, none⟩) 2 2, .int .i64 3, .int .i64 0] rfl rfl (newest (by simp)) (fun u hu => by simp only [List.mem_cons, List.not_mem_nil, or_false] at hu; rcases hu with rfl | rfl | rfl | rfl | rfl | rfl | rfl | rfl | rfl | rfl | rfl | rfl | rfl | rfl | rfl <;> rfl) (by omega) (by unfold maxLen; omega) (by omega) hb3 _ rfl ?_; intro g1 c1 W4 hown4 hgrow4 hat4 hlt4; have hB4 := HY.out.2.2.1.grownBy hgrow4 (fun x hx => (own3.lt x hx).1); have hS4 := StS.add (T := tpS true false) (us := [.slice none 0 0, .slice none 0 0, .slice (some ⟨wo.heap.size, 0, none⟩) 2 2]) HY.out.1 (by rw [tpL_len, List.length_take, Nat.min_eq_left (by have := HX.out.1; have := HL.out; omega)]) hgrow4 rfl rfl hown4 (fun j u s h1 h2 => tips_wells HY.out.2.1 h1 h2); have hwn4 := own_grownU HY.out.2.2.2 hgrow4 HY.out.1.so (by decide); clear hgrow4 hat4 hlt4 own3 hown4 hb3; have qc : B W4 (W4.alloc (.cells #[.bool false] 4)) := (B.refl W4).alloc _ _; have hwn5 := row_keep hwn4 qc; have hb5 := (hB4.trans qc).below.size; replace hS4 := Lib.hid (And.intro (hS4.keep qc) (hB4.trans qc)); clear hwn4 qc hB4; go_wp2_with (at_builtin; go_loud (refine wpList_append_lies _ rfl _ _ 52 rfl w2.heap.size 4 j0 _ 1 1 Tryd.underlying52 hj0 hy0 hy1 hy2 rfl (by omega) (.slice no i nc) i _ rfl hwn5 ⟨_, 0, none⟩ 1 1 [.bool false] rfl rfl (newest rfl) (fun u hu => by simp only [List.mem_cons, List.not_mem_nil, or_false] at hu; subst hu; rfl) (by omega) (by unfold maxLen; omega) (by omega) hb5 _ rfl ?_; intro g2 c2 W5 hown5 hgrow5 hat5 hlt5; have hS5 := hS4.out.1.grown hgrow5 hwn5 (by decide); have hB5 := hS4.out.2.grownBy hgrow5 (fun x hx => (hwn5.lt x hx).1); clear hgrow5 hat5 hlt5 hwn5 hb5 hS4; replace hS5 := Lib.hid (And.intro hS5 (And.intro hown5 hB5)); clear hown5 hB5; go_wp2_with fail))))
          refine ⟨⟨i + 1, some ⟨g1, 0, none⟩, some ⟨g2, 0, none⟩, c1, c2, vs ++ [.slice none 0 0, .slice none 0 0, .slice (some ⟨wo.heap.size, 0, none⟩) 2 2], by have := HX.out.1; omega, by go_num, by rw [Nat.mul_add], rfl, ?_, ?_, ?_, hS5.out.2.2⟩, by have := HX.out.1; simp [intOf]; omega⟩
          · rw [HT.out, tpLast_snoc]; rfl
          · have hs := hS5.out.1
            rw [HT.out, tpL_snoc]
            exact hs
          · have hs := hS5.out.2.1
            rw [HT.out, tpW_snoc, List.map_append, HLT.out]
            have e2 : (LT.toList == (tpT true).toList) = true := HB.out
            simp only [e2]
            exact hs
      · subst hu he
        cases hBB : (LT.toList == (⟨#[116, 50]⟩ : ByteArray).toList)
        · have HB := Lib.hid hBB
          have hbb : ¬ LT.toList = [116, 50] := by have := hBB; rw [show (⟨#[116, 50]⟩ : ByteArray).toList = [116, 50] by kernel_rfl] at this; simpa using this
          have q0 : B wo ((wo.alloc (.cells #[.string ⟨#[112, 108, 97, 116, 101]⟩, .int .i64 0, .int .i64 0, .string ⟨#[116, 117, 98, 101]⟩, .int .i64 0, .int .i64 0] 36)).alloc (.cells #[.int .i64 0, .string ⟨#[116, 50]⟩, .slice none 0 0, .int .i64 0, .int .i64 0, .int .i64 1, .string ⟨#[]⟩, .slice none 0 0, .int .i64 0, .int .i64 1, .int .i64 2, .string ⟨#[]⟩, .slice (some ⟨wo.heap.size, 0, none⟩) 2 2, .int .i64 3, .int .i64 0] 27)) := ((B.refl _).alloc _ _).alloc _ _
          have hSt2 := HX.out.2.1.keep q0
          have own3 := hSt2.so
          rw [tpL_len, List.length_take, Nat.min_eq_left (by have := HX.out.1; have := HL.out; omega)] at own3
          have hw1 := row_keep (well_own wo w2.heap.size HX.out.2.2.2.below.size [⟨namePlate, 0, 0⟩, ⟨nameTube, 0, 0⟩] (by simp)) ((B.refl (wo.alloc (.cells #[.string ⟨#[112, 108, 97, 116, 101]⟩, .int .i64 0, .int .i64 0, .string ⟨#[116, 117, 98, 101]⟩, .int .i64 0, .int .i64 0] 36))).alloc #[.int .i64 0, .string ⟨#[116, 50]⟩, .slice none 0 0, .int .i64 0, .int .i64 0, .int .i64 1, .string ⟨#[]⟩, .slice none 0 0, .int .i64 0, .int .i64 1, .int .i64 2, .string ⟨#[]⟩, .slice (some ⟨wo.heap.size, 0, none⟩) 2 2, .int .i64 3, .int .i64 0] 27)
          have hwn2 := row_keep HX.out.2.2.1 q0
          have hb3 := (HX.out.2.2.2.trans q0).below.size
          have HY := Lib.hid (And.intro hSt2 (And.intro hw1 (And.intro (HX.out.2.2.2.trans q0) hwn2)))
          clear hSt2 hw1 q0 hwn2 hBB
          go_wp2_with (at_builtin; go_loud (refine wpList_append_lies _ rfl _ _ 22 rfl w2.heap.size 27 i0 _ 5 64 Tryd.underlying22 hi0 hz0 hz1 hz2 rfl (by omega) (.slice so (3 * i) sc) (3 * i) (flatSp (tpL (ps.take i)) vs) rfl own3 ⟨_, 0, none⟩ 3 3 [.int .i64 0, .string ⟨#[116, 50]⟩, .slice none 0 0, .int .i64 0, .int .i64 0, .int .i64 1, .string ⟨#[]⟩, .slice none 0 0, .int .i64 0, .int .i64 1, .int .i64 2, .string ⟨#[]⟩, .slice (some ⟨wo.heap.size, 0, none⟩) 2 2, .int .i64 3, .int .i64 0] rfl rfl (newest (by simp)) (fun u hu => by simp only [List.mem_cons, List.not_mem_nil, or_false] at hu; rcases hu with rfl | rfl | rfl | rfl | rfl | rfl | rfl | rfl | rfl | rfl | rfl | rfl | rfl | rfl | rfl <;> rfl) (by omega) (by unfold maxLen; omega) (by omega) hb3 _ rfl ?_; intro g1 c1 W4 hown4 hgrow4 hat4 hlt4; have hB4 := HY.out.2.2.1.grownBy hgrow4 (fun x hx => (own3.lt x hx).1); have hS4 := StS.add (T := tpS true true) (us := [.slice none 0 0, .slice none 0 0, .slice (some ⟨wo.heap.size, 0, none⟩) 2 2]) HY.out.1 (by rw [tpL_len, List.length_take, Nat.min_eq_left (by have := HX.out.1; have := HL.out; omega)]) hgrow4 rfl rfl hown4 (fun j u s h1 h2 => tips_wells HY.out.2.1 h1 h2); have hwn4 := own_grownU HY.out.2.2.2 hgrow4 HY.out.1.so (by decide); clear hgrow4 hat4 hlt4 own3 hown4 hb3; have qc : B W4 (W4.alloc (.cells #[.bool true] 4)) := (B.refl W4).alloc _ _; have hwn5 := row_keep hwn4 qc; have hb5 := (hB4.trans qc).below.size; replace hS4 := Lib.hid (And.intro (hS4.keep qc) (hB4.trans qc)); clear hwn4 qc hB4; go_wp2_with (at_builtin; go_loud (refine wpList_append_lies _ rfl _ _ 52 rfl w2.heap.size 4 j0 _ 1 1 Tryd.underlying52 hj0 hy0 hy1 hy2 rfl (by omega) (.slice no i nc) i _ rfl hwn5 ⟨_, 0, none⟩ 1 1 [.bool true] rfl rfl (newest rfl) (fun u hu => by simp only [List.mem_cons, List.not_mem_nil, or_false] at hu; subst hu; rfl) (by omega) (by unfold maxLen; omega) (by omega) hb5 _ rfl ?_; intro g2 c2 W5 hown5 hgrow5 hat5 hlt5; have hS5 := hS4.out.1.grown hgrow5 hwn5 (by decide); have hB5 := hS4.out.2.grownBy hgrow5 (fun x hx => (hwn5.lt x hx).1); clear hgrow5 hat5 hlt5 hwn5 hb5 hS4; replace hS5 := Lib.hid (And.intro hS5 (And.intro hown5 hB5)); clear hown5 hB5; go_wp2_with fail))))
          refine ⟨⟨i + 1, some ⟨g1, 0, none⟩, some ⟨g2, 0, none⟩, c1, c2, vs ++ [.slice none 0 0, .slice none 0 0, .slice (some ⟨wo.heap.size, 0, none⟩) 2 2], by have := HX.out.1; omega, by go_num, by rw [Nat.mul_add], rfl, ?_, ?_, ?_, hS5.out.2.2⟩, by have := HX.out.1; simp [intOf]; omega⟩
          · rw [HT.out, tpLast_snoc]; rfl
          · have hs := hS5.out.1
            rw [HT.out, tpL_snoc]
            exact hs
          · have hs := hS5.out.2.1
            rw [HT.out, tpW_snoc, List.map_append, HLT.out]
            have e2 : (LT.toList == (tpT true).toList) = false := HB.out
            simp only [e2]
            exact hs
        · have HB := Lib.hid hBB
          have hbb : LT.toList = [116, 50] := by have := hBB; rw [show (⟨#[116, 50]⟩ : ByteArray).toList = [116, 50] by kernel_rfl] at this; simpa using this
          have q0 : B wo ((wo.alloc (.cells #[.string ⟨#[112, 108, 97, 116, 101]⟩, .int .i64 0, .int .i64 0, .string ⟨#[116, 117, 98, 101]⟩, .int .i64 0, .int .i64 0] 36)).alloc (.cells #[.int .i64 0, .string ⟨#[116, 50]⟩, .slice none 0 0, .int .i64 0, .int .i64 0, .int .i64 1, .string ⟨#[]⟩, .slice none 0 0, .int .i64 0, .int .i64 1, .int .i64 2, .string ⟨#[]⟩, .slice (some ⟨wo.heap.size, 0, none⟩) 2 2, .int .i64 3, .int .i64 0] 27)) := ((B.refl _).alloc _ _).alloc _ _
          have hSt2 := HX.out.2.1.keep q0
          have own3 := hSt2.so
          rw [tpL_len, List.length_take, Nat.min_eq_left (by have := HX.out.1; have := HL.out; omega)] at own3
          have hw1 := row_keep (well_own wo w2.heap.size HX.out.2.2.2.below.size [⟨namePlate, 0, 0⟩, ⟨nameTube, 0, 0⟩] (by simp)) ((B.refl (wo.alloc (.cells #[.string ⟨#[112, 108, 97, 116, 101]⟩, .int .i64 0, .int .i64 0, .string ⟨#[116, 117, 98, 101]⟩, .int .i64 0, .int .i64 0] 36))).alloc #[.int .i64 0, .string ⟨#[116, 50]⟩, .slice none 0 0, .int .i64 0, .int .i64 0, .int .i64 1, .string ⟨#[]⟩, .slice none 0 0, .int .i64 0, .int .i64 1, .int .i64 2, .string ⟨#[]⟩, .slice (some ⟨wo.heap.size, 0, none⟩) 2 2, .int .i64 3, .int .i64 0] 27)
          have hwn2 := row_keep HX.out.2.2.1 q0
          have hb3 := (HX.out.2.2.2.trans q0).below.size
          have HY := Lib.hid (And.intro hSt2 (And.intro hw1 (And.intro (HX.out.2.2.2.trans q0) hwn2)))
          clear hSt2 hw1 q0 hwn2 hBB
          go_wp2_with (at_builtin; go_loud (refine wpList_append_lies _ rfl _ _ 22 rfl w2.heap.size 27 i0 _ 5 64 Tryd.underlying22 hi0 hz0 hz1 hz2 rfl (by omega) (.slice so (3 * i) sc) (3 * i) (flatSp (tpL (ps.take i)) vs) rfl own3 ⟨_, 0, none⟩ 3 3 [.int .i64 0, .string ⟨#[116, 50]⟩, .slice none 0 0, .int .i64 0, .int .i64 0, .int .i64 1, .string ⟨#[]⟩, .slice none 0 0, .int .i64 0, .int .i64 1, .int .i64 2, .string ⟨#[]⟩, .slice (some ⟨wo.heap.size, 0, none⟩) 2 2, .int .i64 3, .int .i64 0] rfl rfl (newest (by simp)) (fun u hu => by simp only [List.mem_cons, List.not_mem_nil, or_false] at hu; rcases hu with rfl | rfl | rfl | rfl | rfl | rfl | rfl | rfl | rfl | rfl | rfl | rfl | rfl | rfl | rfl <;> rfl) (by omega) (by unfold maxLen; omega) (by omega) hb3 _ rfl ?_; intro g1 c1 W4 hown4 hgrow4 hat4 hlt4; have hB4 := HY.out.2.2.1.grownBy hgrow4 (fun x hx => (own3.lt x hx).1); have hS4 := StS.add (T := tpS true true) (us := [.slice none 0 0, .slice none 0 0, .slice (some ⟨wo.heap.size, 0, none⟩) 2 2]) HY.out.1 (by rw [tpL_len, List.length_take, Nat.min_eq_left (by have := HX.out.1; have := HL.out; omega)]) hgrow4 rfl rfl hown4 (fun j u s h1 h2 => tips_wells HY.out.2.1 h1 h2); have hwn4 := own_grownU HY.out.2.2.2 hgrow4 HY.out.1.so (by decide); clear hgrow4 hat4 hlt4 own3 hown4 hb3; have qc : B W4 (W4.alloc (.cells #[.bool true] 4)) := (B.refl W4).alloc _ _; have hwn5 := row_keep hwn4 qc; have hb5 := (hB4.trans qc).below.size; replace hS4 := Lib.hid (And.intro (hS4.keep qc) (hB4.trans qc)); clear hwn4 qc hB4; go_wp2_with (at_builtin; go_loud (refine wpList_append_lies _ rfl _ _ 52 rfl w2.heap.size 4 j0 _ 1 1 Tryd.underlying52 hj0 hy0 hy1 hy2 rfl (by omega) (.slice no i nc) i _ rfl hwn5 ⟨_, 0, none⟩ 1 1 [.bool true] rfl rfl (newest rfl) (fun u hu => by simp only [List.mem_cons, List.not_mem_nil, or_false] at hu; subst hu; rfl) (by omega) (by unfold maxLen; omega) (by omega) hb5 _ rfl ?_; intro g2 c2 W5 hown5 hgrow5 hat5 hlt5; have hS5 := hS4.out.1.grown hgrow5 hwn5 (by decide); have hB5 := hS4.out.2.grownBy hgrow5 (fun x hx => (hwn5.lt x hx).1); clear hgrow5 hat5 hlt5 hwn5 hb5 hS4; replace hS5 := Lib.hid (And.intro hS5 (And.intro hown5 hB5)); clear hown5 hB5; go_wp2_with fail))))
          refine ⟨⟨i + 1, some ⟨g1, 0, none⟩, some ⟨g2, 0, none⟩, c1, c2, vs ++ [.slice none 0 0, .slice none 0 0, .slice (some ⟨wo.heap.size, 0, none⟩) 2 2], by have := HX.out.1; omega, by go_num, by rw [Nat.mul_add], rfl, ?_, ?_, ?_, hS5.out.2.2⟩, by have := HX.out.1; simp [intOf]; omega⟩
          · rw [HT.out, tpLast_snoc]; rfl
          · have hs := hS5.out.1
            rw [HT.out, tpL_snoc]
            exact hs
          · have hs := hS5.out.2.1
            rw [HT.out, tpW_snoc, List.map_append, HLT.out]
            have e2 : (LT.toList == (tpT true).toList) = true := HB.out
            simp only [e2]
            exact hs
    · have hlB : decide ((i : Int) < (n : Int)) = false := decide_eq_false (by omega)
      have hlN : decide (i < n) = false := decide_eq_false hl
      obtain rfl : i = n := by omega
      rw [List.take_of_length_le (by rw [HL.out]; omega)] at hSt hW
      obtain ⟨st, hst, hso⟩ := tp_ops (ps := ps) (by rw [HL.out]; omega)
      have cc := cO _ q _ _ hSt.is (tp_I ps)
      have HX := Lib.hid (And.intro hW (And.intro q hst))
      have hsl : st.ops.length = i := by rw [hso, tpO_len]; exact HL.out
      have HS := Lib.hid (And.intro hso hsl)
      clear hSt hW q hi hl cO hst hso hsl
      go_wp2_with fail
      refine Calls.mono cc ?_
      rintro e w5 hR
      clear cc
      obtain ⟨o1, k1, o2, k2, rfl, r1, _, q5⟩ := hR.okd HX.out.2.2
      rw [HS.out.2] at r1 ⊢
      have hW5 := row_keep HX.out.1 q5
      have HZ := Lib.hid (And.intro r1 (And.intro hW5 (HB2.out.2.trans (HX.out.2.1.trans q5))))
      clear hR q5 r1 hW5
      go_wp2_with fail
      go_loopw [18] (fun jv wr => ∃ j : Nat, j ≤ i ∧ jv = .int .i64 j ∧ B w5 wr) (fun jv _ => i + 1 - (intOf jv).toNat)
      case atStart => exact ⟨0, Nat.zero_le _, rfl, B.refl _⟩
      case round =>
        obtain ⟨j, hj, rfl, qj⟩ := hrel
        obtain ⟨wl, rfl⟩ : ∃ wl : World, wl = wr := ⟨_, rfl⟩
        by_cases hl : j < i
        · have hlB2 : decide ((j : Int) < (i : Int)) = true := decide_eq_true (by omega)
          have hlN2 : decide (j < i) = true := decide_eq_true hl
          have hlI2 : (j : Int) < (i : Int) := by omega
          have hj0 : (0 : Int) ≤ (j : Int) := by omega
          have wk1 : IntKind.i64.wrap ((j : Int) + 1) = (j : Int) + 1 := by rw [IntKind.wrap_i64]; omega
          have hlo : j < (tpO ⟨#[]⟩ ps).length := by rw [tpO_len, HL.out]; exact hl
          obtain ⟨x, hx⟩ : ∃ x, (tpO ⟨#[]⟩ ps)[j]? = some x := ⟨_, List.getElem?_eq_getElem hlo⟩
          have r1 := row_keep HZ.out.1 qj
          have r2 := row_keep HZ.out.2.1 qj
          obtain ⟨g5, rfl, _, _, _⟩ := own_full r1 (by omega)
          obtain ⟨g6, rfl, _, _, _⟩ := own_full r2 (by omega)
          have y1 := r1.cellAt (j * 9 + 8) (by omega)
          rw [HS.out.1, flatOp_get hx 8 (by omega)] at y1
          have y1' : wl.cell? ⟨g5, j * 9 + 8, none⟩ = some (.bool x.nw) := y1
          have y2 := r2.cellAt j (by omega)
          have y2' : wl.cell? ⟨g6, j, none⟩ = some (.bool x.nw) := by
            rw [y2]
            unfold tpW
            rw [List.getElem?_map, List.getElem?_map, hx]
            rfl
          generalize x.nw = nb at *
          have HJ := Lib.hid (And.intro hl qj)
          clear hl qj y1 y2 r1 r2 hx hlo hj
          cases nb
          all_goals
            go_wp2_with fail
            go_quiet (fail)
            go_wp2
            go_roundw
            case rel => exact ⟨j + 1, by have := HJ.out.1; omega, by go_num, HJ.out.2.drewN _⟩
            case measure => have := HJ.out.1; simp [intOf]; omega
        · have hlB2 : decide ((j : Int) < (i : Int)) = false := decide_eq_false (by omega)
          have hlN2 : decide (j < i) = false := decide_eq_false hl
          have HF := Lib.hid (HZ.out.2.2.trans qj)
          clear qj hj hl
          go_wp2
          go_ret
          exact ⟨rfl, HF.out⟩
theorem tips13_ok (uv : Value) (us : List Bool) (ev : Value) (es : List Bool) (w : World) (hU : IsBs w uv us) (hE : IsBs w ev es) (htab : Lib.TabIs Tryd.prog w "internal/strconv.uint64pow10" .u64 Lib.pow10Tab) :
    Calls Tryd.prog 4 #[uv, ev] w fun e w' => e = .returned (.bool true) ∧ B w w' := tips13_any uv ev us es w hU hE
end Go.Proofs.YtjdkhobkdlldnaaDoor
