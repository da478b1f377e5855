/-
  A law and what it rests on.
-/
import Derived.Laws.StructEq
import Derived.Deep.QuietTactic
import Derived.BigQuiet
import Derived.Test.YthlileddhgglnaaGreatDoorY23
namespace Go.Proofs.YthlileddhgglnaaGreatDoor
open Go.RowKit
set_option linter.unusedVariables false

theorem ent_right {P : Bp} {w : World} {n B0 : Nat} {E E' : List Ent} {X : List Th} {l : List Sec} {e0 : Ent} (hM : BoardM P w n E' X) (hE : Ext B0 E E' l e0) : rightS l = true := by
  have h := (hM.cache.ents e0 hE.1).right
  rwa [hE.2.1] at h
def loopsOf : Code → List Code
  | .loop c => [c]
  | .seq a b => loopsOf a ++ loopsOf b
  | .block _ c => loopsOf c
  | .scope c => loopsOf c
  | .cond _ a b => loopsOf a ++ loopsOf b
  | _ => []
noncomputable def namesBody : Code := (loopsOf ((loopsOf ((Tryz.f4.body).getD .skip)).headD .skip)).getD 1 .skip
set_option maxRecDepth 1000000 in
set_option maxHeartbeats 4000000 in
theorem names_loop {P : Bp} {w w4 w9 wn : World} {W5 W6 : Nat} (rb Xb Nb : Nat) {o1 o2 o3 : Option Addr} {X1 X2 X3 c1 c2 c3 : Nat} {m : ByteArray} (hm40 : m.size ≤ maxLen) (hRX : rightD P.d = true) (hX2 : P.d.ts.length = X2)
    (hpw : Pow10 w) (hw4 : B w w4) (hbm : w.heap.size ≤ P.bm) (hDk : IsDk w4 (.slice o1 X1 c1) (.slice o2 X2 c2) (.slice o3 X3 c3) P.d) (hoX : w4.heap[Xb]? = some (.cells #[.slice o1 X1 c1, .slice o2 X2 c2, .slice o3 X3 c3] 26 (0, 0)))
    (hRB : Held (RBt P.d rb (.slice o1 X1 c1) (.slice o2 X2 c2) (.slice o3 X3 c3)) W5 W6 w9) (hSup : ∀ k, P.S k → k < W5) (hSlo : P.lo ≤ P.bm ∧ ∀ i, P.S i → P.lo ≤ i) (hlo : w4.heap.size ≤ P.lo) (hNS : ¬ P.S Nb)
    {n9 : Nat} {E9 : List Ent} {X9 : List Th} (hMn : BoardM P wn n9 E9 X9) (q4n : B w4 wn) (gn : G P.S w9 wn) (oN : wn.heap[Nb]? = some (.cells #[.string m, .string { data := #[116, 49] }, .string { data := #[116, 50] }] 9 (0, 0)))
    {e0 e1 e2 e3 e4 e5 e6 e7 e8 e9 e10 e11 e12 e13 e14 e15 e16 e17 e20 e22 e23 e24 e25 e26 e27 e28 e29 e30 e31 e32 e33 e34 e35 e36 e37 e38 e39 e40 e41 e42 e43 e44 e45 e46 e47 e48 e49 e50 e51 e52 e53 e54 e55 e56 e57 e58 e59 e60 e61 e62 e63 e64 e65 e66 e67 e68 e69 e70 e71 e72 e73 e74 e75 e76 e77 e78 e79 e80 e81 e82 e83 e84 e85 e86 e87 e88 e89 e90 e91 e92 e93 e94 e95 e96 e97 e98 e99 e100 e101 e102 e103 e104 e105 e106 e107 e108 e109 e110 e111 e112 e113 e114 e115 e116 e117 e118 e119 e120 e121 e122 e123 e124 e125 e126 e127 e128 e129 e130 e131 e132 e133 e134 e135 e136 e137 e138 e139 e140 e141 e142 e143 e144 e145 e146 e147 e148 e149 e150 e151 e152 e153 e154 e155 e156 e157 e158 e159 e160 e161 e162 e163 e164 e165 e166 e167 e168 e169 e170 e171 e172 e173 e177 e178 e179 e180 e181 e182 e183 e184 e185 e186 e187 e188 e189 e190 e191 e192 e193 e194 e195 e196 e197 e198 e199 e200 e201 e202 e203 e204 e205 e206 e207 e208 e209 e210 e211 e212 e213 e214 e215 e216 e217 e218 e219 e220 e221 e222 e223 e224 e225 e226 e227 e228 e229 e230 e231 e232 e233 e234 e235 e236 e237 e238 e239 e240 e241 e242 e243 e244 e245 e246 e247 e248 e249 e250 e251 e252 e253 e254 e255 e256 e257 e258 e259 e260 e261 e262 e263 e264 e265 e266 e267 e268 e269 e270 e271 e272 : Value} {K : Exit → Act → World → Prop}
    (hexit : ∀ (u16 u33 u34 u35 u36 u37 u176 u177 u178 u179 u180 u181 u182 u183 u184 u185 u186 u187 u188 u189 u190 u191 u192 u193 u194 u195 u196 u197 u198 u199 u200 u201 u202 u203 u204 u205 u206 u207 u208 u209 u210 u211 u212 u213 u214 u215 u216 u217 u218 u219 u220 u221 u222 u223 u224 u225 u226 u227 u228 u229 u230 u231 u232 u233 u234 u235 u236 u237 u238 u239 u240 u241 : Value) (w' : World), (∃ (n9 : Nat) (E9 : List Ent) (X9 : List Th), BoardM P w' n9 E9 X9 ∧ B w4 w' ∧ G P.S w9 w') → K (.exit 4) ⟨List.toArray (e0 :: e1 :: e2 :: e3 :: e4 :: e5 :: e6 :: e7 :: e8 :: e9 :: e10 :: e11 :: e12 :: e13 :: e14 :: e15 :: u16 :: e17 :: (.pointer (some ⟨Xb, 0, none⟩)) :: (.pointer (some ⟨P.b, 0, none⟩)) :: e20 :: (.pointer (some ⟨rb, 0, none⟩)) :: e22 :: e23 :: e24 :: e25 :: e26 :: e27 :: e28 :: e29 :: e30 :: e31 :: e32 :: u33 :: u34 :: u35 :: u36 :: u37 :: e38 :: e39 :: e40 :: e41 :: e42 :: e43 :: e44 :: e45 :: e46 :: e47 :: e48 :: e49 :: e50 :: e51 :: e52 :: e53 :: e54 :: e55 :: e56 :: e57 :: e58 :: e59 :: e60 :: e61 :: e62 :: e63 :: e64 :: e65 :: e66 :: e67 :: e68 :: e69 :: e70 :: e71 :: e72 :: e73 :: e74 :: e75 :: e76 :: e77 :: e78 :: e79 :: e80 :: e81 :: e82 :: e83 :: e84 :: e85 :: e86 :: e87 :: e88 :: e89 :: e90 :: e91 :: e92 :: e93 :: e94 :: e95 :: e96 :: e97 :: e98 :: e99 :: e100 :: e101 :: e102 :: e103 :: e104 :: e105 :: e106 :: e107 :: e108 :: e109 :: e110 :: e111 :: e112 :: e113 :: e114 :: e115 :: e116 :: e117 :: e118 :: e119 :: e120 :: e121 :: e122 :: e123 :: e124 :: e125 :: e126 :: e127 :: e128 :: e129 :: e130 :: e131 :: e132 :: e133 :: e134 :: e135 :: e136 :: e137 :: e138 :: e139 :: e140 :: e141 :: e142 :: e143 :: e144 :: e145 :: e146 :: e147 :: e148 :: e149 :: e150 :: e151 :: e152 :: e153 :: e154 :: e155 :: e156 :: e157 :: e158 :: e159 :: e160 :: e161 :: e162 :: e163 :: e164 :: e165 :: e166 :: e167 :: e168 :: e169 :: e170 :: e171 :: e172 :: e173 :: (.slice (some ⟨Nb, 0, none⟩) 3 3) :: (.int .i64 3) :: u176 :: u177 :: u178 :: u179 :: u180 :: u181 :: u182 :: u183 :: u184 :: u185 :: u186 :: u187 :: u188 :: u189 :: u190 :: u191 :: u192 :: u193 :: u194 :: u195 :: u196 :: u197 :: u198 :: u199 :: u200 :: u201 :: u202 :: u203 :: u204 :: u205 :: u206 :: u207 :: u208 :: u209 :: u210 :: u211 :: u212 :: u213 :: u214 :: u215 :: u216 :: u217 :: u218 :: u219 :: u220 :: u221 :: u222 :: u223 :: u224 :: u225 :: u226 :: u227 :: u228 :: u229 :: u230 :: u231 :: u232 :: u233 :: u234 :: u235 :: u236 :: u237 :: u238 :: u239 :: u240 :: u241 :: e242 :: e243 :: e244 :: e245 :: e246 :: e247 :: e248 :: e249 :: e250 :: e251 :: e252 :: e253 :: e254 :: e255 :: e256 :: e257 :: e258 :: e259 :: e260 :: e261 :: e262 :: e263 :: e264 :: e265 :: e266 :: e267 :: e268 :: e269 :: e270 :: e271 :: e272 :: []), []⟩ w') :
    Code.wp Tryz.prog (Code.loop namesBody) K ⟨List.toArray (e0 :: e1 :: e2 :: e3 :: e4 :: e5 :: e6 :: e7 :: e8 :: e9 :: e10 :: e11 :: e12 :: e13 :: e14 :: e15 :: e16 :: e17 :: (.pointer (some ⟨Xb, 0, none⟩)) :: (.pointer (some ⟨P.b, 0, none⟩)) :: e20 :: (.pointer (some ⟨rb, 0, none⟩)) :: e22 :: e23 :: e24 :: e25 :: e26 :: e27 :: e28 :: e29 :: e30 :: e31 :: e32 :: e33 :: e34 :: e35 :: e36 :: e37 :: e38 :: e39 :: e40 :: e41 :: e42 :: e43 :: e44 :: e45 :: e46 :: e47 :: e48 :: e49 :: e50 :: e51 :: e52 :: e53 :: e54 :: e55 :: e56 :: e57 :: e58 :: e59 :: e60 :: e61 :: e62 :: e63 :: e64 :: e65 :: e66 :: e67 :: e68 :: e69 :: e70 :: e71 :: e72 :: e73 :: e74 :: e75 :: e76 :: e77 :: e78 :: e79 :: e80 :: e81 :: e82 :: e83 :: e84 :: e85 :: e86 :: e87 :: e88 :: e89 :: e90 :: e91 :: e92 :: e93 :: e94 :: e95 :: e96 :: e97 :: e98 :: e99 :: e100 :: e101 :: e102 :: e103 :: e104 :: e105 :: e106 :: e107 :: e108 :: e109 :: e110 :: e111 :: e112 :: e113 :: e114 :: e115 :: e116 :: e117 :: e118 :: e119 :: e120 :: e121 :: e122 :: e123 :: e124 :: e125 :: e126 :: e127 :: e128 :: e129 :: e130 :: e131 :: e132 :: e133 :: e134 :: e135 :: e136 :: e137 :: e138 :: e139 :: e140 :: e141 :: e142 :: e143 :: e144 :: e145 :: e146 :: e147 :: e148 :: e149 :: e150 :: e151 :: e152 :: e153 :: e154 :: e155 :: e156 :: e157 :: e158 :: e159 :: e160 :: e161 :: e162 :: e163 :: e164 :: e165 :: e166 :: e167 :: e168 :: e169 :: e170 :: e171 :: e172 :: e173 :: (.slice (some ⟨Nb, 0, none⟩) 3 3) :: (.int .i64 3) :: (.int .i64 0) :: e177 :: e178 :: e179 :: e180 :: e181 :: e182 :: e183 :: e184 :: e185 :: e186 :: e187 :: e188 :: e189 :: e190 :: e191 :: e192 :: e193 :: e194 :: e195 :: e196 :: e197 :: e198 :: e199 :: e200 :: e201 :: e202 :: e203 :: e204 :: e205 :: e206 :: e207 :: e208 :: e209 :: e210 :: e211 :: e212 :: e213 :: e214 :: e215 :: e216 :: e217 :: e218 :: e219 :: e220 :: e221 :: e222 :: e223 :: e224 :: e225 :: e226 :: e227 :: e228 :: e229 :: e230 :: e231 :: e232 :: e233 :: e234 :: e235 :: e236 :: e237 :: e238 :: e239 :: e240 :: e241 :: e242 :: e243 :: e244 :: e245 :: e246 :: e247 :: e248 :: e249 :: e250 :: e251 :: e252 :: e253 :: e254 :: e255 :: e256 :: e257 :: e258 :: e259 :: e260 :: e261 :: e262 :: e263 :: e264 :: e265 :: e266 :: e267 :: e268 :: e269 :: e270 :: e271 :: e272 :: []), []⟩ wn := by
  have hnot : ∀ (x : Bool) (w : World), (Op.unary .not (.bool x)).run Tryz.prog w = .ok (.bool (!x)) w := fun _ _ => rfl
  replace hm40 := Lib.hid hm40
  replace hRX := Lib.hid hRX
  replace hX2 := Lib.hid hX2
  replace hpw := Lib.hid hpw
  replace hw4 := Lib.hid hw4
  replace hbm := Lib.hid hbm
  replace hDk := Lib.hid hDk
  replace hoX := Lib.hid hoX
  replace hRB := Lib.hid hRB
  replace hSup := Lib.hid hSup
  replace hSlo := Lib.hid hSlo
  replace hlo := Lib.hid hlo
  conv => arg 2; arg 1; whnf
  go_loopw [176] (fun iv wr => ∃ (i n9 : Nat) (E9 : List Ent) (X9 : List Th), i ≤ 3 ∧ iv = .int .i64 i ∧ BoardM P wr n9 E9 X9 ∧ B w4 wr ∧ G P.S w9 wr ∧ wr.heap[Nb]? = some (.cells #[.string m, .string { data := #[116, 49] }, .string { data := #[116, 50] }] 9 (0, 0))) (fun iv _ => 4 - (intOf iv).toNat)
  case atStart => exact ⟨0, _, _, _, Nat.zero_le _, rfl, hMn, q4n, gn, oN⟩
  case round =>
    clear hMn q4n gn oN
    obtain ⟨i, n9, E9, X9, hi, rfl, hMr, q4r, gr, oNr⟩ := hrel
    obtain ⟨wv, rfl⟩ : ∃ wv : World, wv = wr := ⟨_, rfl⟩
    by_cases hl : i < 3
    · have hlB : decide ((i : Int) < (3 : Int)) = true := decide_eq_true (by omega)
      have hlN : decide (i < 3) = true := decide_eq_true hl
      have hlI : (i : Int) < (3 : Int) := by omega
      have hi0 : (0 : Int) ≤ (i : Int) := by omega
      have wk1 : IntKind.i64.wrap ((i : Int) + 1) = (i : Int) + 1 := by rw [IntKind.wrap_i64]; omega
      obtain ⟨ns, hns, hnc⟩ : ∃ ns : ByteArray, ns.size ≤ maxLen ∧ wv.cell? ⟨Nb, i, none⟩ = some (.string ns) := by
        match i, hl with
        | 0, _ => exact ⟨m, hm40.out, obj_cell oNr 0⟩
        | 1, _ => exact ⟨{ data := #[116, 49] }, by decide, obj_cell oNr 1⟩
        | 2, _ => exact ⟨{ data := #[116, 50] }, by decide, obj_cell oNr 2⟩
      have HL := Lib.hid hl
      clear hl hi
      cases hno : namedL (P.d.ts.map (·.n)) ns with
      | false =>
        have cT := dtip_no wv hMr ns hns hno
        clear hMr
        go_wp2_with fail
        refine cT.mono ?_
        rintro e wj ⟨rfl, hMj, qj⟩
        have qk : B wj (wj.alloc (.cells #[.string ⟨#[]⟩, .int .i64 0, .int .i64 0, .int .i64 0, .slice none 0 0] 35)) := (B.refl _).alloc _ _
        have oT := obj_new wj (.cells #[.string ⟨#[]⟩, .int .i64 0, .int .i64 0, .int .i64 0, .slice none 0 0] 35)
        clear cT hnc
        go_wp2_with fail
        have hMk := hMj.keepB qk
        have q4k := q4r.trans (qj.trans qk)
        have gk : G P.S w9 (wj.alloc (.cells #[.string ⟨#[]⟩, .int .i64 0, .int .i64 0, .int .i64 0, .slice none 0 0] 35)) := gr.trans ((qj.trans qk).g _)
        have oNk := (qj.trans qk).obj oNr
        clear hMj q4r gr oNr qj qk
        generalize (wj.alloc (.cells #[.string ⟨#[]⟩, .int .i64 0, .int .i64 0, .int .i64 0, .slice none 0 0] 35)) = wk at *
        generalize hTb : wj.heap.size = Tb at *
        have hRk := gk.held hRB.out (fun k h1 _ h3 => by have := hSup.out k h3; omega)
        have cR := r11tip_any P.d rb _ _ _ wk hRk.now (hDk.out.keepB q4k) ns
        refine cR.mono ?_
        rintro e wo ⟨k, rfl, hk, qo⟩
        have hk1 : k = -1 := by
          rcases hk with ⟨_, h⟩ | ⟨i', rc, h1, h2, _⟩
          · exact h
          · have hy : namedL (P.d.ts.map (·.n)) ns = true := by
              unfold namedL
              rw [List.any_eq_true]
              exact ⟨rc.n, List.mem_map.2 ⟨rc, List.mem_of_getElem? h1, rfl⟩, by rw [h2]; simp⟩
            rw [hno] at hy
            cases hy
        subst hk1
        have oTo := qo.obj oT
        have t0 := obj_cell oTo 0
        have t1 := obj_cell oTo 1
        have t2 := obj_cell oTo 2
        have t3 := obj_cell oTo 3
        have t4 := obj_cell oTo 4
        have hMo := hMk.keepB qo
        have q4o := q4k.trans qo
        have go_ := gk.trans (qo.g _)
        have oNo := qo.obj oNk
        have cH := fun w' (q : B wo w') => (helptip_any ⟨#[]⟩ 0 0 0 (.slice none 0 0) (.slice none 0 0) [] w' (.inl ⟨rfl, rfl⟩) (.inl ⟨rfl, rfl⟩)).mono (fun _ w2 h => And.intro h.1 (show B w' w2 from h.2.b))
        have HM := Lib.hid (And.intro hMo (And.intro q4o (And.intro go_ oNo)))
        clear hMo q4o go_ oNo cR hk hRk hMk q4k gk oNk oT oTo qo hno
        have qd : B wo wo.drew := (B.refl _).drew
        go_wp2_with fail
        refine wp_region_noPanic ?_
        refine wp_region_seq (S := fun w' => w'.cell? ⟨Tb, 0, none⟩ = some (.string ⟨#[]⟩) ∧ w'.cell? ⟨Tb, 1, none⟩ = some (.int .i64 0) ∧ w'.cell? ⟨Tb, 2, none⟩ = some (.int .i64 0) ∧ w'.cell? ⟨Tb, 3, none⟩ = some (.int .i64 0) ∧ w'.cell? ⟨Tb, 4, none⟩ = some (.slice none 0 0) ∧ B wo w') [(0, 0), (1, 0), (2, 0), (3, 0), (4, 0), (5, 0), (6, 0), (7, 0), (8, 0), (9, 0), (10, 0), (11, 0), (12, 2), (13, 0), (14, 0), (15, 0), (16, 0), (17, 0), (18, 0), (19, 0), (20, 1), (21, 1), (22, 1), (23, 1), (24, 1), (25, 1), (26, 1), (27, 1), (28, 1), (29, 1), (30, 1), (31, 1), (32, 1), (33, 1), (34, 1), (35, 1), (36, 1), (37, 1), (38, 1), (39, 1), (40, 1), (41, 1), (42, 1), (43, 1), (44, 1), (45, 1), (46, 1), (47, 1), (48, 1), (49, 0), (50, 0)] [0, 1, 2, 4, 12, 20, 32, 96, 164, 292, 512, 512, 3584, 4608, 8708, 16388, 36864, 65536, 196608, 327680, 524288, 1572864, 2621440, 4194304, 12582912, 21495808, 38273024, 67108864, 67108864, 335544320, 67108864, 1677721600, 2214592512, 4496293888, 8657043456, 17247502336, 42950197248, 68719476736, 206158430208, 68719476736, 618475290624, 1168231104512, 2267742732288, 68719476736, 13262859010048, 17660905521152, 35527969472512, 70712341561344, 140806208356352, 281474977300480, 562949953486848] [0, 1, 2, 4, 12, 20, 32, 96, 164, 260, 512, 512, 3584, 4608, 8708, 16388, 32768, 65536, 196608, 327680, 524288, 1572864, 2621440, 4194304, 12582912, 21495808, 34078720, 67108864, 67108864, 335544320, 67108864, 1677721600, 2214592512, 4496293888, 8657043456, 17247502336, 34360262656, 68719476736, 206158430208, 68719476736, 618475290624, 1168231104512, 2267742732288, 68719476736, 13262859010048, 17660905521152, 35253091565568, 70712341561344, 140806208356352, 281474977300480, 562949953486848] (by kernel_rfl) (by kernel_rfl) (fun _ _ _ _ _ h => h) ?_ (fun hH => ?_)
        · exact ⟨qd.keep t0, qd.keep t1, qd.keep t2, qd.keep t3, qd.keep t4, qd⟩
        refine wpSeq_take (d := 190) (v := ?_) rfl rfl (by kernel_rfl) (fun w hS => ?_) ?_
        rotate_left
        · go_simp <;> with_reducible rfl
        dsimp only [List.set_cons_zero, List.set_cons_succ]
        refine wpSeq_take (d := 191) (v := ?_) rfl rfl (by kernel_rfl) (fun w hS => ?_) ?_
        rotate_left
        · go_simp <;> with_reducible rfl
        dsimp only [List.set_cons_zero, List.set_cons_succ]
        refine wpSeq_take (d := 192) (v := ?_) rfl rfl (by kernel_rfl) (fun w hS => ?_) ?_
        rotate_left
        · go_simp <;> with_reducible rfl
        dsimp only [List.set_cons_zero, List.set_cons_succ]
        refine wpSeq_take (d := 193) (v := ?_) rfl rfl (by kernel_rfl) (fun w hS => ?_) ?_
        rotate_left
        · go_simp <;> with_reducible rfl
        dsimp only [List.set_cons_zero, List.set_cons_succ]
        refine wpSeq_take (d := 194) (v := ?_) rfl rfl (by kernel_rfl) (fun w hS => ?_) ?_
        rotate_left
        · go_simp <;> with_reducible rfl
        dsimp only [List.set_cons_zero, List.set_cons_succ]
        refine wpSeq_take (d := 195) (v := ?_) rfl rfl (by kernel_rfl) (fun w hS => ?_) ?_
        rotate_left
        · go_simp <;> with_reducible rfl
        dsimp only [List.set_cons_zero, List.set_cons_succ]
        refine wpSeq_take (d := 196) (v := ?_) rfl rfl (by kernel_rfl) (fun w hS => ?_) ?_
        rotate_left
        · go_simp <;> with_reducible rfl
        dsimp only [List.set_cons_zero, List.set_cons_succ]
        refine wpSeq_take (d := 197) (v := ?_) rfl rfl (by kernel_rfl) (fun w hS => ?_) ?_
        rotate_left
        · go_simp <;> with_reducible rfl
        dsimp only [List.set_cons_zero, List.set_cons_succ]
        refine wpSeq_take (d := 198) (v := ?_) rfl rfl (by kernel_rfl) (fun w hS => ?_) ?_
        rotate_left
        · go_simp <;> with_reducible rfl
        dsimp only [List.set_cons_zero, List.set_cons_succ]
        refine wpSeq_take (d := 199) (v := ?_) rfl rfl (by kernel_rfl) (fun w hS => ?_) ?_
        rotate_left
        · go_simp <;> with_reducible rfl
        dsimp only [List.set_cons_zero, List.set_cons_succ]
        refine wpSeq_take (d := 200) (v := ?_) rfl rfl (by kernel_rfl) (fun w hS => ?_) ?_
        rotate_left
        · go_simp <;> with_reducible rfl
        dsimp only [List.set_cons_zero, List.set_cons_succ]
        refine wpSeq_take (d := 201) (v := ?_) rfl rfl (by kernel_rfl) (fun w hS => ?_) ?_
        rotate_left
        · go_simp <;> with_reducible rfl
        dsimp only [List.set_cons_zero, List.set_cons_succ]
        refine wpSeq_call rfl (by kernel_rfl) (fun K hK => ?_)
        go_simp
        (with_reducible refine (cH _ hH.2.2.2.2.2).mono ?_)
        rintro e w' ⟨rfl, hq⟩
        refine hK.out _ _ ?_ (fun hH => ?_)
        · exact ⟨hq.keep (hH.1), hq.keep (hH.2.1), hq.keep (hH.2.2.1), hq.keep (hH.2.2.2.1), hq.keep (hH.2.2.2.2.1), (hH.2.2.2.2.2).trans hq⟩
        clear hK
        refine wpSeq_take (d := 203) (v := ?_) rfl rfl (by kernel_rfl) (fun w hS => ?_) ?_
        rotate_left
        · go_simp <;> with_reducible rfl
        dsimp only [List.set_cons_zero, List.set_cons_succ]
        refine wpSeq_take (d := 204) (v := ?_) rfl rfl (by kernel_rfl) (fun w hS => ?_) ?_
        rotate_left
        · go_simp <;> with_reducible rfl
        dsimp only [List.set_cons_zero, List.set_cons_succ]
        refine wpSeq_take (d := 205) (v := ?_) rfl rfl (by kernel_rfl) (fun w hS => ?_) ?_
        rotate_left
        · go_simp <;> with_reducible rfl
        dsimp only [List.set_cons_zero, List.set_cons_succ]
        refine wpSeq_take (d := 206) (v := ?_) rfl rfl (by kernel_rfl) (fun w hS => ?_) ?_
        rotate_left
        · go_simp <;> with_reducible rfl
        dsimp only [List.set_cons_zero, List.set_cons_succ]
        refine wpSeq_take (d := 207) (v := ?_) rfl rfl (by kernel_rfl) (fun w hS => ?_) ?_
        rotate_left
        · go_simp <;> with_reducible rfl
        dsimp only [List.set_cons_zero, List.set_cons_succ]
        refine wpSeq_take (d := 208) (v := ?_) rfl rfl (by kernel_rfl) (fun w hS => ?_) ?_
        rotate_left
        · go_simp <;> with_reducible rfl
        dsimp only [List.set_cons_zero, List.set_cons_succ]
        refine wpSeq_take (d := 209) (v := ?_) rfl rfl (by kernel_rfl) (fun w hS => ?_) ?_
        rotate_left
        · go_simp <;> with_reducible rfl
        dsimp only [List.set_cons_zero, List.set_cons_succ]
        refine wpSeq_pass (d := 210) rfl rfl (by kernel_rfl) ?_
        dsimp only [List.set_cons_zero, List.set_cons_succ]
        refine wpSeq_pass (d := 211) rfl rfl (by kernel_rfl) ?_
        dsimp only [List.set_cons_zero, List.set_cons_succ]
        refine wpSeq_pass (d := 212) rfl rfl (by kernel_rfl) ?_
        dsimp only [List.set_cons_zero, List.set_cons_succ]
        refine wpSeq_pass (d := 213) rfl rfl (by kernel_rfl) ?_
        dsimp only [List.set_cons_zero, List.set_cons_succ]
        refine wpSeq_pass (d := 214) rfl rfl (by kernel_rfl) ?_
        dsimp only [List.set_cons_zero, List.set_cons_succ]
        refine wpSeq_pass (d := 215) rfl rfl (by kernel_rfl) ?_
        dsimp only [List.set_cons_zero, List.set_cons_succ]
        refine wpSeq_pass (d := 216) rfl rfl (by kernel_rfl) ?_
        dsimp only [List.set_cons_zero, List.set_cons_succ]
        refine wpSeq_pass (d := 217) rfl rfl (by kernel_rfl) ?_
        dsimp only [List.set_cons_zero, List.set_cons_succ]
        refine wpSeq_pass (d := 218) rfl rfl (by kernel_rfl) ?_
        dsimp only [List.set_cons_zero, List.set_cons_succ]
        refine wpSeq_pass (d := 219) rfl rfl (by kernel_rfl) ?_
        dsimp only [List.set_cons_zero, List.set_cons_succ]
        refine wpSeq_pass (d := 220) rfl rfl (by kernel_rfl) ?_
        dsimp only [List.set_cons_zero, List.set_cons_succ]
        refine wpSeq_pass (d := 221) rfl rfl (by kernel_rfl) ?_
        dsimp only [List.set_cons_zero, List.set_cons_succ]
        refine wpSeq_pass (d := 222) rfl rfl (by kernel_rfl) ?_
        dsimp only [List.set_cons_zero, List.set_cons_succ]
        refine wpSeq_pass (d := 223) rfl rfl (by kernel_rfl) ?_
        dsimp only [List.set_cons_zero, List.set_cons_succ]
        refine wpSeq_pass (d := 224) rfl rfl (by kernel_rfl) ?_
        dsimp only [List.set_cons_zero, List.set_cons_succ]
        refine wpSeq_pass (d := 225) rfl rfl (by kernel_rfl) ?_
        dsimp only [List.set_cons_zero, List.set_cons_succ]
        refine wpSeq_pass (d := 226) rfl rfl (by kernel_rfl) ?_
        dsimp only [List.set_cons_zero, List.set_cons_succ]
        refine wpSeq_pass (d := 227) rfl rfl (by kernel_rfl) ?_
        dsimp only [List.set_cons_zero, List.set_cons_succ]
        refine wpSeq_pass (d := 228) rfl rfl (by kernel_rfl) ?_
        dsimp only [List.set_cons_zero, List.set_cons_succ]
        refine wpSeq_pass (d := 229) rfl rfl (by kernel_rfl) ?_
        dsimp only [List.set_cons_zero, List.set_cons_succ]
        refine wpSeq_pass (d := 230) rfl rfl (by kernel_rfl) ?_
        dsimp only [List.set_cons_zero, List.set_cons_succ]
        refine wpSeq_pass (d := 231) rfl rfl (by kernel_rfl) ?_
        dsimp only [List.set_cons_zero, List.set_cons_succ]
        refine wpSeq_pass (d := 232) rfl rfl (by kernel_rfl) ?_
        dsimp only [List.set_cons_zero, List.set_cons_succ]
        refine wpSeq_pass (d := 233) rfl rfl (by kernel_rfl) ?_
        dsimp only [List.set_cons_zero, List.set_cons_succ]
        refine wpSeq_pass (d := 234) rfl rfl (by kernel_rfl) ?_
        dsimp only [List.set_cons_zero, List.set_cons_succ]
        refine wpSeq_pass (d := 235) rfl rfl (by kernel_rfl) ?_
        dsimp only [List.set_cons_zero, List.set_cons_succ]
        refine wpSeq_pass (d := 236) rfl rfl (by kernel_rfl) ?_
        dsimp only [List.set_cons_zero, List.set_cons_succ]
        refine wpSeq_pass (d := 237) rfl rfl (by kernel_rfl) ?_
        dsimp only [List.set_cons_zero, List.set_cons_succ]
        refine wpSeq_pass (d := 238) rfl rfl (by kernel_rfl) ?_
        dsimp only [List.set_cons_zero, List.set_cons_succ]
        refine wpSeq_take (d := 239) (v := ?_) rfl rfl (by kernel_rfl) (fun w hS => ?_) ?_
        rotate_left
        · go_simp <;> with_reducible rfl
        dsimp only [List.set_cons_zero, List.set_cons_succ]
        refine wpSeq_take (d := 240) (v := ?_) rfl rfl (by kernel_rfl) (fun w hS => ?_) ?_
        rotate_left
        · go_simp <;> with_reducible rfl
        dsimp only [List.set_cons_zero, List.set_cons_succ]
        refine wpSeq_done ?_
        refine NoPanic.normal ?_
        have HF := Lib.hid hH.2.2.2.2.2
        clear hH qd cH t0 t1 t2 t3 t4
        go_wp2
        go_roundw
        case rel => exact ⟨i + 1, _, _, _, by have := HL.out; omega, by go_num, HM.out.1.keepB HF.out, HM.out.2.1.trans HF.out, HM.out.2.2.1.trans (HF.out.g _), HF.out.obj HM.out.2.2.2⟩
        case measure => have := HL.out; simp [intOf]; omega
      | true =>
        have cT := dtip_yes w wv (hw4.out.trans q4r) hpw.out hbm.out hMr ns hns hno
        clear hMr
        go_wp2_with fail
        refine cT.mono ?_
        rintro e wj ⟨i1, rc1, p1, e0, n10, E10, X10, o9, c9, hrc1, hrn0, rfl, hS9, he0, hExt, hMj, gj⟩
        have hrn1 := Lib.hid hrn0
        clear hrn0
        have qk : B wj (wj.alloc (.cells #[.string rc1.n, .int .i64 rc1.x, .int .i64 rc1.y, .int .i64 rc1.z, .slice o9 rc1.l.length c9] 35)) := (B.refl _).alloc _ _
        have oT := obj_new wj (.cells #[.string rc1.n, .int .i64 rc1.x, .int .i64 rc1.y, .int .i64 rc1.z, .slice o9 rc1.l.length c9] 35)
        clear cT hnc
        go_wp2_with fail
        have hMk := hMj.keepB qk
        have q4j : B w4 wj := gj.b q4r (fun k hk => Nat.le_trans hlo.out (hSlo.out.2 k hk))
        have q4k := q4j.trans qk
        have gk : G P.S w9 (wj.alloc (.cells #[.string rc1.n, .int .i64 rc1.x, .int .i64 rc1.y, .int .i64 rc1.z, .slice o9 rc1.l.length c9] 35)) := gr.trans (gj.trans (qk.g _))
        have oNk := qk.obj (gj.obj hNS oNr)
        have hS9k := hS9.keepB qk
        clear hMj q4j q4r gr oNr gj qk hS9
        generalize (wj.alloc (.cells #[.string rc1.n, .int .i64 rc1.x, .int .i64 rc1.y, .int .i64 rc1.z, .slice o9 rc1.l.length c9] 35)) = wk at *
        generalize hTb : wj.heap.size = Tb at *
        have hRk := gk.held hRB.out (fun k h1 _ h3 => by have := hSup.out k h3; omega)
        have cR := r11tip_any P.d rb _ _ _ wk hRk.now (hDk.out.keepB q4k) ns
        refine cR.mono ?_
        rintro e wo ⟨k, rfl, hk, qo⟩
        obtain ⟨k9, hk9, hke⟩ : ∃ k9 : Nat, P.d.ts[k9]? = some rc1 ∧ k = (k9 : Int) := by
          rcases hk with ⟨h, _⟩ | ⟨i', rc, h1, h2, h3⟩
          · rw [hno] at h; cases h
          · obtain rfl : rc1 = rc := name_one (right_parts9 hRX.out).2.2.2 hrc1 h1 (hrn1.out.trans h2.symm)
            exact ⟨i', h1, h3⟩
        subst hke
        go_wp2_with fail
        have hk2 : k9 < X2 := by rw [← hX2.out]; exact (List.getElem?_eq_some_iff.1 hk9).1
        have hkI : (k9 : Int) < (X2 : Int) := by omega
        have hk0 : (0 : Int) ≤ (k9 : Int) := by omega
        have hkB : decide ((k9 : Int) < 0) = false := decide_eq_false (by omega)
        have hkC : decide ((0 : Int) ≤ (k9 : Int)) = true := decide_eq_true (by omega)
        have oTo := qo.obj oT
        have hMo := hMk.keepB qo
        have q4o := q4k.trans qo
        have go_ := gk.trans (qo.g _)
        have oNo := qo.obj oNk
        have hS9o := hS9k.keepB qo
        have hXo := hDk.out.keepB q4o
        have oXo := q4o.obj hoX.out
        have y5 : wo.cell? ⟨Xb, 1, none⟩ = some (.slice o2 X2 c2) := obj_cell oXo 1
        obtain ⟨xa, xc, hxe, _, _, hrec⟩ := hXo.ts.at_ (i := k9) (by rw [hX2.out]; exact hk2)
        obtain ⟨rfl, hx9, rfl⟩ : o2 = some xa ∧ X2 = P.d.ts.length ∧ c2 = xc := by simpa using hxe
        clear hx9
        rw [show P.d.ts[k9]'(by rw [hX2.out]; exact hk2) = rc1 by have h := hk9; rw [List.getElem?_eq_getElem (by rw [hX2.out]; exact hk2)] at h; simpa using h] at hrec
        obtain ⟨y6, y7, y8, y9, ⟨v8, y10, hS8⟩⟩ := hrec
        obtain ⟨o8, c8, rfl⟩ : ∃ o8 c8, v8 = .slice o8 rc1.l.length c8 := secs_form hS8
        have hRo := (gk.trans (qo.g _)).held hRB.out (fun k h1 _ h3 => by have := hSup.out k h3; omega)
        obtain ⟨gw, cw, gt, cq, hro, _, hrt⟩ := hRo.now
        obtain ⟨pq, gq, rfl, y12, hTq⟩ := hrt k9 rc1 hk9
        have y11 : wo.cell? ⟨rb, 4, none⟩ = some (.slice (some ⟨gq, 0, none⟩) P.d.ts.length cq) := obj_cell hro 4
        rw [hX2.out] at y11
        have y0 := obj_cell oTo 0
        have y1 := obj_cell oTo 1
        have y2 := obj_cell oTo 2
        have y3 := obj_cell oTo 3
        have y4 := obj_cell oTo 4
        have cH := fun w' (q : B wo w') => (helptip_any rc1.n rc1.x rc1.y rc1.z _ _ rc1.l w' (hS9o.keepB q) (hS8.keepB q)).mono (fun _ w2 h => And.intro h.1 (show B w' w2 from h.2.b))
        have hsl := slAll_len rc1.l (right_all (ent_right hMo hExt)).2.2
        have cT1 := fun w' (q : B wo w') => ent_tall w' (hMo.keepB q).cache e0 hExt.1 he0
        rw [hExt.2.1] at cT1
        have cT2 := fun w' (q : B wo w') => (r3tall_any _ _ (tbnd_of (ent_right hMo hExt)).n w' (hTq.keepB q)).mono (fun _ w2 h => And.intro h.1 (show B w' w2 from h.2 ▸ B.refl _))
        rw [Int.mul_comm, hsl] at cT2
        generalize hsumI rc1.l rc1.l.length = HT at *
        generalize rc1.l.length = l9 at *
        generalize rc1.n = N1 at *
        generalize rc1.x = X9 at *
        generalize rc1.y = Y9 at *
        generalize rc1.z = Z9 at *
        have HM := Lib.hid (And.intro hMo (And.intro q4o (And.intro go_ oNo)))
        clear hMo q4o go_ oNo cR hk hRk hMk q4k gk oNk oT oTo qo hno hS9o hS8 hS9k hXo oXo hxe hRo hro hrt hTq hExt he0 hrc1 hk9 hsl hrn1
        have qd : B wo wo.drew := (B.refl _).drew
        refine wp_region_noPanic ?_
        refine wp_region_seq (S := fun w' => w'.cell? ⟨Tb, 0, none⟩ = some (.string N1) ∧ w'.cell? ⟨Tb, 1, none⟩ = some (.int .i64 X9) ∧ w'.cell? ⟨Tb, 2, none⟩ = some (.int .i64 Y9) ∧ w'.cell? ⟨Tb, 3, none⟩ = some (.int .i64 Z9) ∧ w'.cell? ⟨Tb, 4, none⟩ = some (.slice o9 l9 c9) ∧ w'.cell? ⟨Xb, 1, none⟩ = some (.slice (some xa) X2 c2) ∧ w'.cell? (xa.add (k9 * 5)) = some (.string N1) ∧ w'.cell? ⟨(xa.add (k9 * 5)).block, (xa.add (k9 * 5)).off + 1, none⟩ = some (.int .i64 X9) ∧ w'.cell? ⟨(xa.add (k9 * 5)).block, (xa.add (k9 * 5)).off + 2, none⟩ = some (.int .i64 Y9) ∧ w'.cell? ⟨(xa.add (k9 * 5)).block, (xa.add (k9 * 5)).off + 3, none⟩ = some (.int .i64 Z9) ∧ w'.cell? ⟨(xa.add (k9 * 5)).block, (xa.add (k9 * 5)).off + 4, none⟩ = some (.slice o8 l9 c8) ∧ w'.cell? ⟨rb, 4, none⟩ = some (.slice (some ⟨gq, 0, none⟩) X2 cq) ∧ w'.cell? ⟨gq, k9, none⟩ = some (.pointer (some ⟨pq, 0, none⟩)) ∧ B wo w') [(0, 0), (1, 0), (2, 0), (3, 1), (4, 1), (5, 1), (6, 1), (7, 1), (8, 1), (9, 1), (10, 1), (11, 1), (12, 1), (13, 1), (14, 1), (15, 0), (16, 0), (17, 0), (18, 0), (19, 0), (20, 0), (21, 0), (22, 0), (23, 0), (24, 0), (25, 0), (26, 0), (27, 0), (28, 0), (29, 0), (30, 0), (31, 0), (32, 0), (33, 2), (34, 0), (35, 0), (36, 0), (37, 0), (39, 0), (40, 0), (41, 0), (42, 0), (43, 0), (44, 0), (45, 0), (38, 2), (46, 2), (47, 0), (48, 0), (49, 0), (50, 0)] [0, 1, 2, 4, 12, 20, 32, 96, 164, 292, 512, 512, 3584, 4608, 8708, 16388, 36864, 65536, 196608, 327680, 524288, 1572864, 2621440, 4194304, 12582912, 21495808, 38273024, 67108864, 67108864, 335544320, 67108864, 1677721600, 2214592512, 4496293888, 8657043456, 17247502336, 42950197248, 68719476736, 206158430208, 68719476736, 618475290624, 1168231104512, 2267742732288, 68719476736, 13262859010048, 17660905521152, 35527969472512, 70712341561344, 140806208356352, 281474977300480, 562949953486848] [0, 1, 2, 4, 12, 20, 32, 96, 164, 260, 512, 512, 3584, 4608, 8708, 16388, 32768, 65536, 196608, 327680, 524288, 1572864, 2621440, 4194304, 12582912, 21495808, 34078720, 67108864, 67108864, 335544320, 67108864, 1677721600, 2214592512, 4496293888, 8657043456, 17247502336, 34360262656, 68719476736, 206158430208, 68719476736, 618475290624, 1168231104512, 2267742732288, 68719476736, 13262859010048, 17660905521152, 35253091565568, 70712341561344, 140806208356352, 281474977300480, 562949953486848] (by kernel_rfl) (by kernel_rfl) (fun _ _ _ _ _ h => h) ?_ (fun hH => ?_)
        · exact ⟨qd.keep y0, qd.keep y1, qd.keep y2, qd.keep y3, qd.keep y4, qd.keep y5, qd.keep y6, qd.keep y7, qd.keep y8, qd.keep y9, qd.keep y10, qd.keep y11, qd.keep y12, qd⟩
        refine wpSeq_take (d := 190) (v := ?_) rfl rfl (by kernel_rfl) (fun w hS => ?_) ?_
        rotate_left
        · go_simp <;> with_reducible rfl
        dsimp only [List.set_cons_zero, List.set_cons_succ]
        refine wpSeq_take (d := 191) (v := ?_) rfl rfl (by kernel_rfl) (fun w hS => ?_) ?_
        rotate_left
        · go_simp <;> with_reducible rfl
        dsimp only [List.set_cons_zero, List.set_cons_succ]
        refine wpSeq_take (d := 192) (v := ?_) rfl rfl (by kernel_rfl) (fun w hS => ?_) ?_
        rotate_left
        · go_simp <;> with_reducible rfl
        dsimp only [List.set_cons_zero, List.set_cons_succ]
        refine wpSeq_pass (d := 193) rfl rfl (by kernel_rfl) ?_
        dsimp only [List.set_cons_zero, List.set_cons_succ]
        refine wpSeq_pass (d := 194) rfl rfl (by kernel_rfl) ?_
        dsimp only [List.set_cons_zero, List.set_cons_succ]
        refine wpSeq_pass (d := 195) rfl rfl (by kernel_rfl) ?_
        dsimp only [List.set_cons_zero, List.set_cons_succ]
        refine wpSeq_pass (d := 196) rfl rfl (by kernel_rfl) ?_
        dsimp only [List.set_cons_zero, List.set_cons_succ]
        refine wpSeq_pass (d := 197) rfl rfl (by kernel_rfl) ?_
        dsimp only [List.set_cons_zero, List.set_cons_succ]
        refine wpSeq_pass (d := 198) rfl rfl (by kernel_rfl) ?_
        dsimp only [List.set_cons_zero, List.set_cons_succ]
        refine wpSeq_pass (d := 199) rfl rfl (by kernel_rfl) ?_
        dsimp only [List.set_cons_zero, List.set_cons_succ]
        refine wpSeq_pass (d := 200) rfl rfl (by kernel_rfl) ?_
        dsimp only [List.set_cons_zero, List.set_cons_succ]
        refine wpSeq_pass (d := 201) rfl rfl (by kernel_rfl) ?_
        dsimp only [List.set_cons_zero, List.set_cons_succ]
        refine wpSeq_pass (d := 202) rfl rfl (by kernel_rfl) ?_
        dsimp only [List.set_cons_zero, List.set_cons_succ]
        refine wpSeq_pass (d := 203) rfl rfl (by kernel_rfl) ?_
        dsimp only [List.set_cons_zero, List.set_cons_succ]
        refine wpSeq_pass (d := 204) rfl rfl (by kernel_rfl) ?_
        dsimp only [List.set_cons_zero, List.set_cons_succ]
        refine wpSeq_take (d := 205) (v := ?_) rfl rfl (by kernel_rfl) (fun w hS => ?_) ?_
        rotate_left
        · go_simp <;> with_reducible rfl
        dsimp only [List.set_cons_zero, List.set_cons_succ]
        refine wpSeq_take (d := 206) (v := ?_) rfl rfl (by kernel_rfl) (fun w hS => ?_) ?_
        rotate_left
        · go_simp <;> with_reducible rfl
        dsimp only [List.set_cons_zero, List.set_cons_succ]
        refine wpSeq_take (d := 207) (v := ?_) rfl rfl (by kernel_rfl) (fun w hS => ?_) ?_
        rotate_left
        · go_simp <;> with_reducible rfl
        dsimp only [List.set_cons_zero, List.set_cons_succ]
        refine wpSeq_take (d := 208) (v := ?_) rfl rfl (by kernel_rfl) (fun w hS => ?_) ?_
        rotate_left
        · go_simp <;> with_reducible rfl
        dsimp only [List.set_cons_zero, List.set_cons_succ]
        refine wpSeq_take (d := 209) (v := ?_) rfl rfl (by kernel_rfl) (fun w hS => ?_) ?_
        rotate_left
        · go_simp <;> with_reducible rfl
        dsimp only [List.set_cons_zero, List.set_cons_succ]
        refine wpSeq_take (d := 210) (v := ?_) rfl rfl (by kernel_rfl) (fun w hS => ?_) ?_
        rotate_left
        · go_simp <;> with_reducible rfl
        dsimp only [List.set_cons_zero, List.set_cons_succ]
        refine wpSeq_take (d := 211) (v := ?_) rfl rfl (by kernel_rfl) (fun w hS => ?_) ?_
        rotate_left
        · go_simp <;> with_reducible rfl
        dsimp only [List.set_cons_zero, List.set_cons_succ]
        refine wpSeq_take (d := 212) (v := ?_) rfl rfl (by kernel_rfl) (fun w hS => ?_) ?_
        rotate_left
        · go_simp <;> with_reducible rfl
        dsimp only [List.set_cons_zero, List.set_cons_succ]
        refine wpSeq_take (d := 213) (v := ?_) rfl rfl (by kernel_rfl) (fun w hS => ?_) ?_
        rotate_left
        · go_simp <;> with_reducible rfl
        dsimp only [List.set_cons_zero, List.set_cons_succ]
        refine wpSeq_take (d := 214) (v := ?_) rfl rfl (by kernel_rfl) (fun w hS => ?_) ?_
        rotate_left
        · go_simp <;> with_reducible rfl
        dsimp only [List.set_cons_zero, List.set_cons_succ]
        refine wpSeq_take (d := 215) (v := ?_) rfl rfl (by kernel_rfl) (fun w hS => ?_) ?_
        rotate_left
        · go_simp <;> with_reducible rfl
        dsimp only [List.set_cons_zero, List.set_cons_succ]
        refine wpSeq_take (d := 216) (v := ?_) rfl rfl (by kernel_rfl) (fun w hS => ?_) ?_
        rotate_left
        · go_simp <;> with_reducible rfl
        dsimp only [List.set_cons_zero, List.set_cons_succ]
        refine wpSeq_take (d := 217) (v := ?_) rfl rfl (by kernel_rfl) (fun w hS => ?_) ?_
        rotate_left
        · go_simp <;> with_reducible rfl
        dsimp only [List.set_cons_zero, List.set_cons_succ]
        refine wpSeq_take (d := 218) (v := ?_) rfl rfl (by kernel_rfl) (fun w hS => ?_) ?_
        rotate_left
        · go_simp <;> with_reducible rfl
        dsimp only [List.set_cons_zero, List.set_cons_succ]
        refine wpSeq_take (d := 219) (v := ?_) rfl rfl (by kernel_rfl) (fun w hS => ?_) ?_
        rotate_left
        · go_simp <;> with_reducible rfl
        dsimp only [List.set_cons_zero, List.set_cons_succ]
        refine wpSeq_take (d := 220) (v := ?_) rfl rfl (by kernel_rfl) (fun w hS => ?_) ?_
        rotate_left
        · go_simp <;> with_reducible rfl
        dsimp only [List.set_cons_zero, List.set_cons_succ]
        refine wpSeq_take (d := 221) (v := ?_) rfl rfl (by kernel_rfl) (fun w hS => ?_) ?_
        rotate_left
        · go_simp <;> with_reducible rfl
        dsimp only [List.set_cons_zero, List.set_cons_succ]
        refine wpSeq_take (d := 222) (v := ?_) rfl rfl (by kernel_rfl) (fun w hS => ?_) ?_
        rotate_left
        · go_simp <;> with_reducible rfl
        dsimp only [List.set_cons_zero, List.set_cons_succ]
        refine wpSeq_call rfl (by kernel_rfl) (fun K hK => ?_)
        go_simp
        (with_reducible refine (cH _ hH.2.2.2.2.2.2.2.2.2.2.2.2.2).mono ?_)
        rintro e w' ⟨rfl, hq⟩
        refine hK.out _ _ ?_ (fun hH => ?_)
        · exact ⟨hq.keep (hH.1), hq.keep (hH.2.1), hq.keep (hH.2.2.1), hq.keep (hH.2.2.2.1), hq.keep (hH.2.2.2.2.1), hq.keep (hH.2.2.2.2.2.1), hq.keep (hH.2.2.2.2.2.2.1), hq.keep (hH.2.2.2.2.2.2.2.1), hq.keep (hH.2.2.2.2.2.2.2.2.1), hq.keep (hH.2.2.2.2.2.2.2.2.2.1), hq.keep (hH.2.2.2.2.2.2.2.2.2.2.1), hq.keep (hH.2.2.2.2.2.2.2.2.2.2.2.1), hq.keep (hH.2.2.2.2.2.2.2.2.2.2.2.2.1), (hH.2.2.2.2.2.2.2.2.2.2.2.2.2).trans hq⟩
        clear hK
        refine wpSeq_take (d := 224) (v := ?_) rfl rfl (by kernel_rfl) (fun w hS => ?_) ?_
        rotate_left
        · go_simp <;> with_reducible rfl
        dsimp only [List.set_cons_zero, List.set_cons_succ]
        refine wpSeq_take (d := 225) (v := ?_) rfl rfl (by kernel_rfl) (fun w hS => ?_) ?_
        rotate_left
        · go_simp <;> with_reducible rfl
        dsimp only [List.set_cons_zero, List.set_cons_succ]
        refine wpSeq_take (d := 226) (v := ?_) rfl rfl (by kernel_rfl) (fun w hS => ?_) ?_
        rotate_left
        · go_simp <;> with_reducible rfl
        dsimp only [List.set_cons_zero, List.set_cons_succ]
        refine wpSeq_take (d := 227) (v := ?_) rfl rfl (by kernel_rfl) (fun w hS => ?_) ?_
        rotate_left
        · go_simp <;> with_reducible rfl
        dsimp only [List.set_cons_zero, List.set_cons_succ]
        refine wpSeq_take (d := 229) (v := ?_) rfl rfl (by kernel_rfl) (fun w hS => ?_) ?_
        rotate_left
        · go_simp <;> with_reducible rfl
        dsimp only [List.set_cons_zero, List.set_cons_succ]
        refine wpSeq_take (d := 230) (v := ?_) rfl rfl (by kernel_rfl) (fun w hS => ?_) ?_
        rotate_left
        · go_simp <;> with_reducible rfl
        dsimp only [List.set_cons_zero, List.set_cons_succ]
        refine wpSeq_take (d := 231) (v := ?_) rfl rfl (by kernel_rfl) (fun w hS => ?_) ?_
        rotate_left
        · go_simp <;> with_reducible rfl
        dsimp only [List.set_cons_zero, List.set_cons_succ]
        refine wpSeq_take (d := 232) (v := ?_) rfl rfl (by kernel_rfl) (fun w hS => ?_) ?_
        rotate_left
        · go_simp <;> with_reducible rfl
        dsimp only [List.set_cons_zero, List.set_cons_succ]
        refine wpSeq_take (d := 233) (v := ?_) rfl rfl (by kernel_rfl) (fun w hS => ?_) ?_
        rotate_left
        · go_simp <;> with_reducible rfl
        dsimp only [List.set_cons_zero, List.set_cons_succ]
        refine wpSeq_take (d := 234) (v := ?_) rfl rfl (by kernel_rfl) (fun w hS => ?_) ?_
        rotate_left
        · go_simp <;> with_reducible rfl
        dsimp only [List.set_cons_zero, List.set_cons_succ]
        refine wpSeq_take (d := 235) (v := ?_) rfl rfl (by kernel_rfl) (fun w hS => ?_) ?_
        rotate_left
        · go_simp <;> with_reducible rfl
        dsimp only [List.set_cons_zero, List.set_cons_succ]
        refine wpSeq_call rfl (by kernel_rfl) (fun K hK => ?_)
        go_simp
        (with_reducible refine (cT1 _ hH.2.2.2.2.2.2.2.2.2.2.2.2.2).mono ?_)
        rintro e w' ⟨rfl, hq⟩
        refine hK.out _ _ ?_ (fun hH => ?_)
        · exact ⟨hq.keep (hH.1), hq.keep (hH.2.1), hq.keep (hH.2.2.1), hq.keep (hH.2.2.2.1), hq.keep (hH.2.2.2.2.1), hq.keep (hH.2.2.2.2.2.1), hq.keep (hH.2.2.2.2.2.2.1), hq.keep (hH.2.2.2.2.2.2.2.1), hq.keep (hH.2.2.2.2.2.2.2.2.1), hq.keep (hH.2.2.2.2.2.2.2.2.2.1), hq.keep (hH.2.2.2.2.2.2.2.2.2.2.1), hq.keep (hH.2.2.2.2.2.2.2.2.2.2.2.1), hq.keep (hH.2.2.2.2.2.2.2.2.2.2.2.2.1), (hH.2.2.2.2.2.2.2.2.2.2.2.2.2).trans hq⟩
        clear hK
        refine wpSeq_call rfl (by kernel_rfl) (fun K hK => ?_)
        go_simp
        (with_reducible refine (cT2 _ hH.2.2.2.2.2.2.2.2.2.2.2.2.2).mono ?_)
        rintro e w' ⟨rfl, hq⟩
        refine hK.out _ _ ?_ (fun hH => ?_)
        · exact ⟨hq.keep (hH.1), hq.keep (hH.2.1), hq.keep (hH.2.2.1), hq.keep (hH.2.2.2.1), hq.keep (hH.2.2.2.2.1), hq.keep (hH.2.2.2.2.2.1), hq.keep (hH.2.2.2.2.2.2.1), hq.keep (hH.2.2.2.2.2.2.2.1), hq.keep (hH.2.2.2.2.2.2.2.2.1), hq.keep (hH.2.2.2.2.2.2.2.2.2.1), hq.keep (hH.2.2.2.2.2.2.2.2.2.2.1), hq.keep (hH.2.2.2.2.2.2.2.2.2.2.2.1), hq.keep (hH.2.2.2.2.2.2.2.2.2.2.2.2.1), (hH.2.2.2.2.2.2.2.2.2.2.2.2.2).trans hq⟩
        clear hK
        refine wpSeq_take (d := 237) (v := ?_) rfl rfl (by kernel_rfl) (fun w hS => ?_) ?_
        rotate_left
        · go_simp <;> with_reducible rfl
        dsimp only [List.set_cons_zero, List.set_cons_succ]
        refine wpSeq_take (d := 238) (v := ?_) rfl rfl (by kernel_rfl) (fun w hS => ?_) ?_
        rotate_left
        · go_simp <;> with_reducible rfl
        dsimp only [List.set_cons_zero, List.set_cons_succ]
        refine wpSeq_take (d := 239) (v := ?_) rfl rfl (by kernel_rfl) (fun w hS => ?_) ?_
        rotate_left
        · go_simp <;> with_reducible rfl
        dsimp only [List.set_cons_zero, List.set_cons_succ]
        refine wpSeq_take (d := 240) (v := ?_) rfl rfl (by kernel_rfl) (fun w hS => ?_) ?_
        rotate_left
        · go_simp <;> with_reducible rfl
        dsimp only [List.set_cons_zero, List.set_cons_succ]
        refine wpSeq_done ?_
        refine NoPanic.normal ?_
        have HF := Lib.hid hH.2.2.2.2.2.2.2.2.2.2.2.2.2
        clear hH qd cH cT1 cT2 y0 y1 y2 y3 y4 y5 y6 y7 y8 y9 y10 y11 y12
        go_wp2
        go_roundw
        case rel => exact ⟨i + 1, _, _, _, by have := HL.out; omega, by go_num, HM.out.1.keepB HF.out, HM.out.2.1.trans HF.out, HM.out.2.2.1.trans (HF.out.g _), HF.out.obj HM.out.2.2.2⟩
        case measure => have := HL.out; simp [intOf]; omega
    · have hlB : decide ((i : Int) < (3 : Int)) = false := decide_eq_false (by omega)
      have hlN : decide (i < 3) = false := decide_eq_false hl
      clear hl hi oNr
      go_wp2_with fail
      first | exact ⟨_, _, _, hMr, q4r, gr⟩ | exact hexit _ _ _ _ _ _ _ _ _ _ _ _ _ _ _ _ _ _ _ _ _ _ _ _ _ _ _ _ _ _ _ _ _ _ _ _ _ _ _ _ _ _ _ _ _ _ _ _ _ _ _ _ _ _ _ _ _ _ _ _ _ _ _ _ _ _ _ _ _ _ _ _ _ ⟨_, _, _, hMr, q4r, gr⟩
end Go.Proofs.YthlileddhgglnaaGreatDoor
