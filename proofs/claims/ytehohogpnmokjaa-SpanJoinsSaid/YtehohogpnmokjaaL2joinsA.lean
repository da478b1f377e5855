/-
  Layer 2: the walk of SpanJoins, the spans are right: by which ends the join has.
-/
import Derived.Test.YtehohogpnmokjaaL2a
import Derived.Test.YtehohogpnmokjaaReg
namespace Go.Proofs.Ytehohogpnmokjaa
open Go.RowKit

set_option maxHeartbeats 8000000 in
theorem joins_0 (al ah bl bh v jl jh ll lh : Int)
    (c0 : ∀ w, Calls Try.prog 15 #[.agg #[.int .i64 al, .int .i64 ah]] w fun e w' => e = .returned (.bool true) ∧ Q w w')
    (c1 : ∀ w, Calls Try.prog 15 #[.agg #[.int .i64 bl, .int .i64 bh]] w fun e w' => e = .returned (.bool true) ∧ Q w w')
    (c2 : ∀ w, Calls Try.prog 19 #[.agg #[.int .i64 al, .int .i64 ah], .agg #[.int .i64 bl, .int .i64 bh]] w fun e w' => e = .returned (.agg #[.int .i64 jl, .int .i64 jh]) ∧ Q w w')
    (c3 : ∀ w, Calls Try.prog 21 #[.agg #[.int .i64 al, .int .i64 ah], .int .i64 v] w fun e w' => e = .returned (.agg #[.int .i64 ll, .int .i64 lh]) ∧ Q w w')
    (c4 : ∀ w, Calls Try.prog 15 #[.agg #[.int .i64 jl, .int .i64 jh]] w fun e w' => e = .returned (.bool true) ∧ Q w w')
    (c5 : ∀ w, Calls Try.prog 17 #[.agg #[.int .i64 jl, .int .i64 jh], .int .i64 al] w fun e w' => e = .returned (.bool true) ∧ Q w w')
    (c6 : ∀ w, Calls Try.prog 17 #[.agg #[.int .i64 jl, .int .i64 jh], .int .i64 ah] w fun e w' => e = .returned (.bool true) ∧ Q w w')
    (c7 : ∀ w, Calls Try.prog 17 #[.agg #[.int .i64 jl, .int .i64 jh], .int .i64 bl] w fun e w' => e = .returned (.bool true) ∧ Q w w')
    (c8 : ∀ w, Calls Try.prog 17 #[.agg #[.int .i64 jl, .int .i64 jh], .int .i64 bh] w fun e w' => e = .returned (.bool true) ∧ Q w w')
    (c9 : ∀ w, Calls Try.prog 19 #[.agg #[.int .i64 bl, .int .i64 bh], .agg #[.int .i64 al, .int .i64 ah]] w fun e w' => e = .returned (.agg #[.int .i64 jl, .int .i64 jh]) ∧ Q w w')
    (ca : ∀ w, Calls Try.prog 15 #[.agg #[.int .i64 ll, .int .i64 lh]] w fun e w' => e = .returned (.bool true) ∧ Q w w')
    (la : al ≤ ll) (lb : v ≤ ll) (o1 : (jl == al) = true) (o2 : (jh == ah) = true) (o3 : (lh == ah) = true) (w : World) :
    Calls Try.prog 7 #[.agg #[.int .i64 al, .int .i64 ah], .agg #[.int .i64 bl, .int .i64 bh], .int .i64 v] w fun e w' => e = .returned (.bool true) ∧ Q w w' := by
  go_enter Try.func7, Try.ntmps7
  go_wp2_with fail
  refine (known2_any _).mono ?_
  rintro e w1 ⟨rfl, h⟩
  have a0 := h.keep (p := ⟨w.heap.size, 0, none⟩) (v := .int .i64 al) (by simp [go_sem])
  have a1 := h.keep (p := ⟨w.heap.size, 1, none⟩) (v := .int .i64 ah) (by simp [go_sem])
  have b0 := h.keep (p := ⟨w.heap.size + 1, 0, none⟩) (v := .int .i64 bl) (by simp [go_sem])
  have b1 := h.keep (p := ⟨w.heap.size + 1, 1, none⟩) (v := .int .i64 bh) (by simp [go_sem])
  replace h : Q w w1 := by first | exact h | exact ((Q.refl w).alloc _ _).trans h | exact (((Q.refl w).alloc _ _).alloc _ _).trans h | exact ((((Q.refl w).alloc _ _).alloc _ _).alloc _ _).trans h | exact (((((Q.refl w).alloc _ _).alloc _ _).alloc _ _).alloc _ _).trans h
  have az : w.heap.size < w1.heap.size := World.block_lt_of_cell? _ _ a0
  have bz : w.heap.size + 1 < w1.heap.size := World.block_lt_of_cell? _ _ b0
  have g := h
  clear h
  go_wp2_with fail
  refine (c0 _).mono ?_
  rintro e w2 ⟨rfl, h⟩
  replace h : Q w1 w2 := by first | exact h | exact ((Q.refl w1).alloc _ _).trans h | exact (((Q.refl w1).alloc _ _).alloc _ _).trans h | exact ((((Q.refl w1).alloc _ _).alloc _ _).alloc _ _).trans h | exact (((((Q.refl w1).alloc _ _).alloc _ _).alloc _ _).alloc _ _).trans h
  replace a0 := h.keep a0
  replace a1 := h.keep a1
  replace b0 := h.keep b0
  replace b1 := h.keep b1
  replace az : w.heap.size < w2.heap.size := World.block_lt_of_cell? _ _ a0
  replace bz : w.heap.size + 1 < w2.heap.size := World.block_lt_of_cell? _ _ b0
  replace g := g.trans h
  clear h
  go_wp2_with fail
  refine (c1 _).mono ?_
  rintro e w3 ⟨rfl, h⟩
  replace h : Q w2 w3 := by first | exact h | exact ((Q.refl w2).alloc _ _).trans h | exact (((Q.refl w2).alloc _ _).alloc _ _).trans h | exact ((((Q.refl w2).alloc _ _).alloc _ _).alloc _ _).trans h | exact (((((Q.refl w2).alloc _ _).alloc _ _).alloc _ _).alloc _ _).trans h
  replace a0 := h.keep a0
  replace a1 := h.keep a1
  replace b0 := h.keep b0
  replace b1 := h.keep b1
  replace az : w.heap.size < w3.heap.size := World.block_lt_of_cell? _ _ a0
  replace bz : w.heap.size + 1 < w3.heap.size := World.block_lt_of_cell? _ _ b0
  replace g := g.trans h
  clear h
  go_wp2_with fail
  refine (c2 _).mono ?_
  rintro e w4 ⟨rfl, h⟩
  replace h : Q w3 w4 := by first | exact h | exact ((Q.refl w3).alloc _ _).trans h | exact (((Q.refl w3).alloc _ _).alloc _ _).trans h | exact ((((Q.refl w3).alloc _ _).alloc _ _).alloc _ _).trans h | exact (((((Q.refl w3).alloc _ _).alloc _ _).alloc _ _).alloc _ _).trans h
  replace a0 := h.keep a0
  replace a1 := h.keep a1
  replace b0 := h.keep b0
  replace b1 := h.keep b1
  replace az : w.heap.size < w4.heap.size := World.block_lt_of_cell? _ _ a0
  replace bz : w.heap.size + 1 < w4.heap.size := World.block_lt_of_cell? _ _ b0
  replace g := g.trans h
  clear h
  go_wp2_with fail
  refine (c3 _).mono ?_
  rintro e w5 ⟨rfl, h⟩
  have j0 := h.keep (p := ⟨w4.heap.size, 0, none⟩) (v := .int .i64 jl) (by simp [go_sem])
  have j1 := h.keep (p := ⟨w4.heap.size, 1, none⟩) (v := .int .i64 jh) (by simp [go_sem])
  replace h : Q w4 w5 := by first | exact h | exact ((Q.refl w4).alloc _ _).trans h | exact (((Q.refl w4).alloc _ _).alloc _ _).trans h | exact ((((Q.refl w4).alloc _ _).alloc _ _).alloc _ _).trans h | exact (((((Q.refl w4).alloc _ _).alloc _ _).alloc _ _).alloc _ _).trans h
  replace a0 := h.keep a0
  replace a1 := h.keep a1
  replace b0 := h.keep b0
  replace b1 := h.keep b1
  replace az : w.heap.size < w5.heap.size := World.block_lt_of_cell? _ _ a0
  replace bz : w.heap.size + 1 < w5.heap.size := World.block_lt_of_cell? _ _ b0
  have jz : w4.heap.size < w5.heap.size := World.block_lt_of_cell? _ _ j0
  replace g := g.trans h
  clear h
  clear c0 c1 c2 c3
  go_wp2_with fail
  refine wp_region_noPanic ?_
  refine wp_region_seq (S := fun w' => w'.cell? ⟨w.heap.size, 0, none⟩ = some (.int .i64 al) ∧ w'.cell? ⟨w.heap.size, 1, none⟩ = some (.int .i64 ah) ∧ w'.cell? ⟨w.heap.size + 1, 0, none⟩ = some (.int .i64 bl) ∧ w'.cell? ⟨w.heap.size + 1, 1, none⟩ = some (.int .i64 bh) ∧ w'.cell? ⟨w4.heap.size, 0, none⟩ = some (.int .i64 jl) ∧ w'.cell? ⟨w4.heap.size, 1, none⟩ = some (.int .i64 jh) ∧ w'.cell? ⟨w5.heap.size, 0, none⟩ = some (.int .i64 ll) ∧ w'.cell? ⟨w5.heap.size, 1, none⟩ = some (.int .i64 lh) ∧ Q w w') [(0, 0), (1, 2), (2, 0), (3, 0), (4, 0), (5, 0), (6, 2), (7, 0), (8, 0), (9, 0), (10, 0), (11, 0), (12, 2), (13, 0), (14, 0), (15, 0), (16, 0), (17, 0), (18, 2), (19, 0), (20, 0), (21, 0), (22, 0), (23, 0), (24, 2), (25, 0), (26, 0), (27, 0), (28, 0), (29, 0), (30, 0), (31, 0), (32, 0), (33, 1), (34, 1), (35, 1), (36, 1), (37, 1), (38, 0), (39, 0), (40, 0), (41, 0), (42, 0), (43, 0), (44, 0), (45, 0), (46, 0), (47, 1), (48, 1), (49, 1), (50, 1), (51, 1), (52, 0), (53, 0), (54, 0), (55, 0), (56, 0), (58, 0), (57, 2), (59, 0), (60, 0), (61, 0), (62, 0), (63, 2), (64, 0), (65, 0), (66, 0), (67, 0), (68, 0), (69, 0), (70, 0), (71, 0), (72, 0), (73, 0), (74, 0), (75, 0), (76, 0), (77, 0), (78, 0), (79, 0), (80, 0), (81, 0), (82, 0), (83, 0), (84, 0), (85, 1), (86, 1), (87, 1), (88, 1), (89, 0), (90, 0), (91, 0)] [0, 1, 2, 4, 4, 20, 44, 68, 192, 256, 256, 1280, 2816, 4352, 12288, 16384, 16384, 81920, 180224, 278528, 786432, 1048576, 1048576, 5242880, 11534336, 17825792, 50331648, 67108864, 201326592, 67108864, 603979776, 1409286144, 2214592512, 4294967296, 12884901888, 4294967296, 38654705664, 90194313216, 141801029632, 274945015808, 554050781184, 1099511627776, 3298534883328, 1099511627776, 9895604649984, 23089744183296, 36283883716608, 70368744177664, 211106232532992, 70368744177664, 633318697598976, 1477743627730944, 2323268069490688, 4504699138998272, 9077567998918656, 18014398509481984, 18014398509481984, 126100789566373888, 18014398509481984, 450359962737049600, 594475150812905472, 1297036692682702848, 2305843009213693952, 6917529027641081856, 11529215046068469760, 27670116110564327424, 36893488147419103232, 110680464442257309696, 36893488147419103232, 479615345916448342016, 627189298506124754944, 1217485108864830406656, 2361183241434822606848, 7083549724304467820544, 2361183241434822606848, 21250649172913403461632, 49584848070131274743808, 77919046967349146025984, 153476910693263469445120, 302231454903657293676544, 906694364710971881029632, 302231454903657293676544, 2720083094132915643088896, 6346860552976803167207424, 9973638011820690691325952, 19342813113834066795298816, 58028439341502200385896448, 19342813113834066795298816, 251456570479842868338884608, 329130054390082792813756416, 619272251097593794743238656, 2475880078570760549798248447] [0, 1, 2, 4, 4, 20, 44, 68, 128, 256, 256, 1280, 2816, 4352, 8192, 16384, 16384, 81920, 180224, 278528, 524288, 1048576, 1048576, 5242880, 11534336, 17825792, 33554432, 67108864, 201326592, 67108864, 603979776, 1409286144, 2214592512, 4294967296, 12884901888, 4294967296, 38654705664, 90194313216, 141801029632, 274945015808, 549755813888, 1099511627776, 3298534883328, 1099511627776, 9895604649984, 23089744183296, 36283883716608, 70368744177664, 211106232532992, 70368744177664, 633318697598976, 1477743627730944, 2323268069490688, 4504699138998272, 9007199254740992, 18014398509481984, 18014398509481984, 126100789566373888, 18014398509481984, 450359962737049600, 594475150812905472, 1152921504606846976, 2305843009213693952, 6917529027641081856, 11529215046068469760, 18446744073709551616, 36893488147419103232, 110680464442257309696, 36893488147419103232, 479615345916448342016, 627189298506124754944, 1180591620717411303424, 2361183241434822606848, 7083549724304467820544, 2361183241434822606848, 21250649172913403461632, 49584848070131274743808, 77919046967349146025984, 151115727451828646838272, 302231454903657293676544, 906694364710971881029632, 302231454903657293676544, 2720083094132915643088896, 6346860552976803167207424, 9973638011820690691325952, 19342813113834066795298816, 58028439341502200385896448, 19342813113834066795298816, 251456570479842868338884608, 329130054390082792813756416, 619272251097593794743238656, 1237940039285380274899124224] (by kernel_rfl) (by kernel_rfl) (fun _ _ _ _ _ h => h) ?_ (fun hH => ?_)
  · exact ⟨by simp [go_sem, *], by simp [go_sem, *], by simp [go_sem, *], by simp [go_sem, *], by simp [go_sem, *], by simp [go_sem, *], by simp [go_sem, *], by simp [go_sem, *], by first | exact (g.alloc _ _).drew | exact g.drew⟩
  refine wpSeq_take (d := 25) (v := ?_) rfl rfl (by kernel_rfl) (fun w hS => ?_) ?_
  rotate_left
  · go_simp <;> with_reducible rfl
  dsimp only [List.set_cons_zero, List.set_cons_succ]
  refine wpSeq_call rfl (by kernel_rfl) (fun K hK => ?_)
  go_simp
  (with_reducible refine (c4 _).mono ?_)
  rintro e w' ⟨rfl, hq⟩
  refine hK.out _ _ ?_ (fun hH => ?_)
  · exact ⟨hq.keep hH.1, hq.keep hH.2.1, hq.keep hH.2.2.1, hq.keep hH.2.2.2.1, hq.keep hH.2.2.2.2.1, hq.keep hH.2.2.2.2.2.1, hq.keep hH.2.2.2.2.2.2.1, hq.keep hH.2.2.2.2.2.2.2.1, hH.2.2.2.2.2.2.2.2.trans hq⟩
  clear hK
  refine wpSeq_take (d := 27) (v := ?_) rfl rfl (by kernel_rfl) (fun w hS => ?_) ?_
  rotate_left
  · go_simp <;> with_reducible rfl
  dsimp only [List.set_cons_zero, List.set_cons_succ]
  refine wpSeq_take (d := 28) (v := ?_) rfl rfl (by kernel_rfl) (fun w hS => ?_) ?_
  rotate_left
  · go_simp <;> with_reducible rfl
  dsimp only [List.set_cons_zero, List.set_cons_succ]
  refine wpSeq_take (d := 29) (v := ?_) rfl rfl (by kernel_rfl) (fun w hS => ?_) ?_
  rotate_left
  · go_simp <;> with_reducible rfl
  dsimp only [List.set_cons_zero, List.set_cons_succ]
  refine wpSeq_take (d := 30) (v := ?_) rfl rfl (by kernel_rfl) (fun w hS => ?_) ?_
  rotate_left
  · go_simp <;> with_reducible rfl
  dsimp only [List.set_cons_zero, List.set_cons_succ]
  refine wpSeq_call rfl (by kernel_rfl) (fun K hK => ?_)
  go_simp
  (with_reducible refine (c5 _).mono ?_)
  rintro e w' ⟨rfl, hq⟩
  refine hK.out _ _ ?_ (fun hH => ?_)
  · exact ⟨hq.keep hH.1, hq.keep hH.2.1, hq.keep hH.2.2.1, hq.keep hH.2.2.2.1, hq.keep hH.2.2.2.2.1, hq.keep hH.2.2.2.2.2.1, hq.keep hH.2.2.2.2.2.2.1, hq.keep hH.2.2.2.2.2.2.2.1, hH.2.2.2.2.2.2.2.2.trans hq⟩
  clear hK
  refine wpSeq_take (d := 32) (v := ?_) rfl rfl (by kernel_rfl) (fun w hS => ?_) ?_
  rotate_left
  · go_simp <;> with_reducible rfl
  dsimp only [List.set_cons_zero, List.set_cons_succ]
  refine wpSeq_take (d := 33) (v := ?_) rfl rfl (by kernel_rfl) (fun w hS => ?_) ?_
  rotate_left
  · go_simp <;> with_reducible rfl
  dsimp only [List.set_cons_zero, List.set_cons_succ]
  refine wpSeq_take (d := 34) (v := ?_) rfl rfl (by kernel_rfl) (fun w hS => ?_) ?_
  rotate_left
  · go_simp <;> with_reducible rfl
  dsimp only [List.set_cons_zero, List.set_cons_succ]
  refine wpSeq_take (d := 35) (v := ?_) rfl rfl (by kernel_rfl) (fun w hS => ?_) ?_
  rotate_left
  · go_simp <;> with_reducible rfl
  dsimp only [List.set_cons_zero, List.set_cons_succ]
  refine wpSeq_take (d := 36) (v := ?_) rfl rfl (by kernel_rfl) (fun w hS => ?_) ?_
  rotate_left
  · go_simp <;> with_reducible rfl
  dsimp only [List.set_cons_zero, List.set_cons_succ]
  refine wpSeq_call rfl (by kernel_rfl) (fun K hK => ?_)
  go_simp
  (with_reducible refine (c6 _).mono ?_)
  rintro e w' ⟨rfl, hq⟩
  refine hK.out _ _ ?_ (fun hH => ?_)
  · exact ⟨hq.keep hH.1, hq.keep hH.2.1, hq.keep hH.2.2.1, hq.keep hH.2.2.2.1, hq.keep hH.2.2.2.2.1, hq.keep hH.2.2.2.2.2.1, hq.keep hH.2.2.2.2.2.2.1, hq.keep hH.2.2.2.2.2.2.2.1, hH.2.2.2.2.2.2.2.2.trans hq⟩
  clear hK
  refine wpSeq_take (d := 38) (v := ?_) rfl rfl (by kernel_rfl) (fun w hS => ?_) ?_
  rotate_left
  · go_simp <;> with_reducible rfl
  dsimp only [List.set_cons_zero, List.set_cons_succ]
  refine wpSeq_take (d := 39) (v := ?_) rfl rfl (by kernel_rfl) (fun w hS => ?_) ?_
  rotate_left
  · go_simp <;> with_reducible rfl
  dsimp only [List.set_cons_zero, List.set_cons_succ]
  refine wpSeq_take (d := 40) (v := ?_) rfl rfl (by kernel_rfl) (fun w hS => ?_) ?_
  rotate_left
  · go_simp <;> with_reducible rfl
  dsimp only [List.set_cons_zero, List.set_cons_succ]
  refine wpSeq_take (d := 41) (v := ?_) rfl rfl (by kernel_rfl) (fun w hS => ?_) ?_
  rotate_left
  · go_simp <;> with_reducible rfl
  dsimp only [List.set_cons_zero, List.set_cons_succ]
  refine wpSeq_take (d := 42) (v := ?_) rfl rfl (by kernel_rfl) (fun w hS => ?_) ?_
  rotate_left
  · go_simp <;> with_reducible rfl
  dsimp only [List.set_cons_zero, List.set_cons_succ]
  refine wpSeq_call rfl (by kernel_rfl) (fun K hK => ?_)
  go_simp
  (with_reducible refine (c7 _).mono ?_)
  rintro e w' ⟨rfl, hq⟩
  refine hK.out _ _ ?_ (fun hH => ?_)
  · exact ⟨hq.keep hH.1, hq.keep hH.2.1, hq.keep hH.2.2.1, hq.keep hH.2.2.2.1, hq.keep hH.2.2.2.2.1, hq.keep hH.2.2.2.2.2.1, hq.keep hH.2.2.2.2.2.2.1, hq.keep hH.2.2.2.2.2.2.2.1, hH.2.2.2.2.2.2.2.2.trans hq⟩
  clear hK
  refine wpSeq_take (d := 44) (v := ?_) rfl rfl (by kernel_rfl) (fun w hS => ?_) ?_
  rotate_left
  · go_simp <;> with_reducible rfl
  dsimp only [List.set_cons_zero, List.set_cons_succ]
  refine wpSeq_take (d := 45) (v := ?_) rfl rfl (by kernel_rfl) (fun w hS => ?_) ?_
  rotate_left
  · go_simp <;> with_reducible rfl
  dsimp only [List.set_cons_zero, List.set_cons_succ]
  refine wpSeq_take (d := 46) (v := ?_) rfl rfl (by kernel_rfl) (fun w hS => ?_) ?_
  rotate_left
  · go_simp <;> with_reducible rfl
  dsimp only [List.set_cons_zero, List.set_cons_succ]
  refine wpSeq_take (d := 47) (v := ?_) rfl rfl (by kernel_rfl) (fun w hS => ?_) ?_
  rotate_left
  · go_simp <;> with_reducible rfl
  dsimp only [List.set_cons_zero, List.set_cons_succ]
  refine wpSeq_take (d := 48) (v := ?_) rfl rfl (by kernel_rfl) (fun w hS => ?_) ?_
  rotate_left
  · go_simp <;> with_reducible rfl
  dsimp only [List.set_cons_zero, List.set_cons_succ]
  refine wpSeq_call rfl (by kernel_rfl) (fun K hK => ?_)
  go_simp
  (with_reducible refine (c8 _).mono ?_)
  rintro e w' ⟨rfl, hq⟩
  refine hK.out _ _ ?_ (fun hH => ?_)
  · exact ⟨hq.keep hH.1, hq.keep hH.2.1, hq.keep hH.2.2.1, hq.keep hH.2.2.2.1, hq.keep hH.2.2.2.2.1, hq.keep hH.2.2.2.2.2.1, hq.keep hH.2.2.2.2.2.2.1, hq.keep hH.2.2.2.2.2.2.2.1, hH.2.2.2.2.2.2.2.2.trans hq⟩
  clear hK
  refine wpSeq_take (d := 50) (v := ?_) rfl rfl (by kernel_rfl) (fun w hS => ?_) ?_
  rotate_left
  · go_simp <;> with_reducible rfl
  dsimp only [List.set_cons_zero, List.set_cons_succ]
  refine wpSeq_take (d := 51) (v := ?_) rfl rfl (by kernel_rfl) (fun w hS => ?_) ?_
  rotate_left
  · go_simp <;> with_reducible rfl
  dsimp only [List.set_cons_zero, List.set_cons_succ]
  refine wpSeq_take (d := 52) (v := ?_) rfl rfl (by kernel_rfl) (fun w hS => ?_) ?_
  rotate_left
  · go_simp <;> with_reducible rfl
  dsimp only [List.set_cons_zero, List.set_cons_succ]
  refine wpSeq_take (d := 53) (v := ?_) rfl rfl (by kernel_rfl) (fun w hS => ?_) ?_
  rotate_left
  · go_simp <;> with_reducible rfl
  dsimp only [List.set_cons_zero, List.set_cons_succ]
  refine wpSeq_take (d := 54) (v := ?_) rfl rfl (by kernel_rfl) (fun w hS => ?_) ?_
  rotate_left
  · go_simp <;> with_reducible rfl
  dsimp only [List.set_cons_zero, List.set_cons_succ]
  refine wpSeq_take (d := 55) (v := ?_) rfl rfl (by kernel_rfl) (fun w hS => ?_) ?_
  rotate_left
  · go_simp <;> with_reducible rfl
  dsimp only [List.set_cons_zero, List.set_cons_succ]
  refine wpSeq_take (d := 56) (v := ?_) rfl rfl (by kernel_rfl) (fun w hS => ?_) ?_
  rotate_left
  · go_simp <;> with_reducible rfl
  dsimp only [List.set_cons_zero, List.set_cons_succ]
  refine wpSeq_take (d := 57) (v := ?_) rfl rfl (by kernel_rfl) (fun w hS => ?_) ?_
  rotate_left
  · go_simp <;> with_reducible rfl
  dsimp only [List.set_cons_zero, List.set_cons_succ]
  refine wpSeq_skip (d := 58) rfl rfl (by kernel_rfl) (by rfl) ?_
  refine wpSeq_skip (d := 59) rfl rfl (by kernel_rfl) (by rfl) ?_
  refine wpSeq_skip (d := 60) rfl rfl (by kernel_rfl) (by rfl) ?_
  refine wpSeq_skip (d := 61) rfl rfl (by kernel_rfl) (by rfl) ?_
  refine wpSeq_skip (d := 62) rfl rfl (by kernel_rfl) (by rfl) ?_
  refine wpSeq_take (d := 63) (v := ?_) rfl rfl (by kernel_rfl) (fun w hS => ?_) ?_
  rotate_left
  · go_simp <;> with_reducible rfl
  dsimp only [List.set_cons_zero, List.set_cons_succ]
  refine wpSeq_take (d := 64) (v := ?_) rfl rfl (by kernel_rfl) (fun w hS => ?_) ?_
  rotate_left
  · go_simp <;> with_reducible rfl
  dsimp only [List.set_cons_zero, List.set_cons_succ]
  refine wpSeq_take (d := 65) (v := ?_) rfl rfl (by kernel_rfl) (fun w hS => ?_) ?_
  rotate_left
  · go_simp <;> with_reducible rfl
  dsimp only [List.set_cons_zero, List.set_cons_succ]
  refine wpSeq_take (d := 66) (v := ?_) rfl rfl (by kernel_rfl) (fun w hS => ?_) ?_
  rotate_left
  · go_simp <;> with_reducible rfl
  dsimp only [List.set_cons_zero, List.set_cons_succ]
  refine wpSeq_take (d := 67) (v := ?_) rfl rfl (by kernel_rfl) (fun w hS => ?_) ?_
  rotate_left
  · go_simp <;> with_reducible rfl
  dsimp only [List.set_cons_zero, List.set_cons_succ]
  refine wpSeq_take (d := 68) (v := ?_) rfl rfl (by kernel_rfl) (fun w hS => ?_) ?_
  rotate_left
  · go_simp <;> with_reducible rfl
  dsimp only [List.set_cons_zero, List.set_cons_succ]
  refine wpSeq_take (d := 69) (v := ?_) rfl rfl (by kernel_rfl) (fun w hS => ?_) ?_
  rotate_left
  · go_simp <;> with_reducible rfl
  dsimp only [List.set_cons_zero, List.set_cons_succ]
  refine wpSeq_take (d := 70) (v := ?_) rfl rfl (by kernel_rfl) (fun w hS => ?_) ?_
  rotate_left
  · go_simp <;> with_reducible rfl
  dsimp only [List.set_cons_zero, List.set_cons_succ]
  refine wpSeq_take (d := 71) (v := ?_) rfl rfl (by kernel_rfl) (fun w hS => ?_) ?_
  rotate_left
  · go_simp <;> with_reducible rfl
  dsimp only [List.set_cons_zero, List.set_cons_succ]
  refine wpSeq_skip (d := 72) rfl rfl (by kernel_rfl) (by rfl) ?_
  refine wpSeq_skip (d := 73) rfl rfl (by kernel_rfl) (by rfl) ?_
  refine wpSeq_skip (d := 74) rfl rfl (by kernel_rfl) (by rfl) ?_
  refine wpSeq_skip (d := 75) rfl rfl (by kernel_rfl) (by rfl) ?_
  refine wpSeq_skip (d := 76) rfl rfl (by kernel_rfl) (by rfl) ?_
  refine wpSeq_take (d := 77) (v := ?_) rfl rfl (by kernel_rfl) (fun w hS => ?_) ?_
  rotate_left
  · go_simp <;> with_reducible rfl
  dsimp only [List.set_cons_zero, List.set_cons_succ]
  refine wpSeq_take (d := 78) (v := ?_) rfl rfl (by kernel_rfl) (fun w hS => ?_) ?_
  rotate_left
  · go_simp <;> with_reducible rfl
  dsimp only [List.set_cons_zero, List.set_cons_succ]
  refine wpSeq_take (d := 79) (v := ?_) rfl rfl (by kernel_rfl) (fun w hS => ?_) ?_
  rotate_left
  · go_simp <;> with_reducible rfl
  dsimp only [List.set_cons_zero, List.set_cons_succ]
  refine wpSeq_take (d := 80) (v := ?_) rfl rfl (by kernel_rfl) (fun w hS => ?_) ?_
  rotate_left
  · go_simp <;> with_reducible rfl
  dsimp only [List.set_cons_zero, List.set_cons_succ]
  refine wpSeq_take (d := 81) (v := ?_) rfl rfl (by kernel_rfl) (fun w hS => ?_) ?_
  rotate_left
  · go_simp <;> with_reducible rfl
  dsimp only [List.set_cons_zero, List.set_cons_succ]
  refine wpSeq_take (d := 83) (v := ?_) rfl rfl (by kernel_rfl) (fun w hS => ?_) ?_
  rotate_left
  · go_simp <;> with_reducible rfl
  dsimp only [List.set_cons_zero, List.set_cons_succ]
  refine wpSeq_call rfl (by kernel_rfl) (fun K hK => ?_)
  go_simp
  (with_reducible refine (c9 _).mono ?_)
  rintro e w' ⟨rfl, hq⟩
  refine hK.out _ _ ?_ (fun hH => ?_)
  · exact ⟨hq.keep hH.1, hq.keep hH.2.1, hq.keep hH.2.2.1, hq.keep hH.2.2.2.1, hq.keep hH.2.2.2.2.1, hq.keep hH.2.2.2.2.2.1, hq.keep hH.2.2.2.2.2.2.1, hq.keep hH.2.2.2.2.2.2.2.1, hH.2.2.2.2.2.2.2.2.trans hq⟩
  clear hK
  refine wpSeq_take (d := 84) (v := ?_) rfl rfl (by kernel_rfl) (fun w hS => ?_) ?_
  rotate_left
  · go_simp <;> with_reducible rfl
  dsimp only [List.set_cons_zero, List.set_cons_succ]
  refine wpSeq_take (d := 85) (v := ?_) rfl rfl (by kernel_rfl) (fun w hS => ?_) ?_
  rotate_left
  · go_simp <;> with_reducible rfl
  dsimp only [List.set_cons_zero, List.set_cons_succ]
  refine wpSeq_take (d := 86) (v := ?_) rfl rfl (by kernel_rfl) (fun w hS => ?_) ?_
  rotate_left
  · go_simp <;> with_reducible rfl
  dsimp only [List.set_cons_zero, List.set_cons_succ]
  refine wpSeq_take (d := 87) (v := ?_) rfl rfl (by kernel_rfl) (fun w hS => ?_) ?_
  rotate_left
  · go_simp <;> with_reducible rfl
  dsimp only [List.set_cons_zero, List.set_cons_succ]
  refine wpSeq_call rfl (by kernel_rfl) (fun K hK => ?_)
  go_simp
  (with_reducible refine (ca _).mono ?_)
  rintro e w' ⟨rfl, hq⟩
  refine hK.out _ _ ?_ (fun hH => ?_)
  · exact ⟨hq.keep hH.1, hq.keep hH.2.1, hq.keep hH.2.2.1, hq.keep hH.2.2.2.1, hq.keep hH.2.2.2.2.1, hq.keep hH.2.2.2.2.2.1, hq.keep hH.2.2.2.2.2.2.1, hq.keep hH.2.2.2.2.2.2.2.1, hH.2.2.2.2.2.2.2.2.trans hq⟩
  clear hK
  refine wpSeq_take (d := 89) (v := ?_) rfl rfl (by kernel_rfl) (fun w hS => ?_) ?_
  rotate_left
  · go_simp <;> with_reducible rfl
  dsimp only [List.set_cons_zero, List.set_cons_succ]
  refine wpSeq_take (d := 90) (v := ?_) rfl rfl (by kernel_rfl) (fun w hS => ?_) ?_
  rotate_left
  · go_simp <;> with_reducible rfl
  dsimp only [List.set_cons_zero, List.set_cons_succ]
  refine wpSeq_take (d := 91) (v := ?_) rfl rfl (by kernel_rfl) (fun w hS => ?_) ?_
  rotate_left
  · go_simp <;> with_reducible rfl
  dsimp only [List.set_cons_zero, List.set_cons_succ]
  refine wpSeq_take (d := 92) (v := ?_) rfl rfl (by kernel_rfl) (fun w hS => ?_) ?_
  rotate_left
  · go_simp <;> with_reducible rfl
  dsimp only [List.set_cons_zero, List.set_cons_succ]
  refine wpSeq_take (d := 93) (v := ?_) rfl rfl (by kernel_rfl) (fun w hS => ?_) ?_
  rotate_left
  · go_simp <;> with_reducible rfl
  dsimp only [List.set_cons_zero, List.set_cons_succ]
  refine wpSeq_take (d := 94) (v := ?_) rfl rfl (by kernel_rfl) (fun w hS => ?_) ?_
  rotate_left
  · go_simp <;> with_reducible rfl
  dsimp only [List.set_cons_zero, List.set_cons_succ]
  refine wpSeq_take (d := 95) (v := ?_) rfl rfl (by kernel_rfl) (fun w hS => ?_) ?_
  rotate_left
  · go_simp <;> with_reducible rfl
  dsimp only [List.set_cons_zero, List.set_cons_succ]
  refine wpSeq_take (d := 96) (v := ?_) rfl rfl (by kernel_rfl) (fun w hS => ?_) ?_
  rotate_left
  · go_simp <;> with_reducible rfl
  dsimp only [List.set_cons_zero, List.set_cons_succ]
  refine wpSeq_take (d := 97) (v := ?_) rfl rfl (by kernel_rfl) (fun w hS => ?_) ?_
  rotate_left
  · go_simp <;> with_reducible rfl
  dsimp only [List.set_cons_zero, List.set_cons_succ]
  refine wpSeq_take (d := 98) (v := ?_) rfl rfl (by kernel_rfl) (fun w hS => ?_) ?_
  rotate_left
  · go_simp <;> with_reducible rfl
  dsimp only [List.set_cons_zero, List.set_cons_succ]
  refine wpSeq_take (d := 99) (v := ?_) rfl rfl (by kernel_rfl) (fun w hS => ?_) ?_
  rotate_left
  · go_simp <;> with_reducible rfl
  dsimp only [List.set_cons_zero, List.set_cons_succ]
  refine wpSeq_take (d := 100) (v := ?_) rfl rfl (by kernel_rfl) (fun w hS => ?_) ?_
  rotate_left
  · go_simp <;> with_reducible rfl
  dsimp only [List.set_cons_zero, List.set_cons_succ]
  refine wpSeq_take (d := 101) (v := ?_) rfl rfl (by kernel_rfl) (fun w hS => ?_) ?_
  rotate_left
  · go_simp <;> with_reducible rfl
  dsimp only [List.set_cons_zero, List.set_cons_succ]
  refine wpSeq_take (d := 102) (v := ?_) rfl rfl (by kernel_rfl) (fun w hS => ?_) ?_
  rotate_left
  · go_simp <;> with_reducible rfl
  dsimp only [List.set_cons_zero, List.set_cons_succ]
  refine wpSeq_take (d := 103) (v := ?_) rfl rfl (by kernel_rfl) (fun w hS => ?_) ?_
  rotate_left
  · go_simp <;> with_reducible rfl
  dsimp only [List.set_cons_zero, List.set_cons_succ]
  refine wpSeq_take (d := 104) (v := ?_) rfl rfl (by kernel_rfl) (fun w hS => ?_) ?_
  rotate_left
  · go_simp <;> with_reducible rfl
  dsimp only [List.set_cons_zero, List.set_cons_succ]
  refine wpSeq_take (d := 105) (v := ?_) rfl rfl (by kernel_rfl) (fun w hS => ?_) ?_
  rotate_left
  · go_simp <;> with_reducible rfl
  dsimp only [List.set_cons_zero, List.set_cons_succ]
  refine wpSeq_take (d := 106) (v := ?_) rfl rfl (by kernel_rfl) (fun w hS => ?_) ?_
  rotate_left
  · go_simp <;> with_reducible rfl
  dsimp only [List.set_cons_zero, List.set_cons_succ]
  refine wpSeq_take (d := 107) (v := ?_) rfl rfl (by kernel_rfl) (fun w hS => ?_) ?_
  rotate_left
  · go_simp <;> with_reducible rfl
  dsimp only [List.set_cons_zero, List.set_cons_succ]
  refine wpSeq_take (d := 108) (v := ?_) rfl rfl (by kernel_rfl) (fun w hS => ?_) ?_
  rotate_left
  · go_simp <;> with_reducible rfl
  dsimp only [List.set_cons_zero, List.set_cons_succ]
  refine wpSeq_take (d := 109) (v := ?_) rfl rfl (by kernel_rfl) (fun w hS => ?_) ?_
  rotate_left
  · go_simp <;> with_reducible rfl
  dsimp only [List.set_cons_zero, List.set_cons_succ]
  refine wpSeq_skip (d := 110) rfl rfl (by kernel_rfl) (by rfl) ?_
  refine wpSeq_skip (d := 111) rfl rfl (by kernel_rfl) (by rfl) ?_
  refine wpSeq_skip (d := 112) rfl rfl (by kernel_rfl) (by rfl) ?_
  refine wpSeq_skip (d := 113) rfl rfl (by kernel_rfl) (by rfl) ?_
  refine wpSeq_take (d := 114) (v := ?_) rfl rfl (by kernel_rfl) (fun w hS => ?_) ?_
  rotate_left
  · go_simp <;> with_reducible rfl
  dsimp only [List.set_cons_zero, List.set_cons_succ]
  refine wpSeq_take (d := 115) (v := ?_) rfl rfl (by kernel_rfl) (fun w hS => ?_) ?_
  rotate_left
  · go_simp <;> with_reducible rfl
  dsimp only [List.set_cons_zero, List.set_cons_succ]
  refine wpSeq_take (d := 6) (v := ?_) rfl rfl (by kernel_rfl) (fun w hS => ?_) ?_
  rotate_left
  · go_simp <;> with_reducible rfl
  dsimp only [List.set_cons_zero, List.set_cons_succ]
  refine wpSeq_done ?_
  refine NoPanic.normal ?_

  go_wp2
  go_ret
  exact ⟨rfl, hH.2.2.2.2.2.2.2.2⟩

set_option maxHeartbeats 8000000 in
theorem joins_1 (al ah bl bh v jl jh ll lh : Int)
    (c0 : ∀ w, Calls Try.prog 15 #[.agg #[.int .i64 al, .int .i64 ah]] w fun e w' => e = .returned (.bool true) ∧ Q w w')
    (c1 : ∀ w, Calls Try.prog 15 #[.agg #[.int .i64 bl, .int .i64 bh]] w fun e w' => e = .returned (.bool true) ∧ Q w w')
    (c2 : ∀ w, Calls Try.prog 19 #[.agg #[.int .i64 al, .int .i64 ah], .agg #[.int .i64 bl, .int .i64 bh]] w fun e w' => e = .returned (.agg #[.int .i64 jl, .int .i64 jh]) ∧ Q w w')
    (c3 : ∀ w, Calls Try.prog 21 #[.agg #[.int .i64 al, .int .i64 ah], .int .i64 v] w fun e w' => e = .returned (.agg #[.int .i64 ll, .int .i64 lh]) ∧ Q w w')
    (c4 : ∀ w, Calls Try.prog 15 #[.agg #[.int .i64 jl, .int .i64 jh]] w fun e w' => e = .returned (.bool true) ∧ Q w w')
    (c5 : ∀ w, Calls Try.prog 17 #[.agg #[.int .i64 jl, .int .i64 jh], .int .i64 al] w fun e w' => e = .returned (.bool true) ∧ Q w w')
    (c6 : ∀ w, Calls Try.prog 17 #[.agg #[.int .i64 jl, .int .i64 jh], .int .i64 ah] w fun e w' => e = .returned (.bool true) ∧ Q w w')
    (c7 : ∀ w, Calls Try.prog 17 #[.agg #[.int .i64 jl, .int .i64 jh], .int .i64 bl] w fun e w' => e = .returned (.bool true) ∧ Q w w')
    (c8 : ∀ w, Calls Try.prog 17 #[.agg #[.int .i64 jl, .int .i64 jh], .int .i64 bh] w fun e w' => e = .returned (.bool true) ∧ Q w w')
    (c9 : ∀ w, Calls Try.prog 19 #[.agg #[.int .i64 bl, .int .i64 bh], .agg #[.int .i64 al, .int .i64 ah]] w fun e w' => e = .returned (.agg #[.int .i64 jl, .int .i64 jh]) ∧ Q w w')
    (ca : ∀ w, Calls Try.prog 15 #[.agg #[.int .i64 ll, .int .i64 lh]] w fun e w' => e = .returned (.bool true) ∧ Q w w')
    (la : al ≤ ll) (lb : v ≤ ll) (o1 : (jl == al) = true) (o2 : (jh == ah) = true) (o3 : (lh == ah) = false) (p3 : (lh == v) = true) (w : World) :
    Calls Try.prog 7 #[.agg #[.int .i64 al, .int .i64 ah], .agg #[.int .i64 bl, .int .i64 bh], .int .i64 v] w fun e w' => e = .returned (.bool true) ∧ Q w w' := by
  go_enter Try.func7, Try.ntmps7
  go_wp2_with fail
  refine (known2_any _).mono ?_
  rintro e w1 ⟨rfl, h⟩
  have a0 := h.keep (p := ⟨w.heap.size, 0, none⟩) (v := .int .i64 al) (by simp [go_sem])
  have a1 := h.keep (p := ⟨w.heap.size, 1, none⟩) (v := .int .i64 ah) (by simp [go_sem])
  have b0 := h.keep (p := ⟨w.heap.size + 1, 0, none⟩) (v := .int .i64 bl) (by simp [go_sem])
  have b1 := h.keep (p := ⟨w.heap.size + 1, 1, none⟩) (v := .int .i64 bh) (by simp [go_sem])
  replace h : Q w w1 := by first | exact h | exact ((Q.refl w).alloc _ _).trans h | exact (((Q.refl w).alloc _ _).alloc _ _).trans h | exact ((((Q.refl w).alloc _ _).alloc _ _).alloc _ _).trans h | exact (((((Q.refl w).alloc _ _).alloc _ _).alloc _ _).alloc _ _).trans h
  have az : w.heap.size < w1.heap.size := World.block_lt_of_cell? _ _ a0
  have bz : w.heap.size + 1 < w1.heap.size := World.block_lt_of_cell? _ _ b0
  have g := h
  clear h
  go_wp2_with fail
  refine (c0 _).mono ?_
  rintro e w2 ⟨rfl, h⟩
  replace h : Q w1 w2 := by first | exact h | exact ((Q.refl w1).alloc _ _).trans h | exact (((Q.refl w1).alloc _ _).alloc _ _).trans h | exact ((((Q.refl w1).alloc _ _).alloc _ _).alloc _ _).trans h | exact (((((Q.refl w1).alloc _ _).alloc _ _).alloc _ _).alloc _ _).trans h
  replace a0 := h.keep a0
  replace a1 := h.keep a1
  replace b0 := h.keep b0
  replace b1 := h.keep b1
  replace az : w.heap.size < w2.heap.size := World.block_lt_of_cell? _ _ a0
  replace bz : w.heap.size + 1 < w2.heap.size := World.block_lt_of_cell? _ _ b0
  replace g := g.trans h
  clear h
  go_wp2_with fail
  refine (c1 _).mono ?_
  rintro e w3 ⟨rfl, h⟩
  replace h : Q w2 w3 := by first | exact h | exact ((Q.refl w2).alloc _ _).trans h | exact (((Q.refl w2).alloc _ _).alloc _ _).trans h | exact ((((Q.refl w2).alloc _ _).alloc _ _).alloc _ _).trans h | exact (((((Q.refl w2).alloc _ _).alloc _ _).alloc _ _).alloc _ _).trans h
  replace a0 := h.keep a0
  replace a1 := h.keep a1
  replace b0 := h.keep b0
  replace b1 := h.keep b1
  replace az : w.heap.size < w3.heap.size := World.block_lt_of_cell? _ _ a0
  replace bz : w.heap.size + 1 < w3.heap.size := World.block_lt_of_cell? _ _ b0
  replace g := g.trans h
  clear h
  go_wp2_with fail
  refine (c2 _).mono ?_
  rintro e w4 ⟨rfl, h⟩
  replace h : Q w3 w4 := by first | exact h | exact ((Q.refl w3).alloc _ _).trans h | exact (((Q.refl w3).alloc _ _).alloc _ _).trans h | exact ((((Q.refl w3).alloc _ _).alloc _ _).alloc _ _).trans h | exact (((((Q.refl w3).alloc _ _).alloc _ _).alloc _ _).alloc _ _).trans h
  replace a0 := h.keep a0
  replace a1 := h.keep a1
  replace b0 := h.keep b0
  replace b1 := h.keep b1
  replace az : w.heap.size < w4.heap.size := World.block_lt_of_cell? _ _ a0
  replace bz : w.heap.size + 1 < w4.heap.size := World.block_lt_of_cell? _ _ b0
  replace g := g.trans h
  clear h
  go_wp2_with fail
  refine (c3 _).mono ?_
  rintro e w5 ⟨rfl, h⟩
  have j0 := h.keep (p := ⟨w4.heap.size, 0, none⟩) (v := .int .i64 jl) (by simp [go_sem])
  have j1 := h.keep (p := ⟨w4.heap.size, 1, none⟩) (v := .int .i64 jh) (by simp [go_sem])
  replace h : Q w4 w5 := by first | exact h | exact ((Q.refl w4).alloc _ _).trans h | exact (((Q.refl w4).alloc _ _).alloc _ _).trans h | exact ((((Q.refl w4).alloc _ _).alloc _ _).alloc _ _).trans h | exact (((((Q.refl w4).alloc _ _).alloc _ _).alloc _ _).alloc _ _).trans h
  replace a0 := h.keep a0
  replace a1 := h.keep a1
  replace b0 := h.keep b0
  replace b1 := h.keep b1
  replace az : w.heap.size < w5.heap.size := World.block_lt_of_cell? _ _ a0
  replace bz : w.heap.size + 1 < w5.heap.size := World.block_lt_of_cell? _ _ b0
  have jz : w4.heap.size < w5.heap.size := World.block_lt_of_cell? _ _ j0
  replace g := g.trans h
  clear h
  clear c0 c1 c2 c3
  go_wp2_with fail
  refine wp_region_noPanic ?_
  refine wp_region_seq (S := fun w' => w'.cell? ⟨w.heap.size, 0, none⟩ = some (.int .i64 al) ∧ w'.cell? ⟨w.heap.size, 1, none⟩ = some (.int .i64 ah) ∧ w'.cell? ⟨w.heap.size + 1, 0, none⟩ = some (.int .i64 bl) ∧ w'.cell? ⟨w.heap.size + 1, 1, none⟩ = some (.int .i64 bh) ∧ w'.cell? ⟨w4.heap.size, 0, none⟩ = some (.int .i64 jl) ∧ w'.cell? ⟨w4.heap.size, 1, none⟩ = some (.int .i64 jh) ∧ w'.cell? ⟨w5.heap.size, 0, none⟩ = some (.int .i64 ll) ∧ w'.cell? ⟨w5.heap.size, 1, none⟩ = some (.int .i64 lh) ∧ Q w w') [(0, 0), (1, 2), (2, 0), (3, 0), (4, 0), (5, 0), (6, 2), (7, 0), (8, 0), (9, 0), (10, 0), (11, 0), (12, 2), (13, 0), (14, 0), (15, 0), (16, 0), (17, 0), (18, 2), (19, 0), (20, 0), (21, 0), (22, 0), (23, 0), (24, 2), (25, 0), (26, 0), (27, 0), (28, 0), (29, 0), (30, 0), (31, 0), (32, 0), (33, 1), (34, 1), (35, 1), (36, 1), (37, 1), (38, 0), (39, 0), (40, 0), (41, 0), (42, 0), (43, 0), (44, 0), (45, 0), (46, 0), (47, 1), (48, 1), (49, 1), (50, 1), (51, 1), (52, 0), (53, 0), (54, 0), (55, 0), (56, 0), (58, 0), (57, 2), (59, 0), (60, 0), (61, 0), (62, 0), (63, 2), (64, 0), (65, 0), (66, 0), (67, 0), (68, 0), (69, 0), (70, 0), (71, 0), (72, 0), (73, 0), (74, 0), (75, 0), (76, 0), (77, 0), (78, 0), (79, 0), (80, 0), (81, 0), (82, 0), (83, 0), (84, 0), (85, 0), (86, 0), (87, 0), (88, 0), (89, 0), (90, 0), (91, 0)] [0, 1, 2, 4, 4, 20, 44, 68, 192, 256, 256, 1280, 2816, 4352, 12288, 16384, 16384, 81920, 180224, 278528, 786432, 1048576, 1048576, 5242880, 11534336, 17825792, 50331648, 67108864, 201326592, 67108864, 603979776, 1409286144, 2214592512, 4294967296, 12884901888, 4294967296, 38654705664, 90194313216, 141801029632, 274945015808, 554050781184, 1099511627776, 3298534883328, 1099511627776, 9895604649984, 23089744183296, 36283883716608, 70368744177664, 211106232532992, 70368744177664, 633318697598976, 1477743627730944, 2323268069490688, 4504699138998272, 9077567998918656, 18014398509481984, 18014398509481984, 126100789566373888, 18014398509481984, 450359962737049600, 594475150812905472, 1297036692682702848, 2305843009213693952, 6917529027641081856, 11529215046068469760, 27670116110564327424, 36893488147419103232, 110680464442257309696, 36893488147419103232, 479615345916448342016, 627189298506124754944, 1217485108864830406656, 2361183241434822606848, 7083549724304467820544, 2361183241434822606848, 21250649172913403461632, 49584848070131274743808, 77919046967349146025984, 153476910693263469445120, 302231454903657293676544, 906694364710971881029632, 302231454903657293676544, 2720083094132915643088896, 6346860552976803167207424, 9973638011820690691325952, 19342813113834066795298816, 58028439341502200385896448, 19342813113834066795298816, 251456570479842868338884608, 329130054390082792813756416, 619272251097593794743238656, 2475880078570760549798248447] [0, 1, 2, 4, 4, 20, 44, 68, 128, 256, 256, 1280, 2816, 4352, 8192, 16384, 16384, 81920, 180224, 278528, 524288, 1048576, 1048576, 5242880, 11534336, 17825792, 33554432, 67108864, 201326592, 67108864, 603979776, 1409286144, 2214592512, 4294967296, 12884901888, 4294967296, 38654705664, 90194313216, 141801029632, 274945015808, 549755813888, 1099511627776, 3298534883328, 1099511627776, 9895604649984, 23089744183296, 36283883716608, 70368744177664, 211106232532992, 70368744177664, 633318697598976, 1477743627730944, 2323268069490688, 4504699138998272, 9007199254740992, 18014398509481984, 18014398509481984, 126100789566373888, 18014398509481984, 450359962737049600, 594475150812905472, 1152921504606846976, 2305843009213693952, 6917529027641081856, 11529215046068469760, 18446744073709551616, 36893488147419103232, 110680464442257309696, 36893488147419103232, 479615345916448342016, 627189298506124754944, 1180591620717411303424, 2361183241434822606848, 7083549724304467820544, 2361183241434822606848, 21250649172913403461632, 49584848070131274743808, 77919046967349146025984, 151115727451828646838272, 302231454903657293676544, 906694364710971881029632, 302231454903657293676544, 2720083094132915643088896, 6346860552976803167207424, 9973638011820690691325952, 19342813113834066795298816, 58028439341502200385896448, 19342813113834066795298816, 251456570479842868338884608, 329130054390082792813756416, 619272251097593794743238656, 1237940039285380274899124224] (by kernel_rfl) (by kernel_rfl) (fun _ _ _ _ _ h => h) ?_ (fun hH => ?_)
  · exact ⟨by simp [go_sem, *], by simp [go_sem, *], by simp [go_sem, *], by simp [go_sem, *], by simp [go_sem, *], by simp [go_sem, *], by simp [go_sem, *], by simp [go_sem, *], by first | exact (g.alloc _ _).drew | exact g.drew⟩
  refine wpSeq_take (d := 25) (v := ?_) rfl rfl (by kernel_rfl) (fun w hS => ?_) ?_
  rotate_left
  · go_simp <;> with_reducible rfl
  dsimp only [List.set_cons_zero, List.set_cons_succ]
  refine wpSeq_call rfl (by kernel_rfl) (fun K hK => ?_)
  go_simp
  (with_reducible refine (c4 _).mono ?_)
  rintro e w' ⟨rfl, hq⟩
  refine hK.out _ _ ?_ (fun hH => ?_)
  · exact ⟨hq.keep hH.1, hq.keep hH.2.1, hq.keep hH.2.2.1, hq.keep hH.2.2.2.1, hq.keep hH.2.2.2.2.1, hq.keep hH.2.2.2.2.2.1, hq.keep hH.2.2.2.2.2.2.1, hq.keep hH.2.2.2.2.2.2.2.1, hH.2.2.2.2.2.2.2.2.trans hq⟩
  clear hK
  refine wpSeq_take (d := 27) (v := ?_) rfl rfl (by kernel_rfl) (fun w hS => ?_) ?_
  rotate_left
  · go_simp <;> with_reducible rfl
  dsimp only [List.set_cons_zero, List.set_cons_succ]
  refine wpSeq_take (d := 28) (v := ?_) rfl rfl (by kernel_rfl) (fun w hS => ?_) ?_
  rotate_left
  · go_simp <;> with_reducible rfl
  dsimp only [List.set_cons_zero, List.set_cons_succ]
  refine wpSeq_take (d := 29) (v := ?_) rfl rfl (by kernel_rfl) (fun w hS => ?_) ?_
  rotate_left
  · go_simp <;> with_reducible rfl
  dsimp only [List.set_cons_zero, List.set_cons_succ]
  refine wpSeq_take (d := 30) (v := ?_) rfl rfl (by kernel_rfl) (fun w hS => ?_) ?_
  rotate_left
  · go_simp <;> with_reducible rfl
  dsimp only [List.set_cons_zero, List.set_cons_succ]
  refine wpSeq_call rfl (by kernel_rfl) (fun K hK => ?_)
  go_simp
  (with_reducible refine (c5 _).mono ?_)
  rintro e w' ⟨rfl, hq⟩
  refine hK.out _ _ ?_ (fun hH => ?_)
  · exact ⟨hq.keep hH.1, hq.keep hH.2.1, hq.keep hH.2.2.1, hq.keep hH.2.2.2.1, hq.keep hH.2.2.2.2.1, hq.keep hH.2.2.2.2.2.1, hq.keep hH.2.2.2.2.2.2.1, hq.keep hH.2.2.2.2.2.2.2.1, hH.2.2.2.2.2.2.2.2.trans hq⟩
  clear hK
  refine wpSeq_take (d := 32) (v := ?_) rfl rfl (by kernel_rfl) (fun w hS => ?_) ?_
  rotate_left
  · go_simp <;> with_reducible rfl
  dsimp only [List.set_cons_zero, List.set_cons_succ]
  refine wpSeq_take (d := 33) (v := ?_) rfl rfl (by kernel_rfl) (fun w hS => ?_) ?_
  rotate_left
  · go_simp <;> with_reducible rfl
  dsimp only [List.set_cons_zero, List.set_cons_succ]
  refine wpSeq_take (d := 34) (v := ?_) rfl rfl (by kernel_rfl) (fun w hS => ?_) ?_
  rotate_left
  · go_simp <;> with_reducible rfl
  dsimp only [List.set_cons_zero, List.set_cons_succ]
  refine wpSeq_take (d := 35) (v := ?_) rfl rfl (by kernel_rfl) (fun w hS => ?_) ?_
  rotate_left
  · go_simp <;> with_reducible rfl
  dsimp only [List.set_cons_zero, List.set_cons_succ]
  refine wpSeq_take (d := 36) (v := ?_) rfl rfl (by kernel_rfl) (fun w hS => ?_) ?_
  rotate_left
  · go_simp <;> with_reducible rfl
  dsimp only [List.set_cons_zero, List.set_cons_succ]
  refine wpSeq_call rfl (by kernel_rfl) (fun K hK => ?_)
  go_simp
  (with_reducible refine (c6 _).mono ?_)
  rintro e w' ⟨rfl, hq⟩
  refine hK.out _ _ ?_ (fun hH => ?_)
  · exact ⟨hq.keep hH.1, hq.keep hH.2.1, hq.keep hH.2.2.1, hq.keep hH.2.2.2.1, hq.keep hH.2.2.2.2.1, hq.keep hH.2.2.2.2.2.1, hq.keep hH.2.2.2.2.2.2.1, hq.keep hH.2.2.2.2.2.2.2.1, hH.2.2.2.2.2.2.2.2.trans hq⟩
  clear hK
  refine wpSeq_take (d := 38) (v := ?_) rfl rfl (by kernel_rfl) (fun w hS => ?_) ?_
  rotate_left
  · go_simp <;> with_reducible rfl
  dsimp only [List.set_cons_zero, List.set_cons_succ]
  refine wpSeq_take (d := 39) (v := ?_) rfl rfl (by kernel_rfl) (fun w hS => ?_) ?_
  rotate_left
  · go_simp <;> with_reducible rfl
  dsimp only [List.set_cons_zero, List.set_cons_succ]
  refine wpSeq_take (d := 40) (v := ?_) rfl rfl (by kernel_rfl) (fun w hS => ?_) ?_
  rotate_left
  · go_simp <;> with_reducible rfl
  dsimp only [List.set_cons_zero, List.set_cons_succ]
  refine wpSeq_take (d := 41) (v := ?_) rfl rfl (by kernel_rfl) (fun w hS => ?_) ?_
  rotate_left
  · go_simp <;> with_reducible rfl
  dsimp only [List.set_cons_zero, List.set_cons_succ]
  refine wpSeq_take (d := 42) (v := ?_) rfl rfl (by kernel_rfl) (fun w hS => ?_) ?_
  rotate_left
  · go_simp <;> with_reducible rfl
  dsimp only [List.set_cons_zero, List.set_cons_succ]
  refine wpSeq_call rfl (by kernel_rfl) (fun K hK => ?_)
  go_simp
  (with_reducible refine (c7 _).mono ?_)
  rintro e w' ⟨rfl, hq⟩
  refine hK.out _ _ ?_ (fun hH => ?_)
  · exact ⟨hq.keep hH.1, hq.keep hH.2.1, hq.keep hH.2.2.1, hq.keep hH.2.2.2.1, hq.keep hH.2.2.2.2.1, hq.keep hH.2.2.2.2.2.1, hq.keep hH.2.2.2.2.2.2.1, hq.keep hH.2.2.2.2.2.2.2.1, hH.2.2.2.2.2.2.2.2.trans hq⟩
  clear hK
  refine wpSeq_take (d := 44) (v := ?_) rfl rfl (by kernel_rfl) (fun w hS => ?_) ?_
  rotate_left
  · go_simp <;> with_reducible rfl
  dsimp only [List.set_cons_zero, List.set_cons_succ]
  refine wpSeq_take (d := 45) (v := ?_) rfl rfl (by kernel_rfl) (fun w hS => ?_) ?_
  rotate_left
  · go_simp <;> with_reducible rfl
  dsimp only [List.set_cons_zero, List.set_cons_succ]
  refine wpSeq_take (d := 46) (v := ?_) rfl rfl (by kernel_rfl) (fun w hS => ?_) ?_
  rotate_left
  · go_simp <;> with_reducible rfl
  dsimp only [List.set_cons_zero, List.set_cons_succ]
  refine wpSeq_take (d := 47) (v := ?_) rfl rfl (by kernel_rfl) (fun w hS => ?_) ?_
  rotate_left
  · go_simp <;> with_reducible rfl
  dsimp only [List.set_cons_zero, List.set_cons_succ]
  refine wpSeq_take (d := 48) (v := ?_) rfl rfl (by kernel_rfl) (fun w hS => ?_) ?_
  rotate_left
  · go_simp <;> with_reducible rfl
  dsimp only [List.set_cons_zero, List.set_cons_succ]
  refine wpSeq_call rfl (by kernel_rfl) (fun K hK => ?_)
  go_simp
  (with_reducible refine (c8 _).mono ?_)
  rintro e w' ⟨rfl, hq⟩
  refine hK.out _ _ ?_ (fun hH => ?_)
  · exact ⟨hq.keep hH.1, hq.keep hH.2.1, hq.keep hH.2.2.1, hq.keep hH.2.2.2.1, hq.keep hH.2.2.2.2.1, hq.keep hH.2.2.2.2.2.1, hq.keep hH.2.2.2.2.2.2.1, hq.keep hH.2.2.2.2.2.2.2.1, hH.2.2.2.2.2.2.2.2.trans hq⟩
  clear hK
  refine wpSeq_take (d := 50) (v := ?_) rfl rfl (by kernel_rfl) (fun w hS => ?_) ?_
  rotate_left
  · go_simp <;> with_reducible rfl
  dsimp only [List.set_cons_zero, List.set_cons_succ]
  refine wpSeq_take (d := 51) (v := ?_) rfl rfl (by kernel_rfl) (fun w hS => ?_) ?_
  rotate_left
  · go_simp <;> with_reducible rfl
  dsimp only [List.set_cons_zero, List.set_cons_succ]
  refine wpSeq_take (d := 52) (v := ?_) rfl rfl (by kernel_rfl) (fun w hS => ?_) ?_
  rotate_left
  · go_simp <;> with_reducible rfl
  dsimp only [List.set_cons_zero, List.set_cons_succ]
  refine wpSeq_take (d := 53) (v := ?_) rfl rfl (by kernel_rfl) (fun w hS => ?_) ?_
  rotate_left
  · go_simp <;> with_reducible rfl
  dsimp only [List.set_cons_zero, List.set_cons_succ]
  refine wpSeq_take (d := 54) (v := ?_) rfl rfl (by kernel_rfl) (fun w hS => ?_) ?_
  rotate_left
  · go_simp <;> with_reducible rfl
  dsimp only [List.set_cons_zero, List.set_cons_succ]
  refine wpSeq_take (d := 55) (v := ?_) rfl rfl (by kernel_rfl) (fun w hS => ?_) ?_
  rotate_left
  · go_simp <;> with_reducible rfl
  dsimp only [List.set_cons_zero, List.set_cons_succ]
  refine wpSeq_take (d := 56) (v := ?_) rfl rfl (by kernel_rfl) (fun w hS => ?_) ?_
  rotate_left
  · go_simp <;> with_reducible rfl
  dsimp only [List.set_cons_zero, List.set_cons_succ]
  refine wpSeq_take (d := 57) (v := ?_) rfl rfl (by kernel_rfl) (fun w hS => ?_) ?_
  rotate_left
  · go_simp <;> with_reducible rfl
  dsimp only [List.set_cons_zero, List.set_cons_succ]
  refine wpSeq_skip (d := 58) rfl rfl (by kernel_rfl) (by rfl) ?_
  refine wpSeq_skip (d := 59) rfl rfl (by kernel_rfl) (by rfl) ?_
  refine wpSeq_skip (d := 60) rfl rfl (by kernel_rfl) (by rfl) ?_
  refine wpSeq_skip (d := 61) rfl rfl (by kernel_rfl) (by rfl) ?_
  refine wpSeq_skip (d := 62) rfl rfl (by kernel_rfl) (by rfl) ?_
  refine wpSeq_take (d := 63) (v := ?_) rfl rfl (by kernel_rfl) (fun w hS => ?_) ?_
  rotate_left
  · go_simp <;> with_reducible rfl
  dsimp only [List.set_cons_zero, List.set_cons_succ]
  refine wpSeq_take (d := 64) (v := ?_) rfl rfl (by kernel_rfl) (fun w hS => ?_) ?_
  rotate_left
  · go_simp <;> with_reducible rfl
  dsimp only [List.set_cons_zero, List.set_cons_succ]
  refine wpSeq_take (d := 65) (v := ?_) rfl rfl (by kernel_rfl) (fun w hS => ?_) ?_
  rotate_left
  · go_simp <;> with_reducible rfl
  dsimp only [List.set_cons_zero, List.set_cons_succ]
  refine wpSeq_take (d := 66) (v := ?_) rfl rfl (by kernel_rfl) (fun w hS => ?_) ?_
  rotate_left
  · go_simp <;> with_reducible rfl
  dsimp only [List.set_cons_zero, List.set_cons_succ]
  refine wpSeq_take (d := 67) (v := ?_) rfl rfl (by kernel_rfl) (fun w hS => ?_) ?_
  rotate_left
  · go_simp <;> with_reducible rfl
  dsimp only [List.set_cons_zero, List.set_cons_succ]
  refine wpSeq_take (d := 68) (v := ?_) rfl rfl (by kernel_rfl) (fun w hS => ?_) ?_
  rotate_left
  · go_simp <;> with_reducible rfl
  dsimp only [List.set_cons_zero, List.set_cons_succ]
  refine wpSeq_take (d := 69) (v := ?_) rfl rfl (by kernel_rfl) (fun w hS => ?_) ?_
  rotate_left
  · go_simp <;> with_reducible rfl
  dsimp only [List.set_cons_zero, List.set_cons_succ]
  refine wpSeq_take (d := 70) (v := ?_) rfl rfl (by kernel_rfl) (fun w hS => ?_) ?_
  rotate_left
  · go_simp <;> with_reducible rfl
  dsimp only [List.set_cons_zero, List.set_cons_succ]
  refine wpSeq_take (d := 71) (v := ?_) rfl rfl (by kernel_rfl) (fun w hS => ?_) ?_
  rotate_left
  · go_simp <;> with_reducible rfl
  dsimp only [List.set_cons_zero, List.set_cons_succ]
  refine wpSeq_skip (d := 72) rfl rfl (by kernel_rfl) (by rfl) ?_
  refine wpSeq_skip (d := 73) rfl rfl (by kernel_rfl) (by rfl) ?_
  refine wpSeq_skip (d := 74) rfl rfl (by kernel_rfl) (by rfl) ?_
  refine wpSeq_skip (d := 75) rfl rfl (by kernel_rfl) (by rfl) ?_
  refine wpSeq_skip (d := 76) rfl rfl (by kernel_rfl) (by rfl) ?_
  refine wpSeq_take (d := 77) (v := ?_) rfl rfl (by kernel_rfl) (fun w hS => ?_) ?_
  rotate_left
  · go_simp <;> with_reducible rfl
  dsimp only [List.set_cons_zero, List.set_cons_succ]
  refine wpSeq_take (d := 78) (v := ?_) rfl rfl (by kernel_rfl) (fun w hS => ?_) ?_
  rotate_left
  · go_simp <;> with_reducible rfl
  dsimp only [List.set_cons_zero, List.set_cons_succ]
  refine wpSeq_take (d := 79) (v := ?_) rfl rfl (by kernel_rfl) (fun w hS => ?_) ?_
  rotate_left
  · go_simp <;> with_reducible rfl
  dsimp only [List.set_cons_zero, List.set_cons_succ]
  refine wpSeq_take (d := 80) (v := ?_) rfl rfl (by kernel_rfl) (fun w hS => ?_) ?_
  rotate_left
  · go_simp <;> with_reducible rfl
  dsimp only [List.set_cons_zero, List.set_cons_succ]
  refine wpSeq_take (d := 81) (v := ?_) rfl rfl (by kernel_rfl) (fun w hS => ?_) ?_
  rotate_left
  · go_simp <;> with_reducible rfl
  dsimp only [List.set_cons_zero, List.set_cons_succ]
  refine wpSeq_take (d := 83) (v := ?_) rfl rfl (by kernel_rfl) (fun w hS => ?_) ?_
  rotate_left
  · go_simp <;> with_reducible rfl
  dsimp only [List.set_cons_zero, List.set_cons_succ]
  refine wpSeq_call rfl (by kernel_rfl) (fun K hK => ?_)
  go_simp
  (with_reducible refine (c9 _).mono ?_)
  rintro e w' ⟨rfl, hq⟩
  refine hK.out _ _ ?_ (fun hH => ?_)
  · exact ⟨hq.keep hH.1, hq.keep hH.2.1, hq.keep hH.2.2.1, hq.keep hH.2.2.2.1, hq.keep hH.2.2.2.2.1, hq.keep hH.2.2.2.2.2.1, hq.keep hH.2.2.2.2.2.2.1, hq.keep hH.2.2.2.2.2.2.2.1, hH.2.2.2.2.2.2.2.2.trans hq⟩
  clear hK
  refine wpSeq_take (d := 84) (v := ?_) rfl rfl (by kernel_rfl) (fun w hS => ?_) ?_
  rotate_left
  · go_simp <;> with_reducible rfl
  dsimp only [List.set_cons_zero, List.set_cons_succ]
  refine wpSeq_take (d := 85) (v := ?_) rfl rfl (by kernel_rfl) (fun w hS => ?_) ?_
  rotate_left
  · go_simp <;> with_reducible rfl
  dsimp only [List.set_cons_zero, List.set_cons_succ]
  refine wpSeq_take (d := 86) (v := ?_) rfl rfl (by kernel_rfl) (fun w hS => ?_) ?_
  rotate_left
  · go_simp <;> with_reducible rfl
  dsimp only [List.set_cons_zero, List.set_cons_succ]
  refine wpSeq_take (d := 87) (v := ?_) rfl rfl (by kernel_rfl) (fun w hS => ?_) ?_
  rotate_left
  · go_simp <;> with_reducible rfl
  dsimp only [List.set_cons_zero, List.set_cons_succ]
  refine wpSeq_call rfl (by kernel_rfl) (fun K hK => ?_)
  go_simp
  (with_reducible refine (ca _).mono ?_)
  rintro e w' ⟨rfl, hq⟩
  refine hK.out _ _ ?_ (fun hH => ?_)
  · exact ⟨hq.keep hH.1, hq.keep hH.2.1, hq.keep hH.2.2.1, hq.keep hH.2.2.2.1, hq.keep hH.2.2.2.2.1, hq.keep hH.2.2.2.2.2.1, hq.keep hH.2.2.2.2.2.2.1, hq.keep hH.2.2.2.2.2.2.2.1, hH.2.2.2.2.2.2.2.2.trans hq⟩
  clear hK
  refine wpSeq_take (d := 89) (v := ?_) rfl rfl (by kernel_rfl) (fun w hS => ?_) ?_
  rotate_left
  · go_simp <;> with_reducible rfl
  dsimp only [List.set_cons_zero, List.set_cons_succ]
  refine wpSeq_take (d := 90) (v := ?_) rfl rfl (by kernel_rfl) (fun w hS => ?_) ?_
  rotate_left
  · go_simp <;> with_reducible rfl
  dsimp only [List.set_cons_zero, List.set_cons_succ]
  refine wpSeq_take (d := 91) (v := ?_) rfl rfl (by kernel_rfl) (fun w hS => ?_) ?_
  rotate_left
  · go_simp <;> with_reducible rfl
  dsimp only [List.set_cons_zero, List.set_cons_succ]
  refine wpSeq_take (d := 92) (v := ?_) rfl rfl (by kernel_rfl) (fun w hS => ?_) ?_
  rotate_left
  · go_simp <;> with_reducible rfl
  dsimp only [List.set_cons_zero, List.set_cons_succ]
  refine wpSeq_take (d := 93) (v := ?_) rfl rfl (by kernel_rfl) (fun w hS => ?_) ?_
  rotate_left
  · go_simp <;> with_reducible rfl
  dsimp only [List.set_cons_zero, List.set_cons_succ]
  refine wpSeq_take (d := 94) (v := ?_) rfl rfl (by kernel_rfl) (fun w hS => ?_) ?_
  rotate_left
  · go_simp <;> with_reducible rfl
  dsimp only [List.set_cons_zero, List.set_cons_succ]
  refine wpSeq_take (d := 95) (v := ?_) rfl rfl (by kernel_rfl) (fun w hS => ?_) ?_
  rotate_left
  · go_simp <;> with_reducible rfl
  dsimp only [List.set_cons_zero, List.set_cons_succ]
  refine wpSeq_take (d := 96) (v := ?_) rfl rfl (by kernel_rfl) (fun w hS => ?_) ?_
  rotate_left
  · go_simp <;> with_reducible rfl
  dsimp only [List.set_cons_zero, List.set_cons_succ]
  refine wpSeq_take (d := 97) (v := ?_) rfl rfl (by kernel_rfl) (fun w hS => ?_) ?_
  rotate_left
  · go_simp <;> with_reducible rfl
  dsimp only [List.set_cons_zero, List.set_cons_succ]
  refine wpSeq_take (d := 98) (v := ?_) rfl rfl (by kernel_rfl) (fun w hS => ?_) ?_
  rotate_left
  · go_simp <;> with_reducible rfl
  dsimp only [List.set_cons_zero, List.set_cons_succ]
  refine wpSeq_take (d := 99) (v := ?_) rfl rfl (by kernel_rfl) (fun w hS => ?_) ?_
  rotate_left
  · go_simp <;> with_reducible rfl
  dsimp only [List.set_cons_zero, List.set_cons_succ]
  refine wpSeq_take (d := 100) (v := ?_) rfl rfl (by kernel_rfl) (fun w hS => ?_) ?_
  rotate_left
  · go_simp <;> with_reducible rfl
  dsimp only [List.set_cons_zero, List.set_cons_succ]
  refine wpSeq_take (d := 101) (v := ?_) rfl rfl (by kernel_rfl) (fun w hS => ?_) ?_
  rotate_left
  · go_simp <;> with_reducible rfl
  dsimp only [List.set_cons_zero, List.set_cons_succ]
  refine wpSeq_take (d := 102) (v := ?_) rfl rfl (by kernel_rfl) (fun w hS => ?_) ?_
  rotate_left
  · go_simp <;> with_reducible rfl
  dsimp only [List.set_cons_zero, List.set_cons_succ]
  refine wpSeq_take (d := 103) (v := ?_) rfl rfl (by kernel_rfl) (fun w hS => ?_) ?_
  rotate_left
  · go_simp <;> with_reducible rfl
  dsimp only [List.set_cons_zero, List.set_cons_succ]
  refine wpSeq_take (d := 104) (v := ?_) rfl rfl (by kernel_rfl) (fun w hS => ?_) ?_
  rotate_left
  · go_simp <;> with_reducible rfl
  dsimp only [List.set_cons_zero, List.set_cons_succ]
  refine wpSeq_take (d := 105) (v := ?_) rfl rfl (by kernel_rfl) (fun w hS => ?_) ?_
  rotate_left
  · go_simp <;> with_reducible rfl
  dsimp only [List.set_cons_zero, List.set_cons_succ]
  refine wpSeq_take (d := 106) (v := ?_) rfl rfl (by kernel_rfl) (fun w hS => ?_) ?_
  rotate_left
  · go_simp <;> with_reducible rfl
  dsimp only [List.set_cons_zero, List.set_cons_succ]
  refine wpSeq_take (d := 107) (v := ?_) rfl rfl (by kernel_rfl) (fun w hS => ?_) ?_
  rotate_left
  · go_simp <;> with_reducible rfl
  dsimp only [List.set_cons_zero, List.set_cons_succ]
  refine wpSeq_take (d := 108) (v := ?_) rfl rfl (by kernel_rfl) (fun w hS => ?_) ?_
  rotate_left
  · go_simp <;> with_reducible rfl
  dsimp only [List.set_cons_zero, List.set_cons_succ]
  refine wpSeq_take (d := 109) (v := ?_) rfl rfl (by kernel_rfl) (fun w hS => ?_) ?_
  rotate_left
  · go_simp <;> with_reducible rfl
  dsimp only [List.set_cons_zero, List.set_cons_succ]
  refine wpSeq_take (d := 110) (v := ?_) rfl rfl (by kernel_rfl) (fun w hS => ?_) ?_
  rotate_left
  · go_simp <;> with_reducible rfl
  dsimp only [List.set_cons_zero, List.set_cons_succ]
  refine wpSeq_take (d := 111) (v := ?_) rfl rfl (by kernel_rfl) (fun w hS => ?_) ?_
  rotate_left
  · go_simp <;> with_reducible rfl
  dsimp only [List.set_cons_zero, List.set_cons_succ]
  refine wpSeq_take (d := 112) (v := ?_) rfl rfl (by kernel_rfl) (fun w hS => ?_) ?_
  rotate_left
  · go_simp <;> with_reducible rfl
  dsimp only [List.set_cons_zero, List.set_cons_succ]
  refine wpSeq_take (d := 113) (v := ?_) rfl rfl (by kernel_rfl) (fun w hS => ?_) ?_
  rotate_left
  · go_simp <;> with_reducible rfl
  dsimp only [List.set_cons_zero, List.set_cons_succ]
  refine wpSeq_take (d := 114) (v := ?_) rfl rfl (by kernel_rfl) (fun w hS => ?_) ?_
  rotate_left
  · go_simp <;> with_reducible rfl
  dsimp only [List.set_cons_zero, List.set_cons_succ]
  refine wpSeq_take (d := 115) (v := ?_) rfl rfl (by kernel_rfl) (fun w hS => ?_) ?_
  rotate_left
  · go_simp <;> with_reducible rfl
  dsimp only [List.set_cons_zero, List.set_cons_succ]
  refine wpSeq_take (d := 6) (v := ?_) rfl rfl (by kernel_rfl) (fun w hS => ?_) ?_
  rotate_left
  · go_simp <;> with_reducible rfl
  dsimp only [List.set_cons_zero, List.set_cons_succ]
  refine wpSeq_done ?_
  refine NoPanic.normal ?_

  go_wp2
  go_ret
  exact ⟨rfl, hH.2.2.2.2.2.2.2.2⟩

set_option maxHeartbeats 8000000 in
theorem joins_2 (al ah bl bh v jl jh ll lh : Int)
    (c0 : ∀ w, Calls Try.prog 15 #[.agg #[.int .i64 al, .int .i64 ah]] w fun e w' => e = .returned (.bool true) ∧ Q w w')
    (c1 : ∀ w, Calls Try.prog 15 #[.agg #[.int .i64 bl, .int .i64 bh]] w fun e w' => e = .returned (.bool true) ∧ Q w w')
    (c2 : ∀ w, Calls Try.prog 19 #[.agg #[.int .i64 al, .int .i64 ah], .agg #[.int .i64 bl, .int .i64 bh]] w fun e w' => e = .returned (.agg #[.int .i64 jl, .int .i64 jh]) ∧ Q w w')
    (c3 : ∀ w, Calls Try.prog 21 #[.agg #[.int .i64 al, .int .i64 ah], .int .i64 v] w fun e w' => e = .returned (.agg #[.int .i64 ll, .int .i64 lh]) ∧ Q w w')
    (c4 : ∀ w, Calls Try.prog 15 #[.agg #[.int .i64 jl, .int .i64 jh]] w fun e w' => e = .returned (.bool true) ∧ Q w w')
    (c5 : ∀ w, Calls Try.prog 17 #[.agg #[.int .i64 jl, .int .i64 jh], .int .i64 al] w fun e w' => e = .returned (.bool true) ∧ Q w w')
    (c6 : ∀ w, Calls Try.prog 17 #[.agg #[.int .i64 jl, .int .i64 jh], .int .i64 ah] w fun e w' => e = .returned (.bool true) ∧ Q w w')
    (c7 : ∀ w, Calls Try.prog 17 #[.agg #[.int .i64 jl, .int .i64 jh], .int .i64 bl] w fun e w' => e = .returned (.bool true) ∧ Q w w')
    (c8 : ∀ w, Calls Try.prog 17 #[.agg #[.int .i64 jl, .int .i64 jh], .int .i64 bh] w fun e w' => e = .returned (.bool true) ∧ Q w w')
    (c9 : ∀ w, Calls Try.prog 19 #[.agg #[.int .i64 bl, .int .i64 bh], .agg #[.int .i64 al, .int .i64 ah]] w fun e w' => e = .returned (.agg #[.int .i64 jl, .int .i64 jh]) ∧ Q w w')
    (ca : ∀ w, Calls Try.prog 15 #[.agg #[.int .i64 ll, .int .i64 lh]] w fun e w' => e = .returned (.bool true) ∧ Q w w')
    (la : al ≤ ll) (lb : v ≤ ll) (o1 : (jl == al) = true) (o2 : (jh == ah) = false) (p2 : (jh == bh) = true) (o3 : (lh == ah) = true) (w : World) :
    Calls Try.prog 7 #[.agg #[.int .i64 al, .int .i64 ah], .agg #[.int .i64 bl, .int .i64 bh], .int .i64 v] w fun e w' => e = .returned (.bool true) ∧ Q w w' := by
  go_enter Try.func7, Try.ntmps7
  go_wp2_with fail
  refine (known2_any _).mono ?_
  rintro e w1 ⟨rfl, h⟩
  have a0 := h.keep (p := ⟨w.heap.size, 0, none⟩) (v := .int .i64 al) (by simp [go_sem])
  have a1 := h.keep (p := ⟨w.heap.size, 1, none⟩) (v := .int .i64 ah) (by simp [go_sem])
  have b0 := h.keep (p := ⟨w.heap.size + 1, 0, none⟩) (v := .int .i64 bl) (by simp [go_sem])
  have b1 := h.keep (p := ⟨w.heap.size + 1, 1, none⟩) (v := .int .i64 bh) (by simp [go_sem])
  replace h : Q w w1 := by first | exact h | exact ((Q.refl w).alloc _ _).trans h | exact (((Q.refl w).alloc _ _).alloc _ _).trans h | exact ((((Q.refl w).alloc _ _).alloc _ _).alloc _ _).trans h | exact (((((Q.refl w).alloc _ _).alloc _ _).alloc _ _).alloc _ _).trans h
  have az : w.heap.size < w1.heap.size := World.block_lt_of_cell? _ _ a0
  have bz : w.heap.size + 1 < w1.heap.size := World.block_lt_of_cell? _ _ b0
  have g := h
  clear h
  go_wp2_with fail
  refine (c0 _).mono ?_
  rintro e w2 ⟨rfl, h⟩
  replace h : Q w1 w2 := by first | exact h | exact ((Q.refl w1).alloc _ _).trans h | exact (((Q.refl w1).alloc _ _).alloc _ _).trans h | exact ((((Q.refl w1).alloc _ _).alloc _ _).alloc _ _).trans h | exact (((((Q.refl w1).alloc _ _).alloc _ _).alloc _ _).alloc _ _).trans h
  replace a0 := h.keep a0
  replace a1 := h.keep a1
  replace b0 := h.keep b0
  replace b1 := h.keep b1
  replace az : w.heap.size < w2.heap.size := World.block_lt_of_cell? _ _ a0
  replace bz : w.heap.size + 1 < w2.heap.size := World.block_lt_of_cell? _ _ b0
  replace g := g.trans h
  clear h
  go_wp2_with fail
  refine (c1 _).mono ?_
  rintro e w3 ⟨rfl, h⟩
  replace h : Q w2 w3 := by first | exact h | exact ((Q.refl w2).alloc _ _).trans h | exact (((Q.refl w2).alloc _ _).alloc _ _).trans h | exact ((((Q.refl w2).alloc _ _).alloc _ _).alloc _ _).trans h | exact (((((Q.refl w2).alloc _ _).alloc _ _).alloc _ _).alloc _ _).trans h
  replace a0 := h.keep a0
  replace a1 := h.keep a1
  replace b0 := h.keep b0
  replace b1 := h.keep b1
  replace az : w.heap.size < w3.heap.size := World.block_lt_of_cell? _ _ a0
  replace bz : w.heap.size + 1 < w3.heap.size := World.block_lt_of_cell? _ _ b0
  replace g := g.trans h
  clear h
  go_wp2_with fail
  refine (c2 _).mono ?_
  rintro e w4 ⟨rfl, h⟩
  replace h : Q w3 w4 := by first | exact h | exact ((Q.refl w3).alloc _ _).trans h | exact (((Q.refl w3).alloc _ _).alloc _ _).trans h | exact ((((Q.refl w3).alloc _ _).alloc _ _).alloc _ _).trans h | exact (((((Q.refl w3).alloc _ _).alloc _ _).alloc _ _).alloc _ _).trans h
  replace a0 := h.keep a0
  replace a1 := h.keep a1
  replace b0 := h.keep b0
  replace b1 := h.keep b1
  replace az : w.heap.size < w4.heap.size := World.block_lt_of_cell? _ _ a0
  replace bz : w.heap.size + 1 < w4.heap.size := World.block_lt_of_cell? _ _ b0
  replace g := g.trans h
  clear h
  go_wp2_with fail
  refine (c3 _).mono ?_
  rintro e w5 ⟨rfl, h⟩
  have j0 := h.keep (p := ⟨w4.heap.size, 0, none⟩) (v := .int .i64 jl) (by simp [go_sem])
  have j1 := h.keep (p := ⟨w4.heap.size, 1, none⟩) (v := .int .i64 jh) (by simp [go_sem])
  replace h : Q w4 w5 := by first | exact h | exact ((Q.refl w4).alloc _ _).trans h | exact (((Q.refl w4).alloc _ _).alloc _ _).trans h | exact ((((Q.refl w4).alloc _ _).alloc _ _).alloc _ _).trans h | exact (((((Q.refl w4).alloc _ _).alloc _ _).alloc _ _).alloc _ _).trans h
  replace a0 := h.keep a0
  replace a1 := h.keep a1
  replace b0 := h.keep b0
  replace b1 := h.keep b1
  replace az : w.heap.size < w5.heap.size := World.block_lt_of_cell? _ _ a0
  replace bz : w.heap.size + 1 < w5.heap.size := World.block_lt_of_cell? _ _ b0
  have jz : w4.heap.size < w5.heap.size := World.block_lt_of_cell? _ _ j0
  replace g := g.trans h
  clear h
  clear c0 c1 c2 c3
  go_wp2_with fail
  refine wp_region_noPanic ?_
  refine wp_region_seq (S := fun w' => w'.cell? ⟨w.heap.size, 0, none⟩ = some (.int .i64 al) ∧ w'.cell? ⟨w.heap.size, 1, none⟩ = some (.int .i64 ah) ∧ w'.cell? ⟨w.heap.size + 1, 0, none⟩ = some (.int .i64 bl) ∧ w'.cell? ⟨w.heap.size + 1, 1, none⟩ = some (.int .i64 bh) ∧ w'.cell? ⟨w4.heap.size, 0, none⟩ = some (.int .i64 jl) ∧ w'.cell? ⟨w4.heap.size, 1, none⟩ = some (.int .i64 jh) ∧ w'.cell? ⟨w5.heap.size, 0, none⟩ = some (.int .i64 ll) ∧ w'.cell? ⟨w5.heap.size, 1, none⟩ = some (.int .i64 lh) ∧ Q w w') [(0, 0), (1, 2), (2, 0), (3, 0), (4, 0), (5, 0), (6, 2), (7, 0), (8, 0), (9, 0), (10, 0), (11, 0), (12, 2), (13, 0), (14, 0), (15, 0), (16, 0), (17, 0), (18, 2), (19, 0), (20, 0), (21, 0), (22, 0), (23, 0), (24, 2), (25, 0), (26, 0), (27, 0), (28, 0), (29, 0), (30, 0), (31, 0), (32, 0), (33, 1), (34, 1), (35, 1), (36, 1), (37, 1), (38, 0), (39, 0), (40, 0), (41, 0), (42, 0), (43, 0), (44, 0), (45, 0), (46, 0), (47, 0), (48, 0), (49, 0), (50, 0), (51, 0), (52, 0), (53, 0), (54, 0), (55, 0), (56, 0), (58, 0), (57, 2), (59, 0), (60, 0), (61, 0), (62, 0), (63, 2), (64, 0), (65, 0), (66, 0), (67, 0), (68, 0), (69, 0), (70, 0), (71, 0), (72, 0), (73, 0), (74, 0), (75, 0), (76, 0), (77, 0), (78, 0), (79, 0), (80, 0), (81, 0), (82, 0), (83, 0), (84, 0), (85, 1), (86, 1), (87, 1), (88, 1), (89, 0), (90, 0), (91, 0)] [0, 1, 2, 4, 4, 20, 44, 68, 192, 256, 256, 1280, 2816, 4352, 12288, 16384, 16384, 81920, 180224, 278528, 786432, 1048576, 1048576, 5242880, 11534336, 17825792, 50331648, 67108864, 201326592, 67108864, 603979776, 1409286144, 2214592512, 4294967296, 12884901888, 4294967296, 38654705664, 90194313216, 141801029632, 274945015808, 554050781184, 1099511627776, 3298534883328, 1099511627776, 9895604649984, 23089744183296, 36283883716608, 70368744177664, 211106232532992, 70368744177664, 633318697598976, 1477743627730944, 2323268069490688, 4504699138998272, 9077567998918656, 18014398509481984, 18014398509481984, 126100789566373888, 18014398509481984, 450359962737049600, 594475150812905472, 1297036692682702848, 2305843009213693952, 6917529027641081856, 11529215046068469760, 27670116110564327424, 36893488147419103232, 110680464442257309696, 36893488147419103232, 479615345916448342016, 627189298506124754944, 1217485108864830406656, 2361183241434822606848, 7083549724304467820544, 2361183241434822606848, 21250649172913403461632, 49584848070131274743808, 77919046967349146025984, 153476910693263469445120, 302231454903657293676544, 906694364710971881029632, 302231454903657293676544, 2720083094132915643088896, 6346860552976803167207424, 9973638011820690691325952, 19342813113834066795298816, 58028439341502200385896448, 19342813113834066795298816, 251456570479842868338884608, 329130054390082792813756416, 619272251097593794743238656, 2475880078570760549798248447] [0, 1, 2, 4, 4, 20, 44, 68, 128, 256, 256, 1280, 2816, 4352, 8192, 16384, 16384, 81920, 180224, 278528, 524288, 1048576, 1048576, 5242880, 11534336, 17825792, 33554432, 67108864, 201326592, 67108864, 603979776, 1409286144, 2214592512, 4294967296, 12884901888, 4294967296, 38654705664, 90194313216, 141801029632, 274945015808, 549755813888, 1099511627776, 3298534883328, 1099511627776, 9895604649984, 23089744183296, 36283883716608, 70368744177664, 211106232532992, 70368744177664, 633318697598976, 1477743627730944, 2323268069490688, 4504699138998272, 9007199254740992, 18014398509481984, 18014398509481984, 126100789566373888, 18014398509481984, 450359962737049600, 594475150812905472, 1152921504606846976, 2305843009213693952, 6917529027641081856, 11529215046068469760, 18446744073709551616, 36893488147419103232, 110680464442257309696, 36893488147419103232, 479615345916448342016, 627189298506124754944, 1180591620717411303424, 2361183241434822606848, 7083549724304467820544, 2361183241434822606848, 21250649172913403461632, 49584848070131274743808, 77919046967349146025984, 151115727451828646838272, 302231454903657293676544, 906694364710971881029632, 302231454903657293676544, 2720083094132915643088896, 6346860552976803167207424, 9973638011820690691325952, 19342813113834066795298816, 58028439341502200385896448, 19342813113834066795298816, 251456570479842868338884608, 329130054390082792813756416, 619272251097593794743238656, 1237940039285380274899124224] (by kernel_rfl) (by kernel_rfl) (fun _ _ _ _ _ h => h) ?_ (fun hH => ?_)
  · exact ⟨by simp [go_sem, *], by simp [go_sem, *], by simp [go_sem, *], by simp [go_sem, *], by simp [go_sem, *], by simp [go_sem, *], by simp [go_sem, *], by simp [go_sem, *], by first | exact (g.alloc _ _).drew | exact g.drew⟩
  refine wpSeq_take (d := 25) (v := ?_) rfl rfl (by kernel_rfl) (fun w hS => ?_) ?_
  rotate_left
  · go_simp <;> with_reducible rfl
  dsimp only [List.set_cons_zero, List.set_cons_succ]
  refine wpSeq_call rfl (by kernel_rfl) (fun K hK => ?_)
  go_simp
  (with_reducible refine (c4 _).mono ?_)
  rintro e w' ⟨rfl, hq⟩
  refine hK.out _ _ ?_ (fun hH => ?_)
  · exact ⟨hq.keep hH.1, hq.keep hH.2.1, hq.keep hH.2.2.1, hq.keep hH.2.2.2.1, hq.keep hH.2.2.2.2.1, hq.keep hH.2.2.2.2.2.1, hq.keep hH.2.2.2.2.2.2.1, hq.keep hH.2.2.2.2.2.2.2.1, hH.2.2.2.2.2.2.2.2.trans hq⟩
  clear hK
  refine wpSeq_take (d := 27) (v := ?_) rfl rfl (by kernel_rfl) (fun w hS => ?_) ?_
  rotate_left
  · go_simp <;> with_reducible rfl
  dsimp only [List.set_cons_zero, List.set_cons_succ]
  refine wpSeq_take (d := 28) (v := ?_) rfl rfl (by kernel_rfl) (fun w hS => ?_) ?_
  rotate_left
  · go_simp <;> with_reducible rfl
  dsimp only [List.set_cons_zero, List.set_cons_succ]
  refine wpSeq_take (d := 29) (v := ?_) rfl rfl (by kernel_rfl) (fun w hS => ?_) ?_
  rotate_left
  · go_simp <;> with_reducible rfl
  dsimp only [List.set_cons_zero, List.set_cons_succ]
  refine wpSeq_take (d := 30) (v := ?_) rfl rfl (by kernel_rfl) (fun w hS => ?_) ?_
  rotate_left
  · go_simp <;> with_reducible rfl
  dsimp only [List.set_cons_zero, List.set_cons_succ]
  refine wpSeq_call rfl (by kernel_rfl) (fun K hK => ?_)
  go_simp
  (with_reducible refine (c5 _).mono ?_)
  rintro e w' ⟨rfl, hq⟩
  refine hK.out _ _ ?_ (fun hH => ?_)
  · exact ⟨hq.keep hH.1, hq.keep hH.2.1, hq.keep hH.2.2.1, hq.keep hH.2.2.2.1, hq.keep hH.2.2.2.2.1, hq.keep hH.2.2.2.2.2.1, hq.keep hH.2.2.2.2.2.2.1, hq.keep hH.2.2.2.2.2.2.2.1, hH.2.2.2.2.2.2.2.2.trans hq⟩
  clear hK
  refine wpSeq_take (d := 32) (v := ?_) rfl rfl (by kernel_rfl) (fun w hS => ?_) ?_
  rotate_left
  · go_simp <;> with_reducible rfl
  dsimp only [List.set_cons_zero, List.set_cons_succ]
  refine wpSeq_take (d := 33) (v := ?_) rfl rfl (by kernel_rfl) (fun w hS => ?_) ?_
  rotate_left
  · go_simp <;> with_reducible rfl
  dsimp only [List.set_cons_zero, List.set_cons_succ]
  refine wpSeq_take (d := 34) (v := ?_) rfl rfl (by kernel_rfl) (fun w hS => ?_) ?_
  rotate_left
  · go_simp <;> with_reducible rfl
  dsimp only [List.set_cons_zero, List.set_cons_succ]
  refine wpSeq_take (d := 35) (v := ?_) rfl rfl (by kernel_rfl) (fun w hS => ?_) ?_
  rotate_left
  · go_simp <;> with_reducible rfl
  dsimp only [List.set_cons_zero, List.set_cons_succ]
  refine wpSeq_take (d := 36) (v := ?_) rfl rfl (by kernel_rfl) (fun w hS => ?_) ?_
  rotate_left
  · go_simp <;> with_reducible rfl
  dsimp only [List.set_cons_zero, List.set_cons_succ]
  refine wpSeq_call rfl (by kernel_rfl) (fun K hK => ?_)
  go_simp
  (with_reducible refine (c6 _).mono ?_)
  rintro e w' ⟨rfl, hq⟩
  refine hK.out _ _ ?_ (fun hH => ?_)
  · exact ⟨hq.keep hH.1, hq.keep hH.2.1, hq.keep hH.2.2.1, hq.keep hH.2.2.2.1, hq.keep hH.2.2.2.2.1, hq.keep hH.2.2.2.2.2.1, hq.keep hH.2.2.2.2.2.2.1, hq.keep hH.2.2.2.2.2.2.2.1, hH.2.2.2.2.2.2.2.2.trans hq⟩
  clear hK
  refine wpSeq_take (d := 38) (v := ?_) rfl rfl (by kernel_rfl) (fun w hS => ?_) ?_
  rotate_left
  · go_simp <;> with_reducible rfl
  dsimp only [List.set_cons_zero, List.set_cons_succ]
  refine wpSeq_take (d := 39) (v := ?_) rfl rfl (by kernel_rfl) (fun w hS => ?_) ?_
  rotate_left
  · go_simp <;> with_reducible rfl
  dsimp only [List.set_cons_zero, List.set_cons_succ]
  refine wpSeq_take (d := 40) (v := ?_) rfl rfl (by kernel_rfl) (fun w hS => ?_) ?_
  rotate_left
  · go_simp <;> with_reducible rfl
  dsimp only [List.set_cons_zero, List.set_cons_succ]
  refine wpSeq_take (d := 41) (v := ?_) rfl rfl (by kernel_rfl) (fun w hS => ?_) ?_
  rotate_left
  · go_simp <;> with_reducible rfl
  dsimp only [List.set_cons_zero, List.set_cons_succ]
  refine wpSeq_take (d := 42) (v := ?_) rfl rfl (by kernel_rfl) (fun w hS => ?_) ?_
  rotate_left
  · go_simp <;> with_reducible rfl
  dsimp only [List.set_cons_zero, List.set_cons_succ]
  refine wpSeq_call rfl (by kernel_rfl) (fun K hK => ?_)
  go_simp
  (with_reducible refine (c7 _).mono ?_)
  rintro e w' ⟨rfl, hq⟩
  refine hK.out _ _ ?_ (fun hH => ?_)
  · exact ⟨hq.keep hH.1, hq.keep hH.2.1, hq.keep hH.2.2.1, hq.keep hH.2.2.2.1, hq.keep hH.2.2.2.2.1, hq.keep hH.2.2.2.2.2.1, hq.keep hH.2.2.2.2.2.2.1, hq.keep hH.2.2.2.2.2.2.2.1, hH.2.2.2.2.2.2.2.2.trans hq⟩
  clear hK
  refine wpSeq_take (d := 44) (v := ?_) rfl rfl (by kernel_rfl) (fun w hS => ?_) ?_
  rotate_left
  · go_simp <;> with_reducible rfl
  dsimp only [List.set_cons_zero, List.set_cons_succ]
  refine wpSeq_take (d := 45) (v := ?_) rfl rfl (by kernel_rfl) (fun w hS => ?_) ?_
  rotate_left
  · go_simp <;> with_reducible rfl
  dsimp only [List.set_cons_zero, List.set_cons_succ]
  refine wpSeq_take (d := 46) (v := ?_) rfl rfl (by kernel_rfl) (fun w hS => ?_) ?_
  rotate_left
  · go_simp <;> with_reducible rfl
  dsimp only [List.set_cons_zero, List.set_cons_succ]
  refine wpSeq_take (d := 47) (v := ?_) rfl rfl (by kernel_rfl) (fun w hS => ?_) ?_
  rotate_left
  · go_simp <;> with_reducible rfl
  dsimp only [List.set_cons_zero, List.set_cons_succ]
  refine wpSeq_take (d := 48) (v := ?_) rfl rfl (by kernel_rfl) (fun w hS => ?_) ?_
  rotate_left
  · go_simp <;> with_reducible rfl
  dsimp only [List.set_cons_zero, List.set_cons_succ]
  refine wpSeq_call rfl (by kernel_rfl) (fun K hK => ?_)
  go_simp
  (with_reducible refine (c8 _).mono ?_)
  rintro e w' ⟨rfl, hq⟩
  refine hK.out _ _ ?_ (fun hH => ?_)
  · exact ⟨hq.keep hH.1, hq.keep hH.2.1, hq.keep hH.2.2.1, hq.keep hH.2.2.2.1, hq.keep hH.2.2.2.2.1, hq.keep hH.2.2.2.2.2.1, hq.keep hH.2.2.2.2.2.2.1, hq.keep hH.2.2.2.2.2.2.2.1, hH.2.2.2.2.2.2.2.2.trans hq⟩
  clear hK
  refine wpSeq_take (d := 50) (v := ?_) rfl rfl (by kernel_rfl) (fun w hS => ?_) ?_
  rotate_left
  · go_simp <;> with_reducible rfl
  dsimp only [List.set_cons_zero, List.set_cons_succ]
  refine wpSeq_take (d := 51) (v := ?_) rfl rfl (by kernel_rfl) (fun w hS => ?_) ?_
  rotate_left
  · go_simp <;> with_reducible rfl
  dsimp only [List.set_cons_zero, List.set_cons_succ]
  refine wpSeq_take (d := 52) (v := ?_) rfl rfl (by kernel_rfl) (fun w hS => ?_) ?_
  rotate_left
  · go_simp <;> with_reducible rfl
  dsimp only [List.set_cons_zero, List.set_cons_succ]
  refine wpSeq_take (d := 53) (v := ?_) rfl rfl (by kernel_rfl) (fun w hS => ?_) ?_
  rotate_left
  · go_simp <;> with_reducible rfl
  dsimp only [List.set_cons_zero, List.set_cons_succ]
  refine wpSeq_take (d := 54) (v := ?_) rfl rfl (by kernel_rfl) (fun w hS => ?_) ?_
  rotate_left
  · go_simp <;> with_reducible rfl
  dsimp only [List.set_cons_zero, List.set_cons_succ]
  refine wpSeq_take (d := 55) (v := ?_) rfl rfl (by kernel_rfl) (fun w hS => ?_) ?_
  rotate_left
  · go_simp <;> with_reducible rfl
  dsimp only [List.set_cons_zero, List.set_cons_succ]
  refine wpSeq_take (d := 56) (v := ?_) rfl rfl (by kernel_rfl) (fun w hS => ?_) ?_
  rotate_left
  · go_simp <;> with_reducible rfl
  dsimp only [List.set_cons_zero, List.set_cons_succ]
  refine wpSeq_take (d := 57) (v := ?_) rfl rfl (by kernel_rfl) (fun w hS => ?_) ?_
  rotate_left
  · go_simp <;> with_reducible rfl
  dsimp only [List.set_cons_zero, List.set_cons_succ]
  refine wpSeq_skip (d := 58) rfl rfl (by kernel_rfl) (by rfl) ?_
  refine wpSeq_skip (d := 59) rfl rfl (by kernel_rfl) (by rfl) ?_
  refine wpSeq_skip (d := 60) rfl rfl (by kernel_rfl) (by rfl) ?_
  refine wpSeq_skip (d := 61) rfl rfl (by kernel_rfl) (by rfl) ?_
  refine wpSeq_skip (d := 62) rfl rfl (by kernel_rfl) (by rfl) ?_
  refine wpSeq_take (d := 63) (v := ?_) rfl rfl (by kernel_rfl) (fun w hS => ?_) ?_
  rotate_left
  · go_simp <;> with_reducible rfl
  dsimp only [List.set_cons_zero, List.set_cons_succ]
  refine wpSeq_take (d := 64) (v := ?_) rfl rfl (by kernel_rfl) (fun w hS => ?_) ?_
  rotate_left
  · go_simp <;> with_reducible rfl
  dsimp only [List.set_cons_zero, List.set_cons_succ]
  refine wpSeq_take (d := 65) (v := ?_) rfl rfl (by kernel_rfl) (fun w hS => ?_) ?_
  rotate_left
  · go_simp <;> with_reducible rfl
  dsimp only [List.set_cons_zero, List.set_cons_succ]
  refine wpSeq_take (d := 66) (v := ?_) rfl rfl (by kernel_rfl) (fun w hS => ?_) ?_
  rotate_left
  · go_simp <;> with_reducible rfl
  dsimp only [List.set_cons_zero, List.set_cons_succ]
  refine wpSeq_take (d := 67) (v := ?_) rfl rfl (by kernel_rfl) (fun w hS => ?_) ?_
  rotate_left
  · go_simp <;> with_reducible rfl
  dsimp only [List.set_cons_zero, List.set_cons_succ]
  refine wpSeq_take (d := 68) (v := ?_) rfl rfl (by kernel_rfl) (fun w hS => ?_) ?_
  rotate_left
  · go_simp <;> with_reducible rfl
  dsimp only [List.set_cons_zero, List.set_cons_succ]
  refine wpSeq_take (d := 69) (v := ?_) rfl rfl (by kernel_rfl) (fun w hS => ?_) ?_
  rotate_left
  · go_simp <;> with_reducible rfl
  dsimp only [List.set_cons_zero, List.set_cons_succ]
  refine wpSeq_take (d := 70) (v := ?_) rfl rfl (by kernel_rfl) (fun w hS => ?_) ?_
  rotate_left
  · go_simp <;> with_reducible rfl
  dsimp only [List.set_cons_zero, List.set_cons_succ]
  refine wpSeq_take (d := 71) (v := ?_) rfl rfl (by kernel_rfl) (fun w hS => ?_) ?_
  rotate_left
  · go_simp <;> with_reducible rfl
  dsimp only [List.set_cons_zero, List.set_cons_succ]
  refine wpSeq_take (d := 72) (v := ?_) rfl rfl (by kernel_rfl) (fun w hS => ?_) ?_
  rotate_left
  · go_simp <;> with_reducible rfl
  dsimp only [List.set_cons_zero, List.set_cons_succ]
  refine wpSeq_take (d := 73) (v := ?_) rfl rfl (by kernel_rfl) (fun w hS => ?_) ?_
  rotate_left
  · go_simp <;> with_reducible rfl
  dsimp only [List.set_cons_zero, List.set_cons_succ]
  refine wpSeq_take (d := 74) (v := ?_) rfl rfl (by kernel_rfl) (fun w hS => ?_) ?_
  rotate_left
  · go_simp <;> with_reducible rfl
  dsimp only [List.set_cons_zero, List.set_cons_succ]
  refine wpSeq_take (d := 75) (v := ?_) rfl rfl (by kernel_rfl) (fun w hS => ?_) ?_
  rotate_left
  · go_simp <;> with_reducible rfl
  dsimp only [List.set_cons_zero, List.set_cons_succ]
  refine wpSeq_take (d := 76) (v := ?_) rfl rfl (by kernel_rfl) (fun w hS => ?_) ?_
  rotate_left
  · go_simp <;> with_reducible rfl
  dsimp only [List.set_cons_zero, List.set_cons_succ]
  refine wpSeq_take (d := 77) (v := ?_) rfl rfl (by kernel_rfl) (fun w hS => ?_) ?_
  rotate_left
  · go_simp <;> with_reducible rfl
  dsimp only [List.set_cons_zero, List.set_cons_succ]
  refine wpSeq_take (d := 78) (v := ?_) rfl rfl (by kernel_rfl) (fun w hS => ?_) ?_
  rotate_left
  · go_simp <;> with_reducible rfl
  dsimp only [List.set_cons_zero, List.set_cons_succ]
  refine wpSeq_take (d := 79) (v := ?_) rfl rfl (by kernel_rfl) (fun w hS => ?_) ?_
  rotate_left
  · go_simp <;> with_reducible rfl
  dsimp only [List.set_cons_zero, List.set_cons_succ]
  refine wpSeq_take (d := 80) (v := ?_) rfl rfl (by kernel_rfl) (fun w hS => ?_) ?_
  rotate_left
  · go_simp <;> with_reducible rfl
  dsimp only [List.set_cons_zero, List.set_cons_succ]
  refine wpSeq_take (d := 81) (v := ?_) rfl rfl (by kernel_rfl) (fun w hS => ?_) ?_
  rotate_left
  · go_simp <;> with_reducible rfl
  dsimp only [List.set_cons_zero, List.set_cons_succ]
  refine wpSeq_take (d := 83) (v := ?_) rfl rfl (by kernel_rfl) (fun w hS => ?_) ?_
  rotate_left
  · go_simp <;> with_reducible rfl
  dsimp only [List.set_cons_zero, List.set_cons_succ]
  refine wpSeq_call rfl (by kernel_rfl) (fun K hK => ?_)
  go_simp
  (with_reducible refine (c9 _).mono ?_)
  rintro e w' ⟨rfl, hq⟩
  refine hK.out _ _ ?_ (fun hH => ?_)
  · exact ⟨hq.keep hH.1, hq.keep hH.2.1, hq.keep hH.2.2.1, hq.keep hH.2.2.2.1, hq.keep hH.2.2.2.2.1, hq.keep hH.2.2.2.2.2.1, hq.keep hH.2.2.2.2.2.2.1, hq.keep hH.2.2.2.2.2.2.2.1, hH.2.2.2.2.2.2.2.2.trans hq⟩
  clear hK
  refine wpSeq_take (d := 84) (v := ?_) rfl rfl (by kernel_rfl) (fun w hS => ?_) ?_
  rotate_left
  · go_simp <;> with_reducible rfl
  dsimp only [List.set_cons_zero, List.set_cons_succ]
  refine wpSeq_take (d := 85) (v := ?_) rfl rfl (by kernel_rfl) (fun w hS => ?_) ?_
  rotate_left
  · go_simp <;> with_reducible rfl
  dsimp only [List.set_cons_zero, List.set_cons_succ]
  refine wpSeq_take (d := 86) (v := ?_) rfl rfl (by kernel_rfl) (fun w hS => ?_) ?_
  rotate_left
  · go_simp <;> with_reducible rfl
  dsimp only [List.set_cons_zero, List.set_cons_succ]
  refine wpSeq_take (d := 87) (v := ?_) rfl rfl (by kernel_rfl) (fun w hS => ?_) ?_
  rotate_left
  · go_simp <;> with_reducible rfl
  dsimp only [List.set_cons_zero, List.set_cons_succ]
  refine wpSeq_call rfl (by kernel_rfl) (fun K hK => ?_)
  go_simp
  (with_reducible refine (ca _).mono ?_)
  rintro e w' ⟨rfl, hq⟩
  refine hK.out _ _ ?_ (fun hH => ?_)
  · exact ⟨hq.keep hH.1, hq.keep hH.2.1, hq.keep hH.2.2.1, hq.keep hH.2.2.2.1, hq.keep hH.2.2.2.2.1, hq.keep hH.2.2.2.2.2.1, hq.keep hH.2.2.2.2.2.2.1, hq.keep hH.2.2.2.2.2.2.2.1, hH.2.2.2.2.2.2.2.2.trans hq⟩
  clear hK
  refine wpSeq_take (d := 89) (v := ?_) rfl rfl (by kernel_rfl) (fun w hS => ?_) ?_
  rotate_left
  · go_simp <;> with_reducible rfl
  dsimp only [List.set_cons_zero, List.set_cons_succ]
  refine wpSeq_take (d := 90) (v := ?_) rfl rfl (by kernel_rfl) (fun w hS => ?_) ?_
  rotate_left
  · go_simp <;> with_reducible rfl
  dsimp only [List.set_cons_zero, List.set_cons_succ]
  refine wpSeq_take (d := 91) (v := ?_) rfl rfl (by kernel_rfl) (fun w hS => ?_) ?_
  rotate_left
  · go_simp <;> with_reducible rfl
  dsimp only [List.set_cons_zero, List.set_cons_succ]
  refine wpSeq_take (d := 92) (v := ?_) rfl rfl (by kernel_rfl) (fun w hS => ?_) ?_
  rotate_left
  · go_simp <;> with_reducible rfl
  dsimp only [List.set_cons_zero, List.set_cons_succ]
  refine wpSeq_take (d := 93) (v := ?_) rfl rfl (by kernel_rfl) (fun w hS => ?_) ?_
  rotate_left
  · go_simp <;> with_reducible rfl
  dsimp only [List.set_cons_zero, List.set_cons_succ]
  refine wpSeq_take (d := 94) (v := ?_) rfl rfl (by kernel_rfl) (fun w hS => ?_) ?_
  rotate_left
  · go_simp <;> with_reducible rfl
  dsimp only [List.set_cons_zero, List.set_cons_succ]
  refine wpSeq_take (d := 95) (v := ?_) rfl rfl (by kernel_rfl) (fun w hS => ?_) ?_
  rotate_left
  · go_simp <;> with_reducible rfl
  dsimp only [List.set_cons_zero, List.set_cons_succ]
  refine wpSeq_take (d := 96) (v := ?_) rfl rfl (by kernel_rfl) (fun w hS => ?_) ?_
  rotate_left
  · go_simp <;> with_reducible rfl
  dsimp only [List.set_cons_zero, List.set_cons_succ]
  refine wpSeq_take (d := 97) (v := ?_) rfl rfl (by kernel_rfl) (fun w hS => ?_) ?_
  rotate_left
  · go_simp <;> with_reducible rfl
  dsimp only [List.set_cons_zero, List.set_cons_succ]
  refine wpSeq_take (d := 98) (v := ?_) rfl rfl (by kernel_rfl) (fun w hS => ?_) ?_
  rotate_left
  · go_simp <;> with_reducible rfl
  dsimp only [List.set_cons_zero, List.set_cons_succ]
  refine wpSeq_take (d := 99) (v := ?_) rfl rfl (by kernel_rfl) (fun w hS => ?_) ?_
  rotate_left
  · go_simp <;> with_reducible rfl
  dsimp only [List.set_cons_zero, List.set_cons_succ]
  refine wpSeq_take (d := 100) (v := ?_) rfl rfl (by kernel_rfl) (fun w hS => ?_) ?_
  rotate_left
  · go_simp <;> with_reducible rfl
  dsimp only [List.set_cons_zero, List.set_cons_succ]
  refine wpSeq_take (d := 101) (v := ?_) rfl rfl (by kernel_rfl) (fun w hS => ?_) ?_
  rotate_left
  · go_simp <;> with_reducible rfl
  dsimp only [List.set_cons_zero, List.set_cons_succ]
  refine wpSeq_take (d := 102) (v := ?_) rfl rfl (by kernel_rfl) (fun w hS => ?_) ?_
  rotate_left
  · go_simp <;> with_reducible rfl
  dsimp only [List.set_cons_zero, List.set_cons_succ]
  refine wpSeq_take (d := 103) (v := ?_) rfl rfl (by kernel_rfl) (fun w hS => ?_) ?_
  rotate_left
  · go_simp <;> with_reducible rfl
  dsimp only [List.set_cons_zero, List.set_cons_succ]
  refine wpSeq_take (d := 104) (v := ?_) rfl rfl (by kernel_rfl) (fun w hS => ?_) ?_
  rotate_left
  · go_simp <;> with_reducible rfl
  dsimp only [List.set_cons_zero, List.set_cons_succ]
  refine wpSeq_take (d := 105) (v := ?_) rfl rfl (by kernel_rfl) (fun w hS => ?_) ?_
  rotate_left
  · go_simp <;> with_reducible rfl
  dsimp only [List.set_cons_zero, List.set_cons_succ]
  refine wpSeq_take (d := 106) (v := ?_) rfl rfl (by kernel_rfl) (fun w hS => ?_) ?_
  rotate_left
  · go_simp <;> with_reducible rfl
  dsimp only [List.set_cons_zero, List.set_cons_succ]
  refine wpSeq_take (d := 107) (v := ?_) rfl rfl (by kernel_rfl) (fun w hS => ?_) ?_
  rotate_left
  · go_simp <;> with_reducible rfl
  dsimp only [List.set_cons_zero, List.set_cons_succ]
  refine wpSeq_take (d := 108) (v := ?_) rfl rfl (by kernel_rfl) (fun w hS => ?_) ?_
  rotate_left
  · go_simp <;> with_reducible rfl
  dsimp only [List.set_cons_zero, List.set_cons_succ]
  refine wpSeq_take (d := 109) (v := ?_) rfl rfl (by kernel_rfl) (fun w hS => ?_) ?_
  rotate_left
  · go_simp <;> with_reducible rfl
  dsimp only [List.set_cons_zero, List.set_cons_succ]
  refine wpSeq_skip (d := 110) rfl rfl (by kernel_rfl) (by rfl) ?_
  refine wpSeq_skip (d := 111) rfl rfl (by kernel_rfl) (by rfl) ?_
  refine wpSeq_skip (d := 112) rfl rfl (by kernel_rfl) (by rfl) ?_
  refine wpSeq_skip (d := 113) rfl rfl (by kernel_rfl) (by rfl) ?_
  refine wpSeq_take (d := 114) (v := ?_) rfl rfl (by kernel_rfl) (fun w hS => ?_) ?_
  rotate_left
  · go_simp <;> with_reducible rfl
  dsimp only [List.set_cons_zero, List.set_cons_succ]
  refine wpSeq_take (d := 115) (v := ?_) rfl rfl (by kernel_rfl) (fun w hS => ?_) ?_
  rotate_left
  · go_simp <;> with_reducible rfl
  dsimp only [List.set_cons_zero, List.set_cons_succ]
  refine wpSeq_take (d := 6) (v := ?_) rfl rfl (by kernel_rfl) (fun w hS => ?_) ?_
  rotate_left
  · go_simp <;> with_reducible rfl
  dsimp only [List.set_cons_zero, List.set_cons_succ]
  refine wpSeq_done ?_
  refine NoPanic.normal ?_

  go_wp2
  go_ret
  exact ⟨rfl, hH.2.2.2.2.2.2.2.2⟩

set_option maxHeartbeats 8000000 in
theorem joins_3 (al ah bl bh v jl jh ll lh : Int)
    (c0 : ∀ w, Calls Try.prog 15 #[.agg #[.int .i64 al, .int .i64 ah]] w fun e w' => e = .returned (.bool true) ∧ Q w w')
    (c1 : ∀ w, Calls Try.prog 15 #[.agg #[.int .i64 bl, .int .i64 bh]] w fun e w' => e = .returned (.bool true) ∧ Q w w')
    (c2 : ∀ w, Calls Try.prog 19 #[.agg #[.int .i64 al, .int .i64 ah], .agg #[.int .i64 bl, .int .i64 bh]] w fun e w' => e = .returned (.agg #[.int .i64 jl, .int .i64 jh]) ∧ Q w w')
    (c3 : ∀ w, Calls Try.prog 21 #[.agg #[.int .i64 al, .int .i64 ah], .int .i64 v] w fun e w' => e = .returned (.agg #[.int .i64 ll, .int .i64 lh]) ∧ Q w w')
    (c4 : ∀ w, Calls Try.prog 15 #[.agg #[.int .i64 jl, .int .i64 jh]] w fun e w' => e = .returned (.bool true) ∧ Q w w')
    (c5 : ∀ w, Calls Try.prog 17 #[.agg #[.int .i64 jl, .int .i64 jh], .int .i64 al] w fun e w' => e = .returned (.bool true) ∧ Q w w')
    (c6 : ∀ w, Calls Try.prog 17 #[.agg #[.int .i64 jl, .int .i64 jh], .int .i64 ah] w fun e w' => e = .returned (.bool true) ∧ Q w w')
    (c7 : ∀ w, Calls Try.prog 17 #[.agg #[.int .i64 jl, .int .i64 jh], .int .i64 bl] w fun e w' => e = .returned (.bool true) ∧ Q w w')
    (c8 : ∀ w, Calls Try.prog 17 #[.agg #[.int .i64 jl, .int .i64 jh], .int .i64 bh] w fun e w' => e = .returned (.bool true) ∧ Q w w')
    (c9 : ∀ w, Calls Try.prog 19 #[.agg #[.int .i64 bl, .int .i64 bh], .agg #[.int .i64 al, .int .i64 ah]] w fun e w' => e = .returned (.agg #[.int .i64 jl, .int .i64 jh]) ∧ Q w w')
    (ca : ∀ w, Calls Try.prog 15 #[.agg #[.int .i64 ll, .int .i64 lh]] w fun e w' => e = .returned (.bool true) ∧ Q w w')
    (la : al ≤ ll) (lb : v ≤ ll) (o1 : (jl == al) = true) (o2 : (jh == ah) = false) (p2 : (jh == bh) = true) (o3 : (lh == ah) = false) (p3 : (lh == v) = true) (w : World) :
    Calls Try.prog 7 #[.agg #[.int .i64 al, .int .i64 ah], .agg #[.int .i64 bl, .int .i64 bh], .int .i64 v] w fun e w' => e = .returned (.bool true) ∧ Q w w' := by
  go_enter Try.func7, Try.ntmps7
  go_wp2_with fail
  refine (known2_any _).mono ?_
  rintro e w1 ⟨rfl, h⟩
  have a0 := h.keep (p := ⟨w.heap.size, 0, none⟩) (v := .int .i64 al) (by simp [go_sem])
  have a1 := h.keep (p := ⟨w.heap.size, 1, none⟩) (v := .int .i64 ah) (by simp [go_sem])
  have b0 := h.keep (p := ⟨w.heap.size + 1, 0, none⟩) (v := .int .i64 bl) (by simp [go_sem])
  have b1 := h.keep (p := ⟨w.heap.size + 1, 1, none⟩) (v := .int .i64 bh) (by simp [go_sem])
  replace h : Q w w1 := by first | exact h | exact ((Q.refl w).alloc _ _).trans h | exact (((Q.refl w).alloc _ _).alloc _ _).trans h | exact ((((Q.refl w).alloc _ _).alloc _ _).alloc _ _).trans h | exact (((((Q.refl w).alloc _ _).alloc _ _).alloc _ _).alloc _ _).trans h
  have az : w.heap.size < w1.heap.size := World.block_lt_of_cell? _ _ a0
  have bz : w.heap.size + 1 < w1.heap.size := World.block_lt_of_cell? _ _ b0
  have g := h
  clear h
  go_wp2_with fail
  refine (c0 _).mono ?_
  rintro e w2 ⟨rfl, h⟩
  replace h : Q w1 w2 := by first | exact h | exact ((Q.refl w1).alloc _ _).trans h | exact (((Q.refl w1).alloc _ _).alloc _ _).trans h | exact ((((Q.refl w1).alloc _ _).alloc _ _).alloc _ _).trans h | exact (((((Q.refl w1).alloc _ _).alloc _ _).alloc _ _).alloc _ _).trans h
  replace a0 := h.keep a0
  replace a1 := h.keep a1
  replace b0 := h.keep b0
  replace b1 := h.keep b1
  replace az : w.heap.size < w2.heap.size := World.block_lt_of_cell? _ _ a0
  replace bz : w.heap.size + 1 < w2.heap.size := World.block_lt_of_cell? _ _ b0
  replace g := g.trans h
  clear h
  go_wp2_with fail
  refine (c1 _).mono ?_
  rintro e w3 ⟨rfl, h⟩
  replace h : Q w2 w3 := by first | exact h | exact ((Q.refl w2).alloc _ _).trans h | exact (((Q.refl w2).alloc _ _).alloc _ _).trans h | exact ((((Q.refl w2).alloc _ _).alloc _ _).alloc _ _).trans h | exact (((((Q.refl w2).alloc _ _).alloc _ _).alloc _ _).alloc _ _).trans h
  replace a0 := h.keep a0
  replace a1 := h.keep a1
  replace b0 := h.keep b0
  replace b1 := h.keep b1
  replace az : w.heap.size < w3.heap.size := World.block_lt_of_cell? _ _ a0
  replace bz : w.heap.size + 1 < w3.heap.size := World.block_lt_of_cell? _ _ b0
  replace g := g.trans h
  clear h
  go_wp2_with fail
  refine (c2 _).mono ?_
  rintro e w4 ⟨rfl, h⟩
  replace h : Q w3 w4 := by first | exact h | exact ((Q.refl w3).alloc _ _).trans h | exact (((Q.refl w3).alloc _ _).alloc _ _).trans h | exact ((((Q.refl w3).alloc _ _).alloc _ _).alloc _ _).trans h | exact (((((Q.refl w3).alloc _ _).alloc _ _).alloc _ _).alloc _ _).trans h
  replace a0 := h.keep a0
  replace a1 := h.keep a1
  replace b0 := h.keep b0
  replace b1 := h.keep b1
  replace az : w.heap.size < w4.heap.size := World.block_lt_of_cell? _ _ a0
  replace bz : w.heap.size + 1 < w4.heap.size := World.block_lt_of_cell? _ _ b0
  replace g := g.trans h
  clear h
  go_wp2_with fail
  refine (c3 _).mono ?_
  rintro e w5 ⟨rfl, h⟩
  have j0 := h.keep (p := ⟨w4.heap.size, 0, none⟩) (v := .int .i64 jl) (by simp [go_sem])
  have j1 := h.keep (p := ⟨w4.heap.size, 1, none⟩) (v := .int .i64 jh) (by simp [go_sem])
  replace h : Q w4 w5 := by first | exact h | exact ((Q.refl w4).alloc _ _).trans h | exact (((Q.refl w4).alloc _ _).alloc _ _).trans h | exact ((((Q.refl w4).alloc _ _).alloc _ _).alloc _ _).trans h | exact (((((Q.refl w4).alloc _ _).alloc _ _).alloc _ _).alloc _ _).trans h
  replace a0 := h.keep a0
  replace a1 := h.keep a1
  replace b0 := h.keep b0
  replace b1 := h.keep b1
  replace az : w.heap.size < w5.heap.size := World.block_lt_of_cell? _ _ a0
  replace bz : w.heap.size + 1 < w5.heap.size := World.block_lt_of_cell? _ _ b0
  have jz : w4.heap.size < w5.heap.size := World.block_lt_of_cell? _ _ j0
  replace g := g.trans h
  clear h
  clear c0 c1 c2 c3
  go_wp2_with fail
  refine wp_region_noPanic ?_
  refine wp_region_seq (S := fun w' => w'.cell? ⟨w.heap.size, 0, none⟩ = some (.int .i64 al) ∧ w'.cell? ⟨w.heap.size, 1, none⟩ = some (.int .i64 ah) ∧ w'.cell? ⟨w.heap.size + 1, 0, none⟩ = some (.int .i64 bl) ∧ w'.cell? ⟨w.heap.size + 1, 1, none⟩ = some (.int .i64 bh) ∧ w'.cell? ⟨w4.heap.size, 0, none⟩ = some (.int .i64 jl) ∧ w'.cell? ⟨w4.heap.size, 1, none⟩ = some (.int .i64 jh) ∧ w'.cell? ⟨w5.heap.size, 0, none⟩ = some (.int .i64 ll) ∧ w'.cell? ⟨w5.heap.size, 1, none⟩ = some (.int .i64 lh) ∧ Q w w') [(0, 0), (1, 2), (2, 0), (3, 0), (4, 0), (5, 0), (6, 2), (7, 0), (8, 0), (9, 0), (10, 0), (11, 0), (12, 2), (13, 0), (14, 0), (15, 0), (16, 0), (17, 0), (18, 2), (19, 0), (20, 0), (21, 0), (22, 0), (23, 0), (24, 2), (25, 0), (26, 0), (27, 0), (28, 0), (29, 0), (30, 0), (31, 0), (32, 0), (33, 1), (34, 1), (35, 1), (36, 1), (37, 1), (38, 0), (39, 0), (40, 0), (41, 0), (42, 0), (43, 0), (44, 0), (45, 0), (46, 0), (47, 0), (48, 0), (49, 0), (50, 0), (51, 0), (52, 0), (53, 0), (54, 0), (55, 0), (56, 0), (58, 0), (57, 2), (59, 0), (60, 0), (61, 0), (62, 0), (63, 2), (64, 0), (65, 0), (66, 0), (67, 0), (68, 0), (69, 0), (70, 0), (71, 0), (72, 0), (73, 0), (74, 0), (75, 0), (76, 0), (77, 0), (78, 0), (79, 0), (80, 0), (81, 0), (82, 0), (83, 0), (84, 0), (85, 0), (86, 0), (87, 0), (88, 0), (89, 0), (90, 0), (91, 0)] [0, 1, 2, 4, 4, 20, 44, 68, 192, 256, 256, 1280, 2816, 4352, 12288, 16384, 16384, 81920, 180224, 278528, 786432, 1048576, 1048576, 5242880, 11534336, 17825792, 50331648, 67108864, 201326592, 67108864, 603979776, 1409286144, 2214592512, 4294967296, 12884901888, 4294967296, 38654705664, 90194313216, 141801029632, 274945015808, 554050781184, 1099511627776, 3298534883328, 1099511627776, 9895604649984, 23089744183296, 36283883716608, 70368744177664, 211106232532992, 70368744177664, 633318697598976, 1477743627730944, 2323268069490688, 4504699138998272, 9077567998918656, 18014398509481984, 18014398509481984, 126100789566373888, 18014398509481984, 450359962737049600, 594475150812905472, 1297036692682702848, 2305843009213693952, 6917529027641081856, 11529215046068469760, 27670116110564327424, 36893488147419103232, 110680464442257309696, 36893488147419103232, 479615345916448342016, 627189298506124754944, 1217485108864830406656, 2361183241434822606848, 7083549724304467820544, 2361183241434822606848, 21250649172913403461632, 49584848070131274743808, 77919046967349146025984, 153476910693263469445120, 302231454903657293676544, 906694364710971881029632, 302231454903657293676544, 2720083094132915643088896, 6346860552976803167207424, 9973638011820690691325952, 19342813113834066795298816, 58028439341502200385896448, 19342813113834066795298816, 251456570479842868338884608, 329130054390082792813756416, 619272251097593794743238656, 2475880078570760549798248447] [0, 1, 2, 4, 4, 20, 44, 68, 128, 256, 256, 1280, 2816, 4352, 8192, 16384, 16384, 81920, 180224, 278528, 524288, 1048576, 1048576, 5242880, 11534336, 17825792, 33554432, 67108864, 201326592, 67108864, 603979776, 1409286144, 2214592512, 4294967296, 12884901888, 4294967296, 38654705664, 90194313216, 141801029632, 274945015808, 549755813888, 1099511627776, 3298534883328, 1099511627776, 9895604649984, 23089744183296, 36283883716608, 70368744177664, 211106232532992, 70368744177664, 633318697598976, 1477743627730944, 2323268069490688, 4504699138998272, 9007199254740992, 18014398509481984, 18014398509481984, 126100789566373888, 18014398509481984, 450359962737049600, 594475150812905472, 1152921504606846976, 2305843009213693952, 6917529027641081856, 11529215046068469760, 18446744073709551616, 36893488147419103232, 110680464442257309696, 36893488147419103232, 479615345916448342016, 627189298506124754944, 1180591620717411303424, 2361183241434822606848, 7083549724304467820544, 2361183241434822606848, 21250649172913403461632, 49584848070131274743808, 77919046967349146025984, 151115727451828646838272, 302231454903657293676544, 906694364710971881029632, 302231454903657293676544, 2720083094132915643088896, 6346860552976803167207424, 9973638011820690691325952, 19342813113834066795298816, 58028439341502200385896448, 19342813113834066795298816, 251456570479842868338884608, 329130054390082792813756416, 619272251097593794743238656, 1237940039285380274899124224] (by kernel_rfl) (by kernel_rfl) (fun _ _ _ _ _ h => h) ?_ (fun hH => ?_)
  · exact ⟨by simp [go_sem, *], by simp [go_sem, *], by simp [go_sem, *], by simp [go_sem, *], by simp [go_sem, *], by simp [go_sem, *], by simp [go_sem, *], by simp [go_sem, *], by first | exact (g.alloc _ _).drew | exact g.drew⟩
  refine wpSeq_take (d := 25) (v := ?_) rfl rfl (by kernel_rfl) (fun w hS => ?_) ?_
  rotate_left
  · go_simp <;> with_reducible rfl
  dsimp only [List.set_cons_zero, List.set_cons_succ]
  refine wpSeq_call rfl (by kernel_rfl) (fun K hK => ?_)
  go_simp
  (with_reducible refine (c4 _).mono ?_)
  rintro e w' ⟨rfl, hq⟩
  refine hK.out _ _ ?_ (fun hH => ?_)
  · exact ⟨hq.keep hH.1, hq.keep hH.2.1, hq.keep hH.2.2.1, hq.keep hH.2.2.2.1, hq.keep hH.2.2.2.2.1, hq.keep hH.2.2.2.2.2.1, hq.keep hH.2.2.2.2.2.2.1, hq.keep hH.2.2.2.2.2.2.2.1, hH.2.2.2.2.2.2.2.2.trans hq⟩
  clear hK
  refine wpSeq_take (d := 27) (v := ?_) rfl rfl (by kernel_rfl) (fun w hS => ?_) ?_
  rotate_left
  · go_simp <;> with_reducible rfl
  dsimp only [List.set_cons_zero, List.set_cons_succ]
  refine wpSeq_take (d := 28) (v := ?_) rfl rfl (by kernel_rfl) (fun w hS => ?_) ?_
  rotate_left
  · go_simp <;> with_reducible rfl
  dsimp only [List.set_cons_zero, List.set_cons_succ]
  refine wpSeq_take (d := 29) (v := ?_) rfl rfl (by kernel_rfl) (fun w hS => ?_) ?_
  rotate_left
  · go_simp <;> with_reducible rfl
  dsimp only [List.set_cons_zero, List.set_cons_succ]
  refine wpSeq_take (d := 30) (v := ?_) rfl rfl (by kernel_rfl) (fun w hS => ?_) ?_
  rotate_left
  · go_simp <;> with_reducible rfl
  dsimp only [List.set_cons_zero, List.set_cons_succ]
  refine wpSeq_call rfl (by kernel_rfl) (fun K hK => ?_)
  go_simp
  (with_reducible refine (c5 _).mono ?_)
  rintro e w' ⟨rfl, hq⟩
  refine hK.out _ _ ?_ (fun hH => ?_)
  · exact ⟨hq.keep hH.1, hq.keep hH.2.1, hq.keep hH.2.2.1, hq.keep hH.2.2.2.1, hq.keep hH.2.2.2.2.1, hq.keep hH.2.2.2.2.2.1, hq.keep hH.2.2.2.2.2.2.1, hq.keep hH.2.2.2.2.2.2.2.1, hH.2.2.2.2.2.2.2.2.trans hq⟩
  clear hK
  refine wpSeq_take (d := 32) (v := ?_) rfl rfl (by kernel_rfl) (fun w hS => ?_) ?_
  rotate_left
  · go_simp <;> with_reducible rfl
  dsimp only [List.set_cons_zero, List.set_cons_succ]
  refine wpSeq_take (d := 33) (v := ?_) rfl rfl (by kernel_rfl) (fun w hS => ?_) ?_
  rotate_left
  · go_simp <;> with_reducible rfl
  dsimp only [List.set_cons_zero, List.set_cons_succ]
  refine wpSeq_take (d := 34) (v := ?_) rfl rfl (by kernel_rfl) (fun w hS => ?_) ?_
  rotate_left
  · go_simp <;> with_reducible rfl
  dsimp only [List.set_cons_zero, List.set_cons_succ]
  refine wpSeq_take (d := 35) (v := ?_) rfl rfl (by kernel_rfl) (fun w hS => ?_) ?_
  rotate_left
  · go_simp <;> with_reducible rfl
  dsimp only [List.set_cons_zero, List.set_cons_succ]
  refine wpSeq_take (d := 36) (v := ?_) rfl rfl (by kernel_rfl) (fun w hS => ?_) ?_
  rotate_left
  · go_simp <;> with_reducible rfl
  dsimp only [List.set_cons_zero, List.set_cons_succ]
  refine wpSeq_call rfl (by kernel_rfl) (fun K hK => ?_)
  go_simp
  (with_reducible refine (c6 _).mono ?_)
  rintro e w' ⟨rfl, hq⟩
  refine hK.out _ _ ?_ (fun hH => ?_)
  · exact ⟨hq.keep hH.1, hq.keep hH.2.1, hq.keep hH.2.2.1, hq.keep hH.2.2.2.1, hq.keep hH.2.2.2.2.1, hq.keep hH.2.2.2.2.2.1, hq.keep hH.2.2.2.2.2.2.1, hq.keep hH.2.2.2.2.2.2.2.1, hH.2.2.2.2.2.2.2.2.trans hq⟩
  clear hK
  refine wpSeq_take (d := 38) (v := ?_) rfl rfl (by kernel_rfl) (fun w hS => ?_) ?_
  rotate_left
  · go_simp <;> with_reducible rfl
  dsimp only [List.set_cons_zero, List.set_cons_succ]
  refine wpSeq_take (d := 39) (v := ?_) rfl rfl (by kernel_rfl) (fun w hS => ?_) ?_
  rotate_left
  · go_simp <;> with_reducible rfl
  dsimp only [List.set_cons_zero, List.set_cons_succ]
  refine wpSeq_take (d := 40) (v := ?_) rfl rfl (by kernel_rfl) (fun w hS => ?_) ?_
  rotate_left
  · go_simp <;> with_reducible rfl
  dsimp only [List.set_cons_zero, List.set_cons_succ]
  refine wpSeq_take (d := 41) (v := ?_) rfl rfl (by kernel_rfl) (fun w hS => ?_) ?_
  rotate_left
  · go_simp <;> with_reducible rfl
  dsimp only [List.set_cons_zero, List.set_cons_succ]
  refine wpSeq_take (d := 42) (v := ?_) rfl rfl (by kernel_rfl) (fun w hS => ?_) ?_
  rotate_left
  · go_simp <;> with_reducible rfl
  dsimp only [List.set_cons_zero, List.set_cons_succ]
  refine wpSeq_call rfl (by kernel_rfl) (fun K hK => ?_)
  go_simp
  (with_reducible refine (c7 _).mono ?_)
  rintro e w' ⟨rfl, hq⟩
  refine hK.out _ _ ?_ (fun hH => ?_)
  · exact ⟨hq.keep hH.1, hq.keep hH.2.1, hq.keep hH.2.2.1, hq.keep hH.2.2.2.1, hq.keep hH.2.2.2.2.1, hq.keep hH.2.2.2.2.2.1, hq.keep hH.2.2.2.2.2.2.1, hq.keep hH.2.2.2.2.2.2.2.1, hH.2.2.2.2.2.2.2.2.trans hq⟩
  clear hK
  refine wpSeq_take (d := 44) (v := ?_) rfl rfl (by kernel_rfl) (fun w hS => ?_) ?_
  rotate_left
  · go_simp <;> with_reducible rfl
  dsimp only [List.set_cons_zero, List.set_cons_succ]
  refine wpSeq_take (d := 45) (v := ?_) rfl rfl (by kernel_rfl) (fun w hS => ?_) ?_
  rotate_left
  · go_simp <;> with_reducible rfl
  dsimp only [List.set_cons_zero, List.set_cons_succ]
  refine wpSeq_take (d := 46) (v := ?_) rfl rfl (by kernel_rfl) (fun w hS => ?_) ?_
  rotate_left
  · go_simp <;> with_reducible rfl
  dsimp only [List.set_cons_zero, List.set_cons_succ]
  refine wpSeq_take (d := 47) (v := ?_) rfl rfl (by kernel_rfl) (fun w hS => ?_) ?_
  rotate_left
  · go_simp <;> with_reducible rfl
  dsimp only [List.set_cons_zero, List.set_cons_succ]
  refine wpSeq_take (d := 48) (v := ?_) rfl rfl (by kernel_rfl) (fun w hS => ?_) ?_
  rotate_left
  · go_simp <;> with_reducible rfl
  dsimp only [List.set_cons_zero, List.set_cons_succ]
  refine wpSeq_call rfl (by kernel_rfl) (fun K hK => ?_)
  go_simp
  (with_reducible refine (c8 _).mono ?_)
  rintro e w' ⟨rfl, hq⟩
  refine hK.out _ _ ?_ (fun hH => ?_)
  · exact ⟨hq.keep hH.1, hq.keep hH.2.1, hq.keep hH.2.2.1, hq.keep hH.2.2.2.1, hq.keep hH.2.2.2.2.1, hq.keep hH.2.2.2.2.2.1, hq.keep hH.2.2.2.2.2.2.1, hq.keep hH.2.2.2.2.2.2.2.1, hH.2.2.2.2.2.2.2.2.trans hq⟩
  clear hK
  refine wpSeq_take (d := 50) (v := ?_) rfl rfl (by kernel_rfl) (fun w hS => ?_) ?_
  rotate_left
  · go_simp <;> with_reducible rfl
  dsimp only [List.set_cons_zero, List.set_cons_succ]
  refine wpSeq_take (d := 51) (v := ?_) rfl rfl (by kernel_rfl) (fun w hS => ?_) ?_
  rotate_left
  · go_simp <;> with_reducible rfl
  dsimp only [List.set_cons_zero, List.set_cons_succ]
  refine wpSeq_take (d := 52) (v := ?_) rfl rfl (by kernel_rfl) (fun w hS => ?_) ?_
  rotate_left
  · go_simp <;> with_reducible rfl
  dsimp only [List.set_cons_zero, List.set_cons_succ]
  refine wpSeq_take (d := 53) (v := ?_) rfl rfl (by kernel_rfl) (fun w hS => ?_) ?_
  rotate_left
  · go_simp <;> with_reducible rfl
  dsimp only [List.set_cons_zero, List.set_cons_succ]
  refine wpSeq_take (d := 54) (v := ?_) rfl rfl (by kernel_rfl) (fun w hS => ?_) ?_
  rotate_left
  · go_simp <;> with_reducible rfl
  dsimp only [List.set_cons_zero, List.set_cons_succ]
  refine wpSeq_take (d := 55) (v := ?_) rfl rfl (by kernel_rfl) (fun w hS => ?_) ?_
  rotate_left
  · go_simp <;> with_reducible rfl
  dsimp only [List.set_cons_zero, List.set_cons_succ]
  refine wpSeq_take (d := 56) (v := ?_) rfl rfl (by kernel_rfl) (fun w hS => ?_) ?_
  rotate_left
  · go_simp <;> with_reducible rfl
  dsimp only [List.set_cons_zero, List.set_cons_succ]
  refine wpSeq_take (d := 57) (v := ?_) rfl rfl (by kernel_rfl) (fun w hS => ?_) ?_
  rotate_left
  · go_simp <;> with_reducible rfl
  dsimp only [List.set_cons_zero, List.set_cons_succ]
  refine wpSeq_skip (d := 58) rfl rfl (by kernel_rfl) (by rfl) ?_
  refine wpSeq_skip (d := 59) rfl rfl (by kernel_rfl) (by rfl) ?_
  refine wpSeq_skip (d := 60) rfl rfl (by kernel_rfl) (by rfl) ?_
  refine wpSeq_skip (d := 61) rfl rfl (by kernel_rfl) (by rfl) ?_
  refine wpSeq_skip (d := 62) rfl rfl (by kernel_rfl) (by rfl) ?_
  refine wpSeq_take (d := 63) (v := ?_) rfl rfl (by kernel_rfl) (fun w hS => ?_) ?_
  rotate_left
  · go_simp <;> with_reducible rfl
  dsimp only [List.set_cons_zero, List.set_cons_succ]
  refine wpSeq_take (d := 64) (v := ?_) rfl rfl (by kernel_rfl) (fun w hS => ?_) ?_
  rotate_left
  · go_simp <;> with_reducible rfl
  dsimp only [List.set_cons_zero, List.set_cons_succ]
  refine wpSeq_take (d := 65) (v := ?_) rfl rfl (by kernel_rfl) (fun w hS => ?_) ?_
  rotate_left
  · go_simp <;> with_reducible rfl
  dsimp only [List.set_cons_zero, List.set_cons_succ]
  refine wpSeq_take (d := 66) (v := ?_) rfl rfl (by kernel_rfl) (fun w hS => ?_) ?_
  rotate_left
  · go_simp <;> with_reducible rfl
  dsimp only [List.set_cons_zero, List.set_cons_succ]
  refine wpSeq_take (d := 67) (v := ?_) rfl rfl (by kernel_rfl) (fun w hS => ?_) ?_
  rotate_left
  · go_simp <;> with_reducible rfl
  dsimp only [List.set_cons_zero, List.set_cons_succ]
  refine wpSeq_take (d := 68) (v := ?_) rfl rfl (by kernel_rfl) (fun w hS => ?_) ?_
  rotate_left
  · go_simp <;> with_reducible rfl
  dsimp only [List.set_cons_zero, List.set_cons_succ]
  refine wpSeq_take (d := 69) (v := ?_) rfl rfl (by kernel_rfl) (fun w hS => ?_) ?_
  rotate_left
  · go_simp <;> with_reducible rfl
  dsimp only [List.set_cons_zero, List.set_cons_succ]
  refine wpSeq_take (d := 70) (v := ?_) rfl rfl (by kernel_rfl) (fun w hS => ?_) ?_
  rotate_left
  · go_simp <;> with_reducible rfl
  dsimp only [List.set_cons_zero, List.set_cons_succ]
  refine wpSeq_take (d := 71) (v := ?_) rfl rfl (by kernel_rfl) (fun w hS => ?_) ?_
  rotate_left
  · go_simp <;> with_reducible rfl
  dsimp only [List.set_cons_zero, List.set_cons_succ]
  refine wpSeq_take (d := 72) (v := ?_) rfl rfl (by kernel_rfl) (fun w hS => ?_) ?_
  rotate_left
  · go_simp <;> with_reducible rfl
  dsimp only [List.set_cons_zero, List.set_cons_succ]
  refine wpSeq_take (d := 73) (v := ?_) rfl rfl (by kernel_rfl) (fun w hS => ?_) ?_
  rotate_left
  · go_simp <;> with_reducible rfl
  dsimp only [List.set_cons_zero, List.set_cons_succ]
  refine wpSeq_take (d := 74) (v := ?_) rfl rfl (by kernel_rfl) (fun w hS => ?_) ?_
  rotate_left
  · go_simp <;> with_reducible rfl
  dsimp only [List.set_cons_zero, List.set_cons_succ]
  refine wpSeq_take (d := 75) (v := ?_) rfl rfl (by kernel_rfl) (fun w hS => ?_) ?_
  rotate_left
  · go_simp <;> with_reducible rfl
  dsimp only [List.set_cons_zero, List.set_cons_succ]
  refine wpSeq_take (d := 76) (v := ?_) rfl rfl (by kernel_rfl) (fun w hS => ?_) ?_
  rotate_left
  · go_simp <;> with_reducible rfl
  dsimp only [List.set_cons_zero, List.set_cons_succ]
  refine wpSeq_take (d := 77) (v := ?_) rfl rfl (by kernel_rfl) (fun w hS => ?_) ?_
  rotate_left
  · go_simp <;> with_reducible rfl
  dsimp only [List.set_cons_zero, List.set_cons_succ]
  refine wpSeq_take (d := 78) (v := ?_) rfl rfl (by kernel_rfl) (fun w hS => ?_) ?_
  rotate_left
  · go_simp <;> with_reducible rfl
  dsimp only [List.set_cons_zero, List.set_cons_succ]
  refine wpSeq_take (d := 79) (v := ?_) rfl rfl (by kernel_rfl) (fun w hS => ?_) ?_
  rotate_left
  · go_simp <;> with_reducible rfl
  dsimp only [List.set_cons_zero, List.set_cons_succ]
  refine wpSeq_take (d := 80) (v := ?_) rfl rfl (by kernel_rfl) (fun w hS => ?_) ?_
  rotate_left
  · go_simp <;> with_reducible rfl
  dsimp only [List.set_cons_zero, List.set_cons_succ]
  refine wpSeq_take (d := 81) (v := ?_) rfl rfl (by kernel_rfl) (fun w hS => ?_) ?_
  rotate_left
  · go_simp <;> with_reducible rfl
  dsimp only [List.set_cons_zero, List.set_cons_succ]
  refine wpSeq_take (d := 83) (v := ?_) rfl rfl (by kernel_rfl) (fun w hS => ?_) ?_
  rotate_left
  · go_simp <;> with_reducible rfl
  dsimp only [List.set_cons_zero, List.set_cons_succ]
  refine wpSeq_call rfl (by kernel_rfl) (fun K hK => ?_)
  go_simp
  (with_reducible refine (c9 _).mono ?_)
  rintro e w' ⟨rfl, hq⟩
  refine hK.out _ _ ?_ (fun hH => ?_)
  · exact ⟨hq.keep hH.1, hq.keep hH.2.1, hq.keep hH.2.2.1, hq.keep hH.2.2.2.1, hq.keep hH.2.2.2.2.1, hq.keep hH.2.2.2.2.2.1, hq.keep hH.2.2.2.2.2.2.1, hq.keep hH.2.2.2.2.2.2.2.1, hH.2.2.2.2.2.2.2.2.trans hq⟩
  clear hK
  refine wpSeq_take (d := 84) (v := ?_) rfl rfl (by kernel_rfl) (fun w hS => ?_) ?_
  rotate_left
  · go_simp <;> with_reducible rfl
  dsimp only [List.set_cons_zero, List.set_cons_succ]
  refine wpSeq_take (d := 85) (v := ?_) rfl rfl (by kernel_rfl) (fun w hS => ?_) ?_
  rotate_left
  · go_simp <;> with_reducible rfl
  dsimp only [List.set_cons_zero, List.set_cons_succ]
  refine wpSeq_take (d := 86) (v := ?_) rfl rfl (by kernel_rfl) (fun w hS => ?_) ?_
  rotate_left
  · go_simp <;> with_reducible rfl
  dsimp only [List.set_cons_zero, List.set_cons_succ]
  refine wpSeq_take (d := 87) (v := ?_) rfl rfl (by kernel_rfl) (fun w hS => ?_) ?_
  rotate_left
  · go_simp <;> with_reducible rfl
  dsimp only [List.set_cons_zero, List.set_cons_succ]
  refine wpSeq_call rfl (by kernel_rfl) (fun K hK => ?_)
  go_simp
  (with_reducible refine (ca _).mono ?_)
  rintro e w' ⟨rfl, hq⟩
  refine hK.out _ _ ?_ (fun hH => ?_)
  · exact ⟨hq.keep hH.1, hq.keep hH.2.1, hq.keep hH.2.2.1, hq.keep hH.2.2.2.1, hq.keep hH.2.2.2.2.1, hq.keep hH.2.2.2.2.2.1, hq.keep hH.2.2.2.2.2.2.1, hq.keep hH.2.2.2.2.2.2.2.1, hH.2.2.2.2.2.2.2.2.trans hq⟩
  clear hK
  refine wpSeq_take (d := 89) (v := ?_) rfl rfl (by kernel_rfl) (fun w hS => ?_) ?_
  rotate_left
  · go_simp <;> with_reducible rfl
  dsimp only [List.set_cons_zero, List.set_cons_succ]
  refine wpSeq_take (d := 90) (v := ?_) rfl rfl (by kernel_rfl) (fun w hS => ?_) ?_
  rotate_left
  · go_simp <;> with_reducible rfl
  dsimp only [List.set_cons_zero, List.set_cons_succ]
  refine wpSeq_take (d := 91) (v := ?_) rfl rfl (by kernel_rfl) (fun w hS => ?_) ?_
  rotate_left
  · go_simp <;> with_reducible rfl
  dsimp only [List.set_cons_zero, List.set_cons_succ]
  refine wpSeq_take (d := 92) (v := ?_) rfl rfl (by kernel_rfl) (fun w hS => ?_) ?_
  rotate_left
  · go_simp <;> with_reducible rfl
  dsimp only [List.set_cons_zero, List.set_cons_succ]
  refine wpSeq_take (d := 93) (v := ?_) rfl rfl (by kernel_rfl) (fun w hS => ?_) ?_
  rotate_left
  · go_simp <;> with_reducible rfl
  dsimp only [List.set_cons_zero, List.set_cons_succ]
  refine wpSeq_take (d := 94) (v := ?_) rfl rfl (by kernel_rfl) (fun w hS => ?_) ?_
  rotate_left
  · go_simp <;> with_reducible rfl
  dsimp only [List.set_cons_zero, List.set_cons_succ]
  refine wpSeq_take (d := 95) (v := ?_) rfl rfl (by kernel_rfl) (fun w hS => ?_) ?_
  rotate_left
  · go_simp <;> with_reducible rfl
  dsimp only [List.set_cons_zero, List.set_cons_succ]
  refine wpSeq_take (d := 96) (v := ?_) rfl rfl (by kernel_rfl) (fun w hS => ?_) ?_
  rotate_left
  · go_simp <;> with_reducible rfl
  dsimp only [List.set_cons_zero, List.set_cons_succ]
  refine wpSeq_take (d := 97) (v := ?_) rfl rfl (by kernel_rfl) (fun w hS => ?_) ?_
  rotate_left
  · go_simp <;> with_reducible rfl
  dsimp only [List.set_cons_zero, List.set_cons_succ]
  refine wpSeq_take (d := 98) (v := ?_) rfl rfl (by kernel_rfl) (fun w hS => ?_) ?_
  rotate_left
  · go_simp <;> with_reducible rfl
  dsimp only [List.set_cons_zero, List.set_cons_succ]
  refine wpSeq_take (d := 99) (v := ?_) rfl rfl (by kernel_rfl) (fun w hS => ?_) ?_
  rotate_left
  · go_simp <;> with_reducible rfl
  dsimp only [List.set_cons_zero, List.set_cons_succ]
  refine wpSeq_take (d := 100) (v := ?_) rfl rfl (by kernel_rfl) (fun w hS => ?_) ?_
  rotate_left
  · go_simp <;> with_reducible rfl
  dsimp only [List.set_cons_zero, List.set_cons_succ]
  refine wpSeq_take (d := 101) (v := ?_) rfl rfl (by kernel_rfl) (fun w hS => ?_) ?_
  rotate_left
  · go_simp <;> with_reducible rfl
  dsimp only [List.set_cons_zero, List.set_cons_succ]
  refine wpSeq_take (d := 102) (v := ?_) rfl rfl (by kernel_rfl) (fun w hS => ?_) ?_
  rotate_left
  · go_simp <;> with_reducible rfl
  dsimp only [List.set_cons_zero, List.set_cons_succ]
  refine wpSeq_take (d := 103) (v := ?_) rfl rfl (by kernel_rfl) (fun w hS => ?_) ?_
  rotate_left
  · go_simp <;> with_reducible rfl
  dsimp only [List.set_cons_zero, List.set_cons_succ]
  refine wpSeq_take (d := 104) (v := ?_) rfl rfl (by kernel_rfl) (fun w hS => ?_) ?_
  rotate_left
  · go_simp <;> with_reducible rfl
  dsimp only [List.set_cons_zero, List.set_cons_succ]
  refine wpSeq_take (d := 105) (v := ?_) rfl rfl (by kernel_rfl) (fun w hS => ?_) ?_
  rotate_left
  · go_simp <;> with_reducible rfl
  dsimp only [List.set_cons_zero, List.set_cons_succ]
  refine wpSeq_take (d := 106) (v := ?_) rfl rfl (by kernel_rfl) (fun w hS => ?_) ?_
  rotate_left
  · go_simp <;> with_reducible rfl
  dsimp only [List.set_cons_zero, List.set_cons_succ]
  refine wpSeq_take (d := 107) (v := ?_) rfl rfl (by kernel_rfl) (fun w hS => ?_) ?_
  rotate_left
  · go_simp <;> with_reducible rfl
  dsimp only [List.set_cons_zero, List.set_cons_succ]
  refine wpSeq_take (d := 108) (v := ?_) rfl rfl (by kernel_rfl) (fun w hS => ?_) ?_
  rotate_left
  · go_simp <;> with_reducible rfl
  dsimp only [List.set_cons_zero, List.set_cons_succ]
  refine wpSeq_take (d := 109) (v := ?_) rfl rfl (by kernel_rfl) (fun w hS => ?_) ?_
  rotate_left
  · go_simp <;> with_reducible rfl
  dsimp only [List.set_cons_zero, List.set_cons_succ]
  refine wpSeq_take (d := 110) (v := ?_) rfl rfl (by kernel_rfl) (fun w hS => ?_) ?_
  rotate_left
  · go_simp <;> with_reducible rfl
  dsimp only [List.set_cons_zero, List.set_cons_succ]
  refine wpSeq_take (d := 111) (v := ?_) rfl rfl (by kernel_rfl) (fun w hS => ?_) ?_
  rotate_left
  · go_simp <;> with_reducible rfl
  dsimp only [List.set_cons_zero, List.set_cons_succ]
  refine wpSeq_take (d := 112) (v := ?_) rfl rfl (by kernel_rfl) (fun w hS => ?_) ?_
  rotate_left
  · go_simp <;> with_reducible rfl
  dsimp only [List.set_cons_zero, List.set_cons_succ]
  refine wpSeq_take (d := 113) (v := ?_) rfl rfl (by kernel_rfl) (fun w hS => ?_) ?_
  rotate_left
  · go_simp <;> with_reducible rfl
  dsimp only [List.set_cons_zero, List.set_cons_succ]
  refine wpSeq_take (d := 114) (v := ?_) rfl rfl (by kernel_rfl) (fun w hS => ?_) ?_
  rotate_left
  · go_simp <;> with_reducible rfl
  dsimp only [List.set_cons_zero, List.set_cons_succ]
  refine wpSeq_take (d := 115) (v := ?_) rfl rfl (by kernel_rfl) (fun w hS => ?_) ?_
  rotate_left
  · go_simp <;> with_reducible rfl
  dsimp only [List.set_cons_zero, List.set_cons_succ]
  refine wpSeq_take (d := 6) (v := ?_) rfl rfl (by kernel_rfl) (fun w hS => ?_) ?_
  rotate_left
  · go_simp <;> with_reducible rfl
  dsimp only [List.set_cons_zero, List.set_cons_succ]
  refine wpSeq_done ?_
  refine NoPanic.normal ?_

  go_wp2
  go_ret
  exact ⟨rfl, hH.2.2.2.2.2.2.2.2⟩
end Go.Proofs.Ytehohogpnmokjaa
