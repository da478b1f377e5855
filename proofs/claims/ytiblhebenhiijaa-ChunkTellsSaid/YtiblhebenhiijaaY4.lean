/-
  Which tips may be, by the code; A tip that may be; Fills, decks in memory. No program is named here; Layer 16's code: pieces, strokes, parts, how many; Plain mathematics of stage 16's statements: parts and strokes are together what is taken, differ by one at most, the greater ones first. No program is named here; The statements' outer shapes of a tip, of a number; Layer 16: what the statements know of parts and strokes; What a literal's fit says. No program is named here; Layer 16: the walk of ChunkCaps.
-/
import Derived.OwnWalk
import Derived.Deep.QuietTactic
import Derived.BigQuiet
import Derived.Lib.MinMax
import Derived.KernelRfl
import Derived.Laws.Bits64
import Derived.Lib.ItoaMem
import Derived.Lib.Strings
import Derived.Test.YtiblhebenhiijaaY1
import Derived.Test.YtiblhebenhiijaaY2
import Derived.Test.YtiblhebenhiijaaY3
namespace Go.Proofs.Ytiblhebenhiijaa
open Go.RowKit
theorem tin_any (v a b : Int) (w : World) :
    Calls Try.prog 26 #[.int .i64 v, .int .i64 a, .int .i64 b] w fun e w' => e = .returned (.bool (inB v a b)) ∧ w = w' := by
  unfold inB
  have hb : decide (a ≤ v) = true ∨ decide (a ≤ v) = false := by cases decide (a ≤ v) <;> simp
  rcases hb with hb | hb
  all_goals
    go_enter Try.func26, Try.ntmps26
    go_wp2
    go_ret
    exact ⟨by simp [hb], rfl⟩
theorem tipright_any (s : ByteArray) (cap filt err : Int) (v : Value) (l : List Sec) (w : World) (hv : IsSecs w v l) :
    Calls Try.prog 18 #[.agg #[.string s, .int .i64 cap, .int .i64 filt, .int .i64 err, v]] w fun e w' => e = .returned (.bool (tipB s cap filt err l)) ∧ B w w' := by
  obtain ⟨ao, nn, cc, rfl⟩ := hv.form
  have HV := Lib.hid hv
  clear hv
  have cl := fun w h => right_code (.slice ao nn cc) l w h
  have cc_ := fun w => tin_any cap 1 20000000 w
  have cf := fun w => tin_any filt 1 60000 w
  have ce := fun w => tin_any err 0 10000 w
  have cn := fun w => named_any s w
  unfold tipB
  have kc : ∀ w', B (w.alloc (.cells #[.string s, .int .i64 cap, .int .i64 filt, .int .i64 err, .slice ao nn cc] 24)) w' → B w w' := fun w' q => ((B.refl w).alloc _ _).trans q
  generalize rightS l = bl at *
  generalize inB cap 1 20000000 = bc at *
  generalize inB filt 1 60000 = bf at *
  generalize inB err 0 10000 = be at *
  generalize nameS s = bn at *
  cases bl
  · go_enter Try.func18, Try.ntmps18
    go_wp2_with fail
    have k0 : (w.alloc (.cells #[.string s, .int .i64 cap, .int .i64 filt, .int .i64 err, .slice ao nn cc] 24)).cell? ⟨w.heap.size, 0, none⟩ = some (.string s) := by simp [go_sem]
    have k1 : (w.alloc (.cells #[.string s, .int .i64 cap, .int .i64 filt, .int .i64 err, .slice ao nn cc] 24)).cell? ⟨w.heap.size, 1, none⟩ = some (.int .i64 cap) := by simp [go_sem]
    have k2 : (w.alloc (.cells #[.string s, .int .i64 cap, .int .i64 filt, .int .i64 err, .slice ao nn cc] 24)).cell? ⟨w.heap.size, 2, none⟩ = some (.int .i64 filt) := by simp [go_sem]
    have k3 : (w.alloc (.cells #[.string s, .int .i64 cap, .int .i64 filt, .int .i64 err, .slice ao nn cc] 24)).cell? ⟨w.heap.size, 3, none⟩ = some (.int .i64 err) := by simp [go_sem]
    have k4 : (w.alloc (.cells #[.string s, .int .i64 cap, .int .i64 filt, .int .i64 err, .slice ao nn cc] 24)).cell? ⟨w.heap.size, 4, none⟩ = some (.slice ao nn cc) := by simp [go_sem]
    have hv := HV.out.keepB ((B.refl w).alloc #[.string s, .int .i64 cap, .int .i64 filt, .int .i64 err, .slice ao nn cc] 24)
    have g := (B.refl w).alloc #[.string s, .int .i64 cap, .int .i64 filt, .int .i64 err, .slice ao nn cc] 24
    generalize w.alloc (.cells #[.string s, .int .i64 cap, .int .i64 filt, .int .i64 err, .slice ao nn cc] 24) = W at *
    refine (cl _ hv).mono ?_
    rintro e w2 ⟨rfl, q⟩
    replace k0 := q.keep k0
    replace k1 := q.keep k1
    replace k2 := q.keep k2
    replace k3 := q.keep k3
    replace k4 := q.keep k4
    replace hv := hv.keepB q
    replace g := g.trans q
    clear q
    go_wp2
    go_ret
    exact ⟨by simp, g⟩
  cases bc
  · go_enter Try.func18, Try.ntmps18
    go_wp2_with fail
    have k0 : (w.alloc (.cells #[.string s, .int .i64 cap, .int .i64 filt, .int .i64 err, .slice ao nn cc] 24)).cell? ⟨w.heap.size, 0, none⟩ = some (.string s) := by simp [go_sem]
    have k1 : (w.alloc (.cells #[.string s, .int .i64 cap, .int .i64 filt, .int .i64 err, .slice ao nn cc] 24)).cell? ⟨w.heap.size, 1, none⟩ = some (.int .i64 cap) := by simp [go_sem]
    have k2 : (w.alloc (.cells #[.string s, .int .i64 cap, .int .i64 filt, .int .i64 err, .slice ao nn cc] 24)).cell? ⟨w.heap.size, 2, none⟩ = some (.int .i64 filt) := by simp [go_sem]
    have k3 : (w.alloc (.cells #[.string s, .int .i64 cap, .int .i64 filt, .int .i64 err, .slice ao nn cc] 24)).cell? ⟨w.heap.size, 3, none⟩ = some (.int .i64 err) := by simp [go_sem]
    have k4 : (w.alloc (.cells #[.string s, .int .i64 cap, .int .i64 filt, .int .i64 err, .slice ao nn cc] 24)).cell? ⟨w.heap.size, 4, none⟩ = some (.slice ao nn cc) := by simp [go_sem]
    have hv := HV.out.keepB ((B.refl w).alloc #[.string s, .int .i64 cap, .int .i64 filt, .int .i64 err, .slice ao nn cc] 24)
    have g := (B.refl w).alloc #[.string s, .int .i64 cap, .int .i64 filt, .int .i64 err, .slice ao nn cc] 24
    generalize w.alloc (.cells #[.string s, .int .i64 cap, .int .i64 filt, .int .i64 err, .slice ao nn cc] 24) = W at *
    refine (cl _ hv).mono ?_
    rintro e w2 ⟨rfl, q⟩
    replace k0 := q.keep k0
    replace k1 := q.keep k1
    replace k2 := q.keep k2
    replace k3 := q.keep k3
    replace k4 := q.keep k4
    replace hv := hv.keepB q
    replace g := g.trans q
    clear q
    go_wp2_with fail
    refine (cc_ _).mono ?_
    rintro e w1 ⟨rfl, rfl⟩
    go_wp2
    go_ret
    exact ⟨by simp, g⟩
  cases bf
  · go_enter Try.func18, Try.ntmps18
    go_wp2_with fail
    have k0 : (w.alloc (.cells #[.string s, .int .i64 cap, .int .i64 filt, .int .i64 err, .slice ao nn cc] 24)).cell? ⟨w.heap.size, 0, none⟩ = some (.string s) := by simp [go_sem]
    have k1 : (w.alloc (.cells #[.string s, .int .i64 cap, .int .i64 filt, .int .i64 err, .slice ao nn cc] 24)).cell? ⟨w.heap.size, 1, none⟩ = some (.int .i64 cap) := by simp [go_sem]
    have k2 : (w.alloc (.cells #[.string s, .int .i64 cap, .int .i64 filt, .int .i64 err, .slice ao nn cc] 24)).cell? ⟨w.heap.size, 2, none⟩ = some (.int .i64 filt) := by simp [go_sem]
    have k3 : (w.alloc (.cells #[.string s, .int .i64 cap, .int .i64 filt, .int .i64 err, .slice ao nn cc] 24)).cell? ⟨w.heap.size, 3, none⟩ = some (.int .i64 err) := by simp [go_sem]
    have k4 : (w.alloc (.cells #[.string s, .int .i64 cap, .int .i64 filt, .int .i64 err, .slice ao nn cc] 24)).cell? ⟨w.heap.size, 4, none⟩ = some (.slice ao nn cc) := by simp [go_sem]
    have hv := HV.out.keepB ((B.refl w).alloc #[.string s, .int .i64 cap, .int .i64 filt, .int .i64 err, .slice ao nn cc] 24)
    have g := (B.refl w).alloc #[.string s, .int .i64 cap, .int .i64 filt, .int .i64 err, .slice ao nn cc] 24
    generalize w.alloc (.cells #[.string s, .int .i64 cap, .int .i64 filt, .int .i64 err, .slice ao nn cc] 24) = W at *
    refine (cl _ hv).mono ?_
    rintro e w2 ⟨rfl, q⟩
    replace k0 := q.keep k0
    replace k1 := q.keep k1
    replace k2 := q.keep k2
    replace k3 := q.keep k3
    replace k4 := q.keep k4
    replace hv := hv.keepB q
    replace g := g.trans q
    clear q
    go_wp2_with fail
    refine (cc_ _).mono ?_
    rintro e w1 ⟨rfl, rfl⟩
    go_wp2_with fail
    refine (cf _).mono ?_
    rintro e w1 ⟨rfl, rfl⟩
    go_wp2
    go_ret
    exact ⟨by simp, g⟩
  cases be
  · go_enter Try.func18, Try.ntmps18
    go_wp2_with fail
    have k0 : (w.alloc (.cells #[.string s, .int .i64 cap, .int .i64 filt, .int .i64 err, .slice ao nn cc] 24)).cell? ⟨w.heap.size, 0, none⟩ = some (.string s) := by simp [go_sem]
    have k1 : (w.alloc (.cells #[.string s, .int .i64 cap, .int .i64 filt, .int .i64 err, .slice ao nn cc] 24)).cell? ⟨w.heap.size, 1, none⟩ = some (.int .i64 cap) := by simp [go_sem]
    have k2 : (w.alloc (.cells #[.string s, .int .i64 cap, .int .i64 filt, .int .i64 err, .slice ao nn cc] 24)).cell? ⟨w.heap.size, 2, none⟩ = some (.int .i64 filt) := by simp [go_sem]
    have k3 : (w.alloc (.cells #[.string s, .int .i64 cap, .int .i64 filt, .int .i64 err, .slice ao nn cc] 24)).cell? ⟨w.heap.size, 3, none⟩ = some (.int .i64 err) := by simp [go_sem]
    have k4 : (w.alloc (.cells #[.string s, .int .i64 cap, .int .i64 filt, .int .i64 err, .slice ao nn cc] 24)).cell? ⟨w.heap.size, 4, none⟩ = some (.slice ao nn cc) := by simp [go_sem]
    have hv := HV.out.keepB ((B.refl w).alloc #[.string s, .int .i64 cap, .int .i64 filt, .int .i64 err, .slice ao nn cc] 24)
    have g := (B.refl w).alloc #[.string s, .int .i64 cap, .int .i64 filt, .int .i64 err, .slice ao nn cc] 24
    generalize w.alloc (.cells #[.string s, .int .i64 cap, .int .i64 filt, .int .i64 err, .slice ao nn cc] 24) = W at *
    refine (cl _ hv).mono ?_
    rintro e w2 ⟨rfl, q⟩
    replace k0 := q.keep k0
    replace k1 := q.keep k1
    replace k2 := q.keep k2
    replace k3 := q.keep k3
    replace k4 := q.keep k4
    replace hv := hv.keepB q
    replace g := g.trans q
    clear q
    go_wp2_with fail
    refine (cc_ _).mono ?_
    rintro e w1 ⟨rfl, rfl⟩
    go_wp2_with fail
    refine (cf _).mono ?_
    rintro e w1 ⟨rfl, rfl⟩
    go_wp2_with fail
    refine (ce _).mono ?_
    rintro e w1 ⟨rfl, rfl⟩
    go_wp2
    go_ret
    exact ⟨by simp, g⟩
  cases bn
  · go_enter Try.func18, Try.ntmps18
    go_wp2_with fail
    have k0 : (w.alloc (.cells #[.string s, .int .i64 cap, .int .i64 filt, .int .i64 err, .slice ao nn cc] 24)).cell? ⟨w.heap.size, 0, none⟩ = some (.string s) := by simp [go_sem]
    have k1 : (w.alloc (.cells #[.string s, .int .i64 cap, .int .i64 filt, .int .i64 err, .slice ao nn cc] 24)).cell? ⟨w.heap.size, 1, none⟩ = some (.int .i64 cap) := by simp [go_sem]
    have k2 : (w.alloc (.cells #[.string s, .int .i64 cap, .int .i64 filt, .int .i64 err, .slice ao nn cc] 24)).cell? ⟨w.heap.size, 2, none⟩ = some (.int .i64 filt) := by simp [go_sem]
    have k3 : (w.alloc (.cells #[.string s, .int .i64 cap, .int .i64 filt, .int .i64 err, .slice ao nn cc] 24)).cell? ⟨w.heap.size, 3, none⟩ = some (.int .i64 err) := by simp [go_sem]
    have k4 : (w.alloc (.cells #[.string s, .int .i64 cap, .int .i64 filt, .int .i64 err, .slice ao nn cc] 24)).cell? ⟨w.heap.size, 4, none⟩ = some (.slice ao nn cc) := by simp [go_sem]
    have hv := HV.out.keepB ((B.refl w).alloc #[.string s, .int .i64 cap, .int .i64 filt, .int .i64 err, .slice ao nn cc] 24)
    have g := (B.refl w).alloc #[.string s, .int .i64 cap, .int .i64 filt, .int .i64 err, .slice ao nn cc] 24
    generalize w.alloc (.cells #[.string s, .int .i64 cap, .int .i64 filt, .int .i64 err, .slice ao nn cc] 24) = W at *
    refine (cl _ hv).mono ?_
    rintro e w2 ⟨rfl, q⟩
    replace k0 := q.keep k0
    replace k1 := q.keep k1
    replace k2 := q.keep k2
    replace k3 := q.keep k3
    replace k4 := q.keep k4
    replace hv := hv.keepB q
    replace g := g.trans q
    clear q
    go_wp2_with fail
    refine (cc_ _).mono ?_
    rintro e w1 ⟨rfl, rfl⟩
    go_wp2_with fail
    refine (cf _).mono ?_
    rintro e w1 ⟨rfl, rfl⟩
    go_wp2_with fail
    refine (ce _).mono ?_
    rintro e w1 ⟨rfl, rfl⟩
    go_wp2_with fail
    refine (cn _).mono ?_
    rintro e w6 ⟨rfl, q⟩
    replace k0 := q.keep k0
    replace k1 := q.keep k1
    replace k2 := q.keep k2
    replace k3 := q.keep k3
    replace k4 := q.keep k4
    replace hv := hv.keepB q
    replace g := g.trans q
    clear q
    go_wp2
    go_ret
    exact ⟨by simp, g⟩
  · go_enter Try.func18, Try.ntmps18
    go_wp2_with fail
    have k0 : (w.alloc (.cells #[.string s, .int .i64 cap, .int .i64 filt, .int .i64 err, .slice ao nn cc] 24)).cell? ⟨w.heap.size, 0, none⟩ = some (.string s) := by simp [go_sem]
    have k1 : (w.alloc (.cells #[.string s, .int .i64 cap, .int .i64 filt, .int .i64 err, .slice ao nn cc] 24)).cell? ⟨w.heap.size, 1, none⟩ = some (.int .i64 cap) := by simp [go_sem]
    have k2 : (w.alloc (.cells #[.string s, .int .i64 cap, .int .i64 filt, .int .i64 err, .slice ao nn cc] 24)).cell? ⟨w.heap.size, 2, none⟩ = some (.int .i64 filt) := by simp [go_sem]
    have k3 : (w.alloc (.cells #[.string s, .int .i64 cap, .int .i64 filt, .int .i64 err, .slice ao nn cc] 24)).cell? ⟨w.heap.size, 3, none⟩ = some (.int .i64 err) := by simp [go_sem]
    have k4 : (w.alloc (.cells #[.string s, .int .i64 cap, .int .i64 filt, .int .i64 err, .slice ao nn cc] 24)).cell? ⟨w.heap.size, 4, none⟩ = some (.slice ao nn cc) := by simp [go_sem]
    have hv := HV.out.keepB ((B.refl w).alloc #[.string s, .int .i64 cap, .int .i64 filt, .int .i64 err, .slice ao nn cc] 24)
    have g := (B.refl w).alloc #[.string s, .int .i64 cap, .int .i64 filt, .int .i64 err, .slice ao nn cc] 24
    generalize w.alloc (.cells #[.string s, .int .i64 cap, .int .i64 filt, .int .i64 err, .slice ao nn cc] 24) = W at *
    refine (cl _ hv).mono ?_
    rintro e w2 ⟨rfl, q⟩
    replace k0 := q.keep k0
    replace k1 := q.keep k1
    replace k2 := q.keep k2
    replace k3 := q.keep k3
    replace k4 := q.keep k4
    replace hv := hv.keepB q
    replace g := g.trans q
    clear q
    go_wp2_with fail
    refine (cc_ _).mono ?_
    rintro e w1 ⟨rfl, rfl⟩
    go_wp2_with fail
    refine (cf _).mono ?_
    rintro e w1 ⟨rfl, rfl⟩
    go_wp2_with fail
    refine (ce _).mono ?_
    rintro e w1 ⟨rfl, rfl⟩
    go_wp2_with fail
    refine (cn _).mono ?_
    rintro e w6 ⟨rfl, q⟩
    replace k0 := q.keep k0
    replace k1 := q.keep k1
    replace k2 := q.keep k2
    replace k3 := q.keep k3
    replace k4 := q.keep k4
    replace hv := hv.keepB q
    replace g := g.trans q
    clear q
    go_wp2
    go_ret
    exact ⟨by simp, g⟩
end Go.Proofs.Ytiblhebenhiijaa

namespace Go.Proofs.Ytiblhebenhiijaa
open Go.RowKit
set_option linter.unusedVariables false
theorem tipB_ok (n : ByteArray) (x y z : Int) (l : List Sec) : tipB n x y z l = tipOk ⟨n, x, y, z, l⟩ := by
  unfold tipB tipOk
  simp only
  cases nameS n <;> cases rightS l <;> simp
end Go.Proofs.Ytiblhebenhiijaa

namespace Go.Proofs.Ytiblhebenhiijaa
open Go.RowKit
structure FlAt (w : World) (p : Addr) (f : Fl) : Prop where
  n : w.cell? p = some (.string f.n)
  r : w.cell? ⟨p.block, p.off + 1, none⟩ = some (.int .i64 f.r)
  c : w.cell? ⟨p.block, p.off + 2, none⟩ = some (.int .i64 f.c)
  v : w.cell? ⟨p.block, p.off + 3, none⟩ = some (.int .i64 f.v)
theorem FlAt.keepB {w w' : World} {p : Addr} {f : Fl} (h : FlAt w p f) (q : B w w') : FlAt w' p f := ⟨q.keep h.n, q.keep h.r, q.keep h.c, q.keep h.v⟩
def IsFls (w : World) (v : Value) (L : List Fl) : Prop :=
  (v = .slice none 0 0 ∧ L = []) ∨
  ∃ (a : Addr) (cap : Nat), v = .slice (some a) L.length cap ∧ L.length ≤ cap ∧ cap ≤ maxLen ∧ ∀ i f, L[i]? = some f → FlAt w (a.add (i * 4)) f
theorem IsFls.keepB {w w' : World} {v : Value} {L : List Fl} (h : IsFls w v L) (q : B w w') : IsFls w' v L := by
  rcases h with h | ⟨a, cap, h1, h2, h3, h4⟩
  · exact .inl h
  · exact .inr ⟨a, cap, h1, h2, h3, fun i f hf => (h4 i f hf).keepB q⟩
theorem IsFls.form {w : World} {v : Value} {L : List Fl} (h : IsFls w v L) : ∃ ao cap, v = .slice ao L.length cap := by
  rcases h with ⟨rfl, rfl⟩ | ⟨a, cap, rfl, _⟩
  · exact ⟨_, _, rfl⟩
  · exact ⟨_, _, rfl⟩
theorem IsFls.at_ {w : World} {v : Value} {L : List Fl} (h : IsFls w v L) {i : Nat} (hi : i < L.length) : ∃ (a : Addr) (cap : Nat), v = .slice (some a) L.length cap ∧ L.length ≤ cap ∧ cap ≤ maxLen ∧ FlAt w (a.add (i * 4)) L[i] := by
  rcases h with ⟨_, rfl⟩ | ⟨a, cap, h1, h2, h3, h4⟩
  · simp at hi
  · exact ⟨a, cap, h1, h2, h3, h4 i _ (List.getElem?_eq_getElem hi)⟩
/-- A deck in memory: its three slices. -/
structure IsDk (w : World) (wv tv fv : Value) (d : Dk) : Prop where
  ws : IsRecs w wv d.ws
  ts : IsRecs w tv d.ts
  fs : IsFls w fv d.fs
theorem IsDk.keepB {w w' : World} {wv tv fv : Value} {d : Dk} (h : IsDk w wv tv fv d) (q : B w w') : IsDk w' wv tv fv d := ⟨h.ws.keepB q, h.ts.keepB q, h.fs.keepB q⟩
theorem len_max {n : Nat} {cap : Nat} (h : n ≤ cap) (h2 : cap ≤ maxLen) : n ≤ 9223372036854775807 := by unfold maxLen at h2; omega
theorem IsRecs.len {w : World} {v : Value} {L : List Rec} (h : IsRecs w v L) : L.length ≤ 9223372036854775807 := by
  rcases h with ⟨_, rfl⟩ | ⟨a, cap, _, h2, h3, _⟩
  · simp
  · exact len_max h2 h3
theorem IsFls.len {w : World} {v : Value} {L : List Fl} (h : IsFls w v L) : L.length ≤ 9223372036854775807 := by
  rcases h with ⟨_, rfl⟩ | ⟨a, cap, _, h2, h3, _⟩
  · simp
  · exact len_max h2 h3
theorem secs_form {w : World} {v : Value} {l : List Sec} (h : IsSecs w v l) : ∃ ao cap, v = .slice ao l.length cap := by
  rcases h with ⟨rfl, rfl⟩ | ⟨a, cap, rfl, _⟩
  · exact ⟨_, _, rfl⟩
  · exact ⟨_, _, rfl⟩
end Go.Proofs.Ytiblhebenhiijaa

namespace Go.Proofs.Ytiblhebenhiijaa
open Go.RowKit
set_option linter.unusedVariables false
set_option maxRecDepth 100000 in
set_option maxHeartbeats 2000000 in
theorem pieces_any (v : Int) (n : Nat) (hv : 0 ≤ v ∧ v ≤ 9223372036854775807) (hn : 1 ≤ n ∧ n ≤ 1000) (h1 : 2 ≤ n ∨ v < 9223372036854775807) (w : World) :
    Calls Try.prog 19 #[.int .i64 v, .int .i64 (n : Int)] w fun e w' => ∃ s, e = .returned s ∧ RowZ w' w.heap.size s (evenL v n) ∧ B w w' := by
  obtain ⟨i0, hi0, hz0, hz1, hz2⟩ := info_of repZInfo
  obtain ⟨D, hD⟩ : ∃ D, v.tdiv (n : Int) = D := ⟨_, rfl⟩
  have hMb : 0 ≤ v.tmod (n : Int) ∧ v.tmod (n : Int) < (n : Int) := by
    rw [Int.tmod_eq_emod_of_nonneg (by omega)]
    exact ⟨Int.emod_nonneg _ (by omega), Int.emod_lt_of_pos _ (by omega)⟩
  obtain ⟨M, hM⟩ : ∃ M : Nat, v.tmod (n : Int) = (M : Int) := ⟨(v.tmod (n : Int)).toNat, by omega⟩
  rw [hM] at hMb
  have hDb : 0 ≤ D ∧ D < 9223372036854775807 := by
    rw [← hD, Int.tdiv_eq_ediv_of_nonneg (by omega)]
    refine ⟨Int.ediv_nonneg (by omega) (by omega), ?_⟩
    rcases h1 with h | h
    · have : v / (n : Int) ≤ v / 2 := by
        refine (Int.le_ediv_iff_mul_le (by omega)).2 ?_
        have a1 := Int.mul_ediv_self_le (x := v) (k := (n : Int)) (by omega)
        have a2 : (v / (n : Int)) * 2 ≤ (n : Int) * (v / (n : Int)) := by
          rw [Int.mul_comm]
          exact Int.mul_le_mul_of_nonneg_right (by omega) (Int.ediv_nonneg (by omega) (by omega))
        omega
      omega
    · exact Int.lt_of_le_of_lt (Int.ediv_le_self _ (by omega)) h
  have hE := flat_even hD hM (by omega)
  have hL := evenL_len v n
  obtain ⟨EL, hEL⟩ : ∃ EL, evenL v n = EL := ⟨_, rfl⟩
  rw [hEL] at hE hL ⊢
  have HL := Lib.hid (And.intro hE hL)
  have w1 : IntKind.i64.wrap D = D := by rw [IntKind.wrap_i64]; omega
  have w2 : IntKind.i64.wrap (M : Int) = (M : Int) := by rw [IntKind.wrap_i64]; omega
  obtain ⟨D1, hD1⟩ : ∃ D1, D + 1 = D1 := ⟨_, rfl⟩
  rw [hD1] at hE HL
  have w3 : IntKind.i64.wrap (D + 1) = D1 := by rw [IntKind.wrap_i64]; omega
  obtain ⟨K, hK⟩ : ∃ K : Nat, n - M = K := ⟨_, rfl⟩
  have w4 : IntKind.i64.wrap ((n : Int) - (M : Int)) = (K : Int) := by rw [IntKind.wrap_i64]; omega
  have hn0 : ¬ (n : Int) = 0 := by omega
  have hn0' : ¬ n = 0 := by omega
  rw [hK] at HL
  have HK := Lib.hid (show M + K = n ∧ M ≤ 1000 ∧ K ≤ 1000 ∧ M + K ≤ 1000 by omega)
  have c1 := fun w' hs => repZ_all ⟨w.heap.size, 0, none⟩ 1 M D1 HK.out.2.1 w' hs
  have c2 := fun ad w' hs => repZ_all ad 1 K D HK.out.2.2.1 w' hs
  clear hEL hE hL hDb hMb h1 hv hn hD1 hK
  go_enter Try.func19, Try.ntmps19
  go_wp2_with fail
  go_quiet (fail)
  go_wp2_with fail
  have q1 : B w ((w.drewN nq).alloc (.cells #[.int .i64 D1] 2)) := ((B.refl w).drewN nq).alloc _ _
  refine (c1 _ (by rw [addz]; exact (World.cell?_alloc_new _ _ _ _).trans rfl)).mono ?_
  rintro e w2 ⟨g1, rfl, hr1, q2⟩
  replace hr1 := own_low hr1 q1.below.size
  replace q2 := q1.trans q2
  clear c1 q1
  go_wp2_with fail
  have q3 : B w2 (w2.alloc (.cells #[.int .i64 D] 2)) := (B.refl w2).alloc _ _
  refine (c2 _ _ (by rw [addz]; exact (World.cell?_alloc_new _ _ _ _).trans rfl)).mono ?_
  rintro e w4 ⟨g2, rfl, hr2, q4⟩
  have hr1' := own_keepBx hr1 (q3.trans q4)
  have hs2 := (q2.trans (q3.trans q4)).below.size
  have HQ := Lib.hid (q2.trans (q3.trans q4))
  have hu := rowIn_own hr2
  have hMN : M + K ≤ 1000 := HK.out.2.2.2
  clear c2 q3 q4 hr1 q2 hr2
  go_wp2_with (at_builtin; refine wpList_append_two rfl _ _ 31 rfl w.heap.size 2 i0 _ 1 8 Try.underlying31 hi0 hz0 hz1 hz2 rfl (by omega) (.slice (some ⟨g1, 0, none⟩) M M) M (repL M [.int .i64 D1]) rfl hr1' (.slice (some ⟨g2, 0, none⟩) K K) rfl K (repL K [.int .i64 D]) hu (by rw [repL_len]; rfl) (repL_ones _ _) (by unfold maxLen; omega) (by omega) hs2 ?_; intro oN cN w5 hown5 hold5 hgrow5; have hB5 := HQ.out.grownBy hgrow5 (fun x hx => (hr1'.lt x hx).1); have HF := Lib.hid (And.intro hown5 hB5); clear hown5 hold5 hgrow5 hB5 hr1' hu hs2)
  go_ret
  rw [← HL.out.1, HK.out.1] at HF
  exact ⟨_, rfl, ⟨oN, cN, by rw [HL.out.2, ← HK.out.1]; rfl, by rw [HL.out.2]; exact HF.out.1⟩, HF.out.2⟩
set_option maxHeartbeats 2000000 in
theorem strokes_any (v : Int) (hv : I64 v) (w : World) : Calls Try.prog 15 #[.int .i64 v] w fun e w' => ∃ s, e = .returned s ∧ RowZ w' w.heap.size s (strokesL v) ∧ B w w' := by
  obtain ⟨R, hR⟩ : ∃ R, R = strokesL v := ⟨_, rfl⟩
  rw [← hR]
  unfold strokesL at hR
  by_cases h0 : v ≤ 0
  · have h0B : decide (v < 1) = true := decide_eq_true (by omega)
    rw [if_pos h0] at hR
    subst hR
    clear h0
    go_enter Try.func15, Try.ntmps15
    go_wp2
    go_ret
    exact ⟨_, rfl, rowZ_nil _ _, B.refl _⟩
  · have h0B : decide (v < 1) = false := decide_eq_false (by omega)
    rw [if_neg h0] at hR
    obtain ⟨m, hm⟩ : ∃ m : Nat, (min v 4).toNat = m := ⟨_, rfl⟩
    have hmI : min v 4 = (m : Int) := by omega
    have cE := pieces_any v m ⟨by omega, by unfold I64 at hv; omega⟩ (by omega) (by unfold I64 at hv; omega) w
    rw [hm] at hR
    subst hR
    clear hm h0
    go_enter Try.func15, Try.ntmps15
    go_wp2_with fail
    refine cE.mono ?_
    rintro e w1 ⟨s, rfl, hs, q1⟩
    have HS := Lib.hid (And.intro hs q1)
    clear cE hs q1
    go_wp2
    go_ret
    exact ⟨s, rfl, HS.out.1, HS.out.2⟩
set_option maxRecDepth 100000 in
set_option maxHeartbeats 2000000 in
theorem cparts_any (N : ByteArray) (x y z : Int) (sv : Value) (sl : List Sec) (v : Int) (hv : I64 v) (w : World) (hs : IsSecs w sv sl) :
    Calls Try.prog 10 #[.agg #[.string N, .int .i64 x, .int .i64 y, .int .i64 z, sv], .int .i64 v] w (PartsRes ⟨N, x, y, z, sl⟩ v w) := by
  have cT0 := fun w' (q : B w w') => tipright_any N x y z sv sl w' (IsSecs.keepB hs q)
  rw [tipB_ok] at cT0
  obtain ⟨so, sc, rfl⟩ := secs_form hs
  obtain ⟨sn, hsn⟩ : ∃ sn, sl.length = sn := ⟨_, rfl⟩
  rw [hsn] at cT0 ⊢
  have q0 : B w (w.alloc (.cells #[.string N, .int .i64 x, .int .i64 y, .int .i64 z, .slice so sn sc] 24)) := (B.refl w).alloc _ _
  have oT := obj_new w (.cells #[.string N, .int .i64 x, .int .i64 y, .int .i64 z, .slice so sn sc] 24)
  have k0 := obj_cell oT 0
  have k1 := obj_cell oT 1
  have k2 := obj_cell oT 2
  have k3 := obj_cell oT 3
  have k4 := obj_cell oT 4
  have cT := cT0
  obtain ⟨R, hR⟩ : ∃ R, R = partsX ⟨N, x, y, z, sl⟩ v := ⟨_, rfl⟩
  unfold PartsRes
  rw [← hR]
  unfold partsX at hR
  simp only at hR
  clear hs hsn cT0
  cases hok : tipOk ⟨N, x, y, z, sl⟩ with
  | false =>
    rw [hok] at cT hR
    simp only [Bool.false_eq_true, if_false] at hR
    have HR := Lib.hid hR
    clear hR hok
    go_enter Try.func10, Try.ntmps10
    go_wp2_with fail
    refine (cT _ q0).mono ?_
    rintro e w1 ⟨rfl, q1⟩
    have HQ := Lib.hid (q0.trans q1)
    clear cT q0 q1 oT
    go_wp2
    go_ret2
    exact .inl ⟨28, HR.out, rfl, HQ.out⟩
  | true =>
    have hb : 1 ≤ x ∧ x ≤ 20000000 ∧ 0 ≤ z ∧ z ≤ 10000 := by
      have h := hok
      unfold tipOk at h
      simp only [Bool.and_eq_true, inB, decide_eq_true_eq] at h
      omega
    rw [hok] at cT hR
    simp only [if_true] at hR
    by_cases hlo : v < 1
    · have hloB : decide (v < 1) = true := decide_eq_true hlo
      rw [show inB v 1 20000000 = false by unfold inB; simp; omega] at hR
      simp only [Bool.false_eq_true, if_false] at hR
      have HR := Lib.hid hR
      clear hR hok hb hlo
      go_enter Try.func10, Try.ntmps10
      go_wp2_with fail
      refine (cT _ q0).mono ?_
      rintro e w1 ⟨rfl, q1⟩
      have HQ := Lib.hid (q0.trans q1)
      clear cT q0 q1 oT
      go_wp2
      go_ret2
      exact .inl ⟨20, HR.out, rfl, HQ.out⟩
    · have hloB : decide (v < 1) = false := decide_eq_false hlo
      by_cases hhi : 20000000 < v
      · have hhiB : decide (20000000 < v) = true := decide_eq_true hhi
        rw [show inB v 1 20000000 = false by unfold inB; simp; omega] at hR
        simp only [Bool.false_eq_true, if_false] at hR
        have HR := Lib.hid hR
        clear hR hok hb hlo hhi
        go_enter Try.func10, Try.ntmps10
        go_wp2_with fail
        refine (cT _ q0).mono ?_
        rintro e w1 ⟨rfl, q1⟩
        have HQ := Lib.hid (q0.trans q1)
        clear cT q0 q1 oT
        go_wp2
        go_ret2
        exact .inl ⟨20, HR.out, rfl, HQ.out⟩
      · have hhiB : decide (20000000 < v) = false := decide_eq_false hhi
        have hvv : 1 ≤ v ∧ v ≤ 20000000 := by omega
        rw [show inB v 1 20000000 = true by unfold inB; simp; omega] at hR
        simp only [if_true] at hR
        obtain ⟨Z4, hZ4⟩ : ∃ Z4, 4 * z = Z4 := ⟨_, rfl⟩
        obtain ⟨M, hM⟩ : ∃ M, x - Z4 = M := ⟨_, rfl⟩
        have w1 : IntKind.i64.wrap (4 * z) = Z4 := by rw [IntKind.wrap_i64]; omega
        have w2 : IntKind.i64.wrap (x - Z4) = M := by rw [IntKind.wrap_i64]; omega
        rw [hZ4, hM] at hR
        have hM1 : -40000 ≤ M ∧ M ≤ 20000000 := by omega
        clear hok hb hM hZ4 hlo hhi
        by_cases hm : M < 1
        · have hmB : decide (M < 1) = true := decide_eq_true hm
          rw [if_pos hm] at hR
          have HR := Lib.hid hR
          clear hR hm hM1 hvv
          go_enter Try.func10, Try.ntmps10
          go_wp2_with fail
          refine (cT _ q0).mono ?_
          rintro e w1 ⟨rfl, q1⟩
          have HQ := Lib.hid (q0.trans q1)
          replace k1 := q1.keep k1
          replace k3 := q1.keep k3
          clear cT q0 q1 oT
          go_wp2
          go_ret2
          exact .inl ⟨33, HR.out, rfl, HQ.out⟩
        · have hmB : decide (M < 1) = false := decide_eq_false hm
          have hm0 : ¬ M = 0 := by omega
          obtain ⟨p1, p2⟩ := parts_nums hvv ⟨by omega, hM1.2⟩
          rw [if_neg hm] at hR
          obtain ⟨S, hS⟩ : ∃ S, v + M = S := ⟨_, rfl⟩
          obtain ⟨S1, hS1⟩ : ∃ S1, S - 1 = S1 := ⟨_, rfl⟩
          have w3 : IntKind.i64.wrap (v + M) = S := by rw [IntKind.wrap_i64]; omega
          have w4 : IntKind.i64.wrap (S - 1) = S1 := by rw [IntKind.wrap_i64]; omega
          rw [hS, hS1] at p1 p2 hR
          obtain ⟨P, hP⟩ : ∃ P : Nat, S1.tdiv M = (P : Int) := ⟨(S1.tdiv M).toNat, by omega⟩
          rw [hP] at p1 p2 hR
          have w5 : IntKind.i64.wrap (P : Int) = (P : Int) := by rw [IntKind.wrap_i64]; omega
          have hP' := Lib.hid hP
          clear hS hS1 hm hM1
          by_cases hp : 1000 < (P : Int)
          · have hpB : decide (1000 < (P : Int)) = true := decide_eq_true hp
            have hpN : decide (1000 < P) = true := decide_eq_true (by omega)
            rw [if_pos hp] at hR
            have HR := Lib.hid hR
            clear hR hp p1 p2 hvv
            go_enter Try.func10, Try.ntmps10
            go_wp2_with fail
            refine (cT _ q0).mono ?_
            rintro e w1 ⟨rfl, q1⟩
            have HQ := Lib.hid (q0.trans q1)
            replace k1 := q1.keep k1
            replace k3 := q1.keep k3
            clear cT q0 q1 oT
            go_wp2
            go_ret2
            exact .inl ⟨33, HR.out, rfl, HQ.out⟩
          · have hpB : decide (1000 < (P : Int)) = false := decide_eq_false hp
            have hpN : decide (1000 < P) = false := decide_eq_false (by omega)
            rw [if_neg hp, show ((P : Int)).toNat = P by omega] at hR
            have cE := fun w' => pieces_any v P ⟨by omega, by omega⟩ ⟨by omega, by omega⟩ (.inr (by omega)) w'
            have HR := Lib.hid hR
            clear hR hp p1 p2 hvv
            go_enter Try.func10, Try.ntmps10
            go_wp2_with fail
            refine (cT _ q0).mono ?_
            rintro e w1 ⟨rfl, q1⟩
            have HQ := Lib.hid (q0.trans q1)
            replace k1 := q1.keep k1
            replace k3 := q1.keep k3
            clear cT q0 q1 oT
            go_wp2_with fail
            refine (cE _).mono ?_
            rintro e w3 ⟨s, rfl, hs, q3⟩
            have HS := Lib.hid (And.intro (hs.low HQ.out.below.size) (HQ.out.trans q3))
            clear cE hs q3
            go_wp2
            go_ret2
            exact .inr ⟨_, s, HR.out, rfl, HS.out.1, HS.out.2⟩
set_option maxRecDepth 100000 in
set_option maxHeartbeats 2000000 in
theorem ccount_any (N : ByteArray) (x y z : Int) (sv : Value) (sl : List Sec) (v : Int) (hv : I64 v) (w : World) (hs : IsSecs w sv sl) :
    Calls Try.prog 12 #[.agg #[.string N, .int .i64 x, .int .i64 y, .int .i64 z, sv], .int .i64 v] w fun e w' => e = .returned (cntV (partsX ⟨N, x, y, z, sl⟩ v)) ∧ B w w' := by
  have cP := fun w' (q : B w w') => cparts_any N x y z sv sl v hv w' (IsSecs.keepB hs q)
  obtain ⟨so, sc, rfl⟩ := secs_form hs
  obtain ⟨sn, hsn⟩ : ∃ sn, sl.length = sn := ⟨_, rfl⟩
  rw [hsn] at cP ⊢
  have q0 : B w (w.alloc (.cells #[.string N, .int .i64 x, .int .i64 y, .int .i64 z, .slice so sn sc] 24)) := (B.refl w).alloc _ _
  have hpb := fun l h => parts_bounds (t := ⟨N, x, y, z, sl⟩) (v := v) (l := l) h
  clear hs hsn hv
  go_enter Try.func12, Try.ntmps12
  go_wp2_with fail
  refine (cP _ q0).mono ?_
  rintro e w1 (⟨n, hp, rfl, q1⟩ | ⟨l, s, hp, rfl, hs, q1⟩)
  · have HQ := Lib.hid (q0.trans q1)
    have HP := Lib.hid hp
    clear cP q0 q1 hp hpb
    go_wp2_with fail
    go_loopw [8, 19] (fun nv iv wr => nv = .int .i64 0 ∧ iv = .int .i64 0 ∧ wr = w1) (fun _ _ _ => 1)
    case atStart => exact ⟨rfl, rfl, rfl⟩
    case round =>
      obtain ⟨rfl, rfl, rfl⟩ := hrel
      go_wp2
      go_ret2
      exact ⟨by rw [HP.out]; rfl, HQ.out⟩
  · obtain ⟨hl1, hl2⟩ := hpb l hp
    have HP := Lib.hid (And.intro hp (And.intro hl2 (q0.trans q1)))
    obtain ⟨o, c, rfl, hrow⟩ := hs
    obtain ⟨ln, hln⟩ : ∃ ln, l.length = ln := ⟨_, rfl⟩
    rw [hln] at hrow hl1 ⊢
    have HL := Lib.hid (And.intro hln hrow)
    clear cP q0 q1 hp hpb hl2 hln hrow
    go_wp2_with fail
    go_loopw [8, 19] (fun nv iv wr => ∃ i : Nat, i ≤ ln ∧ nv = .int .i64 (cntL (l.take i)) ∧ iv = .int .i64 i ∧ 0 ≤ cntL (l.take i) ∧ cntL (l.take i) ≤ 4 * (i : Int) ∧ B w1 wr) (fun _ iv _ => ln + 1 - (intOf iv).toNat)
    case atStart => exact ⟨0, Nat.zero_le _, rfl, rfl, by show (0 : Int) ≤ 0; omega, by show (0 : Int) ≤ 0; omega, B.refl _⟩
    case round =>
      obtain ⟨i, hi, rfl, rfl, hn0, hn1, q⟩ := hrel
      obtain ⟨wo, rfl⟩ : ∃ wo : World, wo = wr := ⟨_, rfl⟩
      by_cases hl : i < ln
      · have hlB : decide ((i : Int) < (ln : Int)) = true := decide_eq_true (by omega)
        have hlN : decide (i < ln) = true := decide_eq_true hl
        have hlI : (i : Int) < (ln : Int) := by omega
        have hi0 : (0 : Int) ≤ (i : Int) := by omega
        have wk1 : IntKind.i64.wrap ((i : Int) + 1) = (i : Int) + 1 := by rw [IntKind.wrap_i64]; omega
        have hrw := own_keepBx HL.out.2 q
        obtain ⟨g, hg, _, _, _⟩ := own_full hrw (by omega)
        subst hg
        have hget : l[i]? = some (l.getD i 0) := getD_of (by rw [HL.out.1]; exact hl)
        have y0 := hrw.cellAt i (by omega)
        rw [flatL_get hget] at y0
        obtain ⟨u, hu⟩ : ∃ u, l.getD i 0 = u := ⟨_, rfl⟩
        rw [hu] at y0 hget
        have hub := HP.out.2.1 u (List.mem_of_getElem? hget)
        have cS := strokes_any u (by unfold I64; omega) wo
        have htk := cntL_take l hget
        have hlen := strokesL_len hub.1
        have hpc := pcs_nums hub.1
        obtain ⟨sl2, hsl2⟩ : ∃ sl2, (strokesL u).length = sl2 := ⟨_, rfl⟩
        rw [hsl2] at htk hlen
        obtain ⟨C0, hC0⟩ : ∃ C0, cntL (l.take i) = C0 := ⟨_, rfl⟩
        rw [hC0] at htk hn0 hn1 ⊢
        have wk2 : IntKind.i64.wrap (C0 + (sl2 : Int)) = C0 + (sl2 : Int) := by rw [IntKind.wrap_i64]; omega
        have HX := Lib.hid (And.intro htk (And.intro (show 0 ≤ C0 + (sl2 : Int) ∧ C0 + (sl2 : Int) ≤ 4 * ((i + 1 : Nat) : Int) by omega) (And.intro hl (And.intro q hsl2))))
        clear hl hi hn0 hn1 hrw hget hu hub htk hlen hpc hsl2 hC0 q
        go_wp2_with fail
        refine cS.mono ?_
        rintro e w3 ⟨s3, rfl, ⟨o3, c3, rfl, _⟩, q3⟩
        rw [HX.out.2.2.2.2]
        have HY := Lib.hid (HX.out.2.2.2.1.trans q3)
        clear cS q3 y0
        go_wp2
        go_roundw
        case rel => exact ⟨i + 1, by have := HX.out.2.2.1; omega, by rw [HX.out.1], by go_num, by rw [HX.out.1]; exact HX.out.2.1.1, by rw [HX.out.1]; exact HX.out.2.1.2, HY.out⟩
        case measure => have := HX.out.2.2.1; simp [intOf]; omega
      · have hlB : decide ((i : Int) < (ln : Int)) = false := decide_eq_false (by omega)
        have hlN : decide (i < ln) = false := decide_eq_false hl
        obtain rfl : i = ln := by omega
        have e9 : l.take i = l := List.take_of_length_le (by rw [HL.out.1]; exact Nat.le_refl _)
        rw [e9]
        obtain ⟨C0, hC0⟩ : ∃ C0, cntL l = C0 := ⟨_, rfl⟩
        rw [hC0]
        have HX := Lib.hid (And.intro hC0 (HP.out.2.2.trans q))
        clear hl hi hn0 hn1 q e9 hC0
        go_wp2
        go_ret2
        exact ⟨by rw [HP.out.1]; unfold cntV; simp only; rw [HX.out.1]; rfl, HX.out.2⟩
theorem chunk_code : ChunkC := ⟨fun N x y z sv sl v w hv hs => cparts_any N x y z sv sl v hv w hs, fun v w hv => strokes_any v hv w⟩
theorem count_code : CountC := ⟨fun N x y z sv sl v w hv hs => ccount_any N x y z sv sl v hv w hs⟩
end Go.Proofs.Ytiblhebenhiijaa

namespace Go.Proofs.Ytiblhebenhiijaa
open Go.RowKit
set_option linter.unusedVariables false
theorem even_dm {v : Int} {n : Nat} (hv : 0 ≤ v) (hn : 0 < n) : (n : Int) * v.tdiv n + v.tmod n = v ∧ 0 ≤ v.tmod n ∧ v.tmod n < n ∧ 0 ≤ v.tdiv n := by
  refine ⟨Int.mul_tdiv_add_tmod v n, ?_, ?_, ?_⟩
  · rw [Int.tmod_eq_emod_of_nonneg hv]; exact Int.emod_nonneg _ (by omega)
  · rw [Int.tmod_eq_emod_of_nonneg hv]; exact Int.emod_lt_of_pos _ (by omega)
  · rw [Int.tdiv_eq_ediv_of_nonneg hv]; exact Int.ediv_nonneg hv (by omega)
theorem even_get {v : Int} {n i : Nat} (h : i < n) : (evenL v n)[i]? = some (evenAt v n i) := by
  unfold evenL
  rw [List.getElem?_map, List.getElem?_range h]
  rfl
theorem even_sum_take {v : Int} {n : Nat} : ∀ k : Nat, k ≤ n → ((evenL v n).take k).sum = (k : Int) * v.tdiv n + min (k : Int) (max (v.tmod n) 0)
  | 0, _ => by
    show (0 : Int) = _
    rw [show ((0 : Nat) : Int) = 0 by rfl, Int.zero_mul]
    omega
  | k + 1, h => by
    have ih := even_sum_take (v := v) (n := n) k (by omega)
    rw [evenL_take v (show k < n by omega), List.sum_append, ih]
    unfold evenAt
    generalize v.tmod n = M at *
    generalize v.tdiv n = D at *
    rw [show ((k + 1 : Nat) : Int) = (k : Int) + 1 by omega, Int.add_mul]
    split <;> simp only [List.sum_cons, List.sum_nil] <;> omega
theorem even_sum {v : Int} {n : Nat} (hv : 0 ≤ v) (hn : 0 < n) : (evenL v n).sum = v := by
  have h := even_sum_take (v := v) (n := n) n (Nat.le_refl _)
  rw [List.take_of_length_le (by rw [evenL_len]; exact Nat.le_refl _)] at h
  obtain ⟨h1, h2, h3, _⟩ := even_dm hv hn
  rw [h]
  omega
/-- None is greater than what fits, where all fit. -/
theorem even_le {v m : Int} {n : Nat} (hv : 0 ≤ v) (hn : 0 < n) (h : v ≤ (n : Int) * m) (i : Nat) : evenAt v n i ≤ m := by
  obtain ⟨h1, h2, h3, h4⟩ := even_dm hv hn
  unfold evenAt
  generalize v.tmod n = M at *
  generalize v.tdiv n = D at *
  split
  · have : (n : Int) * D < (n : Int) * m := by omega
    have := Int.lt_of_mul_lt_mul_left this (by omega)
    omega
  · have : (n : Int) * D ≤ (n : Int) * m := by omega
    exact Int.le_of_mul_le_mul_left this (by omega)
theorem even_pos {v : Int} {n : Nat} (hn : 0 < n) (h : (n : Int) ≤ v) (i : Nat) : 1 ≤ evenAt v n i := by
  have hd : 1 ≤ v.tdiv n := by
    rw [Int.tdiv_eq_ediv_of_nonneg (by omega)]
    exact (Int.le_ediv_iff_mul_le (by omega)).2 (by omega)
  unfold evenAt
  split <;> omega
theorem even_falls (v : Int) (n i : Nat) : evenAt v n (i + 1) ≤ evenAt v n i ∧ evenAt v n 0 - evenAt v n i ≤ 1 := by
  unfold evenAt
  split <;> split <;> (try split) <;> omega
/-- Strokes. -/
theorem strokes_pos {v : Int} (hv : 0 < v) : ∃ n : Nat, strokesL v = evenL v n ∧ 0 < n ∧ n ≤ 4 ∧ (n : Int) ≤ v := by
  refine ⟨(min v 4).toNat, ?_, by omega, by omega, by omega⟩
  unfold strokesL
  rw [if_neg (by omega)]
theorem strokes_none {v : Int} (hv : v ≤ 0) : strokesL v = [] := by unfold strokesL; rw [if_pos hv]
theorem sum_take_succ {l : List Int} {i : Nat} {x : Int} (h : l[i]? = some x) : (l.take (i + 1)).sum = (l.take i).sum + x := by
  rw [List.take_add_one, h, List.sum_append]
  simp
/-- How many parts: no more than there must be. -/
theorem ceil_fits {v m : Int} (hv : 1 ≤ v) (hm : 1 ≤ m) : v ≤ (v + m - 1).tdiv m * m ∧ 1 ≤ (v + m - 1).tdiv m ∧ (v + m - 1).tdiv m ≤ v := by
  rw [Int.tdiv_eq_ediv_of_nonneg (by omega)]
  have h1 := Int.emod_lt_of_pos (v + m - 1) (show 0 < m by omega)
  have h2 := Int.emod_add_ediv_mul (v + m - 1) m
  refine ⟨by omega, (Int.le_ediv_iff_mul_le (by omega)).2 (by omega), ?_⟩
  have h3 : (v + m - 1) / m ≤ (v * m) / m := Int.ediv_le_ediv (by omega) (by
    have : 0 ≤ (v - 1) * (m - 1) := Int.mul_nonneg (by omega) (by omega)
    rw [Int.sub_mul, Int.mul_sub] at this
    omega)
  rwa [Int.mul_ediv_cancel _ (by omega)] at h3
theorem ceil_many {v m : Int} (hm : 1 ≤ m) : 1000 < (v + m - 1).tdiv m ↔ m * 1000 < v := by
  by_cases h0 : 0 ≤ v + m - 1
  · rw [Int.tdiv_eq_ediv_of_nonneg h0]
    constructor
    · intro h
      have := (Int.le_ediv_iff_mul_le (show 0 < m by omega)).1 (show 1001 ≤ (v + m - 1) / m by omega)
      omega
    · intro h
      have := (Int.le_ediv_iff_mul_le (show 0 < m by omega) (a := 1001) (b := v + m - 1)).2 (by omega)
      omega
  · constructor
    · intro h
      have : (v + m - 1).tdiv m ≤ 0 := by
        rw [show v + m - 1 = -(-(v + m - 1)) by omega, Int.neg_tdiv, Int.tdiv_eq_ediv_of_nonneg (by omega)]
        have := Int.ediv_nonneg (a := -(v + m - 1)) (b := m) (by omega) (by omega)
        omega
      omega
    · intro h; omega
theorem sum_bnd : ∀ (l : List Int) (k : Nat), (∀ x ∈ l, 0 ≤ x) → 0 ≤ (l.take k).sum ∧ (l.take k).sum ≤ l.sum
  | [], k, _ => by simp
  | x :: l, 0, h => by
    have a := sum_bnd l l.length (fun y hy => h y (List.mem_cons_of_mem _ hy))
    rw [List.take_of_length_le (Nat.le_refl _)] at a
    have b := h x List.mem_cons_self
    simp only [List.take_zero, List.sum_nil, List.sum_cons]
    omega
  | x :: l, k + 1, h => by
    have a := sum_bnd l k (fun y hy => h y (List.mem_cons_of_mem _ hy))
    have b := h x List.mem_cons_self
    simp only [List.take_succ_cons, List.sum_cons]
    omega
theorem even_mem {v x : Int} {n : Nat} (h : x ∈ evenL v n) : ∃ i, i < n ∧ x = evenAt v n i := by
  unfold evenL at h
  obtain ⟨i, hi, rfl⟩ := List.mem_map.1 h
  exact ⟨i, List.mem_range.1 hi, rfl⟩
/-- The strokes of a part: together the part, each at least one, four at most. -/
theorem strokes_all {p : Int} (hp : 1 ≤ p) : (strokesL p).sum = p ∧ (strokesL p).length ≤ 4 ∧ ∀ x ∈ strokesL p, 1 ≤ x := by
  obtain ⟨n, e, h0, h4, hn⟩ := strokes_pos (show 0 < p by omega)
  rw [e]
  refine ⟨even_sum (by omega) h0, by rw [evenL_len]; exact h4, fun x hx => ?_⟩
  obtain ⟨i, _, rfl⟩ := even_mem hx
  exact even_pos h0 hn i
/-- The parts of a volume: together the volume, each at least one and no more than fits. -/
theorem parts_all {v m : Int} {n : Nat} (h0 : 0 < n) (hn : (n : Int) ≤ v) (h : v ≤ (n : Int) * m) : (evenL v n).sum = v ∧ ∀ x ∈ evenL v n, 1 ≤ x ∧ x ≤ m := by
  refine ⟨even_sum (by omega) h0, fun x hx => ?_⟩
  obtain ⟨i, _, rfl⟩ := even_mem hx
  exact ⟨even_pos h0 hn i, even_le (by omega) h0 h i⟩
/-- The greater ones first, by one at most. -/
def EvQ (l : List Int) : Prop := ∀ i x y z, l[i]? = some x → l[i + 1]? = some y → l[0]? = some z → y ≤ x ∧ 0 ≤ z - y ∧ z - y ≤ 1
theorem even_q (v : Int) (n : Nat) : EvQ (evenL v n) := by
  intro i x y z hx hy hz
  have hi : i + 1 < n := by
    have := (List.getElem?_eq_some_iff.1 hy).1
    rwa [evenL_len] at this
  rw [even_get (by omega)] at hx hy hz
  simp only [Option.some.injEq] at hx hy hz
  subst hx hy hz
  obtain ⟨a1, a2⟩ := even_falls v n i
  obtain ⟨b1, b2⟩ := even_falls v n (i + 1)
  refine ⟨a1, ?_, b2⟩
  unfold evenAt at *
  split <;> split <;> omega
theorem strokes_q (v : Int) : EvQ (strokesL v) := by
  by_cases h : v ≤ 0
  · rw [strokes_none h]; intro i x y z hx; simp at hx
  · obtain ⟨n, e, _⟩ := strokes_pos (show 0 < v by omega)
    rw [e]; exact even_q v n
theorem strokes_le4 (v : Int) : (strokesL v).length ≤ 4 := by
  by_cases h : v ≤ 0
  · rw [strokes_none h]; exact Nat.zero_le _
  · obtain ⟨n, e, _, h4, _⟩ := strokes_pos (show 0 < v by omega)
    rw [e, evenL_len]; exact h4
theorem and_mask (a : Int) (m : Nat) (hm : m < 4611686018427387904) : 0 ≤ bits .and .i64 a (m : Int) ∧ bits .and .i64 a (m : Int) ≤ (m : Int) := by
  have h2 : (BitVec.ofInt 64 (m : Int)).toNat = m := by
    rw [BitVec.ofInt_natCast, BitVec.toNat_ofNat]; exact Nat.mod_eq_of_lt (by omega)
  have hx : (BitVec.ofInt 64 a).toNat &&& m ≤ m := Nat.and_le_right
  have e : bits .and .i64 a (m : Int) = IntKind.i64.wrap ((BitVec.ofInt 64 a &&& BitVec.ofInt 64 (m : Int)).toNat : Int) := rfl
  rw [e, BitVec.toNat_and, h2, IntKind.wrap_i64]
  omega
end Go.Proofs.Ytiblhebenhiijaa

namespace Go.Proofs.Ytiblhebenhiijaa
open Go.RowKit
/-- The outer shape of a number. -/
def outerOf : Nat → List Sec
  | 0 => [⟨true, 5000, 500, 0, 800, 0⟩, ⟨true, 30000, 800, 0, 1500, 0⟩]
  | 1 => [⟨true, 20000, 700, 0, 2500, 0⟩]
  | _ => [⟨true, 900, 300, 0, 600, 0⟩]
theorem outer_right : ∀ m : Nat, rightS (outerOf m) = true
  | 0 => by decide
  | 1 => by decide
  | n + 2 => by rw [show outerOf (n + 2) = outerOf 2 from rfl]; decide
theorem outer_pick (w : World) (m : Nat) (h : m < 3) : ∃ V, [Value.slice (some ⟨w.heap.size, 0, none⟩) 2 2, Value.slice (some ⟨w.heap.size + 1, 0, none⟩) 1 1, Value.slice (some ⟨w.heap.size + 1 + 1, 0, none⟩) 1 1][m]? = some V := by
  match m, h with
  | 0, _ => exact ⟨_, rfl⟩
  | 1, _ => exact ⟨_, rfl⟩
  | 2, _ => exact ⟨_, rfl⟩
theorem outer_blocks (w : World) (m : Nat) (V : Value) (hm : m < 3) (h : [Value.slice (some ⟨w.heap.size, 0, none⟩) 2 2, Value.slice (some ⟨w.heap.size + 1, 0, none⟩) 1 1, Value.slice (some ⟨w.heap.size + 1 + 1, 0, none⟩) 1 1][m]? = some V) : ∀ g, V.ownBlock = some g → w.heap.size ≤ g := by
  intro g hg
  match m, hm with
  | 0, _ => obtain rfl := Option.some.inj h; have e := Option.some.inj hg; simp at e; omega
  | 1, _ => obtain rfl := Option.some.inj h; have e := Option.some.inj hg; simp at e; omega
  | 2, _ => obtain rfl := Option.some.inj h; have e := Option.some.inj hg; simp at e; omega
set_option maxHeartbeats 4000000 in
theorem outer_new (k : Int) (h1 : 0 ≤ k) (h2 : k ≤ 255) (w : World) :
    Calls Try.prog 9 #[.int .u8 k] w fun e w' => ∃ v, e = .returned v ∧ IsSecs w' v (outerOf (k % 3).toNat) ∧ Q w w' ∧ ∀ g, v.ownBlock = some g → w.heap.size ≤ g := by
  obtain ⟨V, hp⟩ := outer_pick w (k % 3).toNat (by omega)
  have HP := Lib.hid hp
  have hm : (k % 3).toNat < 3 := by omega
  have HM := Lib.hid hm
  clear hm
  go_enter Try.func9, Try.ntmps9
  go_wp2
  go_ret
  refine ⟨V, rfl, ?_, ?_, outer_blocks w _ V HM.out HP.out⟩
  · clear hp h1 h2
    have hp := HP.out
    have hm := HM.out
    clear HP HM
    generalize (k % 3).toNat = m at *
    match m, hm with
    | 0, _ =>
      obtain rfl : Value.slice (some ⟨w.heap.size, 0, none⟩) 2 2 = V := Option.some.inj hp
      exact (isSecs_new (l := outerOf 0) rfl (by simp) (fitsB_I (by decide)) (by decide) (by decide)).keep ((((Q.refl _).alloc _ _).alloc _ _).alloc _ _)
    | 1, _ =>
      obtain rfl : Value.slice (some ⟨w.heap.size + 1, 0, none⟩) 1 1 = V := Option.some.inj hp
      exact (isSecs_new (l := outerOf 1) rfl (by simp) (fitsB_I (by decide)) (by decide) (by decide)).keep (((Q.refl _).alloc _ _).alloc _ _)
    | 2, _ =>
      obtain rfl : Value.slice (some ⟨w.heap.size + 1 + 1, 0, none⟩) 1 1 = V := Option.some.inj hp
      exact (isSecs_new (l := outerOf 2) rfl (by simp) (fitsB_I (by decide)) (by decide) (by decide)).keep ((Q.refl _).alloc _ _)
  · exact ((((((Q.refl _).alloc _ _).alloc _ _).alloc _ _).alloc _ _))
theorem outer_any (k : Int) (h1 : 0 ≤ k) (h2 : k ≤ 255) (w : World) :
    Calls Try.prog 9 #[.int .u8 k] w (Shaped (outerOf (k % 3).toNat) w) :=
  (outer_new k h1 h2 w).mono fun _ _ ⟨v, h3, h4, h5, _⟩ => ⟨v, h3, h4, h5⟩
end Go.Proofs.Ytiblhebenhiijaa

namespace Go.Proofs.Ytiblhebenhiijaa
open Go.RowKit
set_option linter.unusedVariables false
def tip16 : Rec := ⟨⟨#[116]⟩, 100, 9000, 5, outerOf 0⟩
theorem parts16 : partsX tip16 161 = .ok [54, 54, 53] := by rfl
theorem strokes16 : strokesL 10 = [3, 3, 2, 2] := by decide
set_option maxRecDepth 100000 in
set_option maxHeartbeats 4000000 in
theorem known16_any (c : ChunkC) (d : CountC) (w : World) : Calls Try.prog 7 #[] w fun e w' => e = .returned (.bool true) ∧ B w w' := by
  have c1 := fun w => c.strokes 10 w (by decide)
  rw [strokes16] at c1
  have c2 := fun w => outer_any 0 (by decide) (by decide) w
  rw [show ((0 : Int) % 3).toNat = 0 by rfl] at c2
  have c3 := fun v w h => c.parts ⟨#[116]⟩ 100 9000 5 v (outerOf 0) 161 w (by decide) h
  have c4 := fun v w h => d.count ⟨#[116]⟩ 100 9000 5 v (outerOf 0) 161 w (by decide) h
  rw [show partsX ⟨⟨#[116]⟩, 100, 9000, 5, outerOf 0⟩ 161 = .ok [54, 54, 53] from parts16] at c4
  rw [show cntV (.ok [54, 54, 53]) = .tuple #[.int .i64 12, .int .i64 0] from rfl] at c4
  have c3' : ∀ v w, IsSecs w v (outerOf 0) → Calls Try.prog 10 #[.agg #[.string ⟨#[116]⟩, .int .i64 100, .int .i64 9000, .int .i64 5, v], .int .i64 161] w fun e w' => ∃ o cp, e = .returned (.tuple #[.slice o 3 cp, .int .i64 0]) ∧ IsZ w' o [54, 54, 53] ∧ B w w' := fun v w h => (c3 v w h).mono fun e w' hp => by
    rcases hp with ⟨n, h1, _⟩ | ⟨l, s, h1, h2, h3, h4⟩
    · rw [show partsX ⟨⟨#[116]⟩, 100, 9000, 5, outerOf 0⟩ 161 = .ok [54, 54, 53] from parts16] at h1; cases h1
    · rw [show partsX ⟨⟨#[116]⟩, 100, 9000, 5, outerOf 0⟩ 161 = .ok [54, 54, 53] from parts16] at h1
      obtain rfl : [54, 54, 53] = l := by injection h1
      obtain ⟨o, cp, rfl, hz⟩ := h3.isZ
      exact ⟨o, cp, h2, hz, h4⟩
  clear c3 c d
  generalize outerOf 0 = lo at *
  go_enter Try.func7, Try.ntmps7
  go_wp2_with fail
  refine (c1 _).mono ?_
  rintro e w1 ⟨s, rfl, hs, g⟩
  obtain ⟨o1, cp1, rfl, hz⟩ := hs.isZ
  obtain ⟨b1, rfl, k0⟩ := hz 0 3 rfl
  obtain ⟨_, e1, k3⟩ := hz 3 2 rfl
  obtain rfl : b1 = _ := by injection e1 with e1; injection e1
  clear e1 hz hs c1
  go_wp2_with fail
  refine (c2 _).mono ?_
  rintro e w2 ⟨v2, rfl, hv2, q2⟩
  replace k0 := q2.b.keep k0
  replace k3 := q2.b.keep k3
  replace g := g.trans q2.b
  clear q2 c2
  obtain ⟨oo2, nn2, pp2, rfl⟩ := hv2.form
  go_wp2_with fail
  have obb2 := obj_new w2 (.cells #[.string ⟨#[116]⟩, .int .i64 100, .int .i64 9000, .int .i64 5, .slice oo2 nn2 pp2] 24)
  have qa : B w2 (w2.alloc (.cells #[.string ⟨#[116]⟩, .int .i64 100, .int .i64 9000, .int .i64 5, .slice oo2 nn2 pp2] 24)) := (B.refl _).alloc _ _
  replace g := g.trans qa
  replace hv2 := hv2.keepB qa
  replace k0 := qa.keep k0
  replace k3 := qa.keep k3
  generalize w2.alloc (.cells #[.string ⟨#[116]⟩, .int .i64 100, .int .i64 9000, .int .i64 5, .slice oo2 nn2 pp2] 24) = W3 at *
  generalize w2.heap.size = b2 at *
  clear qa
  have b2k0 := obj_cell obb2 0
  have b2k1 := obj_cell obb2 1
  have b2k2 := obj_cell obb2 2
  have b2k3 := obj_cell obb2 3
  have b2k4 := obj_cell obb2 4
  refine (c3' _ _ hv2).mono ?_
  rintro e w4 ⟨o4, cp4, rfl, hz4, q⟩
  obtain ⟨b4, rfl, k4⟩ := hz4 0 54 rfl
  clear hz4
  replace g := g.trans q
  replace obb2 := q.obj obb2
  replace b2k0 := q.keep b2k0
  replace b2k1 := q.keep b2k1
  replace b2k2 := q.keep b2k2
  replace b2k3 := q.keep b2k3
  replace b2k4 := q.keep b2k4
  replace hv2 := hv2.keepB q
  replace k0 := q.keep k0
  replace k3 := q.keep k3
  clear q
  go_wp2_with fail
  refine (c4 _ _ hv2).mono ?_
  rintro e w5 ⟨rfl, q⟩
  replace g := g.trans q
  replace k0 := q.keep k0
  replace k3 := q.keep k3
  replace k4 := q.keep k4
  clear q
  clear b2k0 b2k1 b2k2 b2k3 b2k4 obb2 hv2 c4 c3'
  go_wp2
  go_ret
  exact ⟨rfl, g⟩
end Go.Proofs.Ytiblhebenhiijaa

namespace Go.Proofs.Ytiblhebenhiijaa
open Go.RowKit
theorem u32_wf {k : Int} (w : (Lit.int .u32 k).wf = true) : 0 ≤ k ∧ k ≤ 4294967295 := by
  simp [Lit.wf, IntKind.min, IntKind.max, IntKind.signed, IntKind.bits] at w
  omega
theorem wrapU32 {x : Int} (h0 : 0 ≤ x) (h1 : x ≤ 4294967295) : IntKind.u32.wrap x = x := by
  rw [IntKind.wrap_u32]; omega
theorem wrapU16 {x : Int} (h0 : 0 ≤ x) (h1 : x ≤ 65535) : IntKind.u16.wrap x = x := by
  rw [IntKind.wrap_u16]; omega
end Go.Proofs.Ytiblhebenhiijaa

namespace Go.Proofs.Ytiblhebenhiijaa
open Go.RowKit
set_option linter.unusedVariables false
theorem wrapU8 {x : Int} (h0 : 0 ≤ x) (h1 : x ≤ 255) : IntKind.u8.wrap x = x := by
  rw [IntKind.wrap_u8]; omega
set_option maxRecDepth 100000 in
set_option maxHeartbeats 4000000 in
theorem caps_law (c : ChunkC) (d : CountC) (err k nn : Int) (he : (Lit.int .u16 err).wf = true) (hk : (Lit.int .u8 k).wf = true) (hn : (Lit.int .u32 nn).wf = true) (w : World) : Calls Try.prog 6 #[.int .u16 err, .int .u8 k, .int .u32 nn] w fun e w' => e = .returned (.bool true) ∧ B w w' := by
  obtain ⟨err1, err2⟩ := u16_wf he
  obtain ⟨k1, k2⟩ := u8_wf hk
  obtain ⟨nn1, nn2⟩ := u32_wf hn
  clear he hk hn
  have c0 := fun w => known16_any c d w
  have c2 := fun w => outer_any 1 (by decide) (by decide) w
  rw [show ((1 : Int) % 3).toNat = 1 by rfl] at c2
  obtain ⟨E, eE⟩ : ∃ z, err % 10001 = z := ⟨_, rfl⟩
  have tE : err.tmod 10001 = E := by rw [Int.tmod_eq_emod_of_nonneg (by omega)]; exact eE
  have bE : 0 ≤ E ∧ E < 10001 := by omega
  have xE : IntKind.i64.wrap E = E := wrapI (by omega) (by omega)
  have yE : IntKind.u16.wrap E = E := wrapU16 (by omega) (by omega)
  obtain ⟨K, eK⟩ : ∃ z, k % 4 = z := ⟨_, rfl⟩
  have tK : k.tmod 4 = K := by rw [Int.tmod_eq_emod_of_nonneg (by omega)]; exact eK
  have bK : 0 ≤ K ∧ K < 4 := by omega
  have xK : IntKind.i64.wrap K = K := wrapI (by omega) (by omega)
  have yK : IntKind.u8.wrap K = K := wrapU8 (by omega) (by omega)
  obtain ⟨v0, ev0⟩ : ∃ z, nn % 5000 = z := ⟨_, rfl⟩
  have tv0 : nn.tmod 5000 = v0 := by rw [Int.tmod_eq_emod_of_nonneg (by omega)]; exact ev0
  have bv0 : 0 ≤ v0 ∧ v0 < 5000 := by omega
  have xv0 : IntKind.i64.wrap v0 = v0 := wrapI (by omega) (by omega)
  have yv0 : IntKind.u32.wrap v0 = v0 := wrapU32 (by omega) (by omega)
  obtain ⟨v, ev⟩ : ∃ z, v0 + 1 = z := ⟨_, rfl⟩
  have wv : IntKind.i64.wrap (v0 + 1) = v := by rw [ev]; exact wrapI (by omega) (by omega)
  obtain ⟨E4, eE4⟩ : ∃ z, 4 * E = z := ⟨_, rfl⟩
  have wE4 : IntKind.i64.wrap (4 * E) = E4 := by rw [eE4]; exact wrapI (by omega) (by omega)
  obtain ⟨s1, es1⟩ : ∃ z, E4 - 1 = z := ⟨_, rfl⟩
  have ws1 : IntKind.i64.wrap (E4 - 1) = s1 := by rw [es1]; exact wrapI (by omega) (by omega)
  obtain ⟨s2, es2⟩ : ∃ z, s1 + K = z := ⟨_, rfl⟩
  have ws2 : IntKind.i64.wrap (s1 + K) = s2 := by rw [es2]; exact wrapI (by omega) (by omega)
  obtain ⟨cp, ecp⟩ : ∃ z, max s2 1 = z := ⟨_, rfl⟩
  obtain ⟨m, em⟩ : ∃ z, cp - E4 = z := ⟨_, rfl⟩
  have wm : IntKind.i64.wrap (cp - E4) = m := by rw [em]; exact wrapI (by omega) (by omega)
  obtain ⟨a1, ea1⟩ : ∃ z, v + m = z := ⟨_, rfl⟩
  have wa1 : IntKind.i64.wrap (v + m) = a1 := by rw [ea1]; exact wrapI (by omega) (by omega)
  obtain ⟨a2, ea2⟩ : ∃ z, a1 - 1 = z := ⟨_, rfl⟩
  have wa2 : IntKind.i64.wrap (a1 - 1) = a2 := by rw [ea2]; exact wrapI (by omega) (by omega)
  have hvI : I64 v := by unfold I64; omega
  have hP := parts_ok (t := ⟨⟨#[116]⟩, cp, 9000, E, outerOf 1⟩) (v := v) (tip_ok (outer_right 1) (by omega) (by omega)) (by omega)
  simp only [show cp - 4 * E = m by omega, show v + m - 1 = a2 by omega] at hP
  by_cases hm : m < 1
  · rw [if_pos hm] at hP
    have d1 : decide (m ≤ 0) = true := decide_eq_true (by omega)
    have cP := fun sv w hs => c.err hvI hP sv w hs
    generalize outerOf 1 = lo at *
    have HX := Lib.hid hP
    clear hP
    go_enter Try.func6, Try.ntmps6
    go_wp2_with fail
    refine (c0 _).mono ?_
    rintro e w1 ⟨rfl, g⟩
    go_wp2_with fail
    refine (c2 _).mono ?_
    rintro e w2 ⟨v2, rfl, hv2, q2⟩
    replace g := g.trans q2.b
    clear q2 c2 c0
    obtain ⟨oo2, nn2, pp2, rfl⟩ := hv2.form
    go_wp2_with fail
    have obb2 := obj_new w2 (.cells #[.string ⟨#[116]⟩, .int .i64 cp, .int .i64 9000, .int .i64 E, .slice oo2 nn2 pp2] 24)
    have qa : B w2 (w2.alloc (.cells #[.string ⟨#[116]⟩, .int .i64 cp, .int .i64 9000, .int .i64 E, .slice oo2 nn2 pp2] 24)) := (B.refl _).alloc _ _
    replace g := g.trans qa
    replace hv2 := hv2.keepB qa
    generalize w2.alloc (.cells #[.string ⟨#[116]⟩, .int .i64 cp, .int .i64 9000, .int .i64 E, .slice oo2 nn2 pp2] 24) = W3 at *
    generalize w2.heap.size = b2 at *
    clear qa
    have b2k0 := obj_cell obb2 0
    have b2k1 := obj_cell obb2 1
    have b2k2 := obj_cell obb2 2
    have b2k3 := obj_cell obb2 3
    have b2k4 := obj_cell obb2 4
    refine (cP _ _ hv2).mono ?_
    rintro e w4 ⟨rfl, q⟩
    replace g := g.trans q
    replace obb2 := q.obj obb2
    replace b2k0 := q.keep b2k0
    replace b2k1 := q.keep b2k1
    replace b2k2 := q.keep b2k2
    replace b2k3 := q.keep b2k3
    replace b2k4 := q.keep b2k4
    clear q
    clear cP obb2 hv2 HX
    go_wp2
    go_ret
    exact ⟨rfl, g⟩
  · rw [if_neg hm] at hP
    have d1 : decide (m ≤ 0) = false := decide_eq_false (by omega)
    have hm0 : ¬ m = 0 := by omega
    obtain ⟨q1, p1, p2⟩ := ceil_fits (v := v) (m := m) (by omega) (by omega)
    rw [show v + m - 1 = a2 by omega] at q1 p1 p2
    clear q1
    obtain ⟨P, eP⟩ : ∃ P : Nat, a2.tdiv m = (P : Int) := ⟨(a2.tdiv m).toNat, by omega⟩
    rw [eP, show ((P : Int)).toNat = P by omega] at hP
    rw [eP] at p1 p2
    have wP : IntKind.i64.wrap (P : Int) = P := wrapI (by omega) (by omega)
    by_cases hb : 1000 < (P : Int)
    · rw [if_pos hb] at hP
      have d2 : decide ((1000 : Int) < (P : Int)) = true := decide_eq_true hb
      have d3 : decide (1000 < P) = true := decide_eq_true (by omega)
      have cP := fun sv w hs => c.err hvI hP sv w hs
      generalize outerOf 1 = lo at *
      have HX := Lib.hid hP
      clear hP
      go_enter Try.func6, Try.ntmps6
      go_wp2_with fail
      refine (c0 _).mono ?_
      rintro e w1 ⟨rfl, g⟩
      go_wp2_with fail
      refine (c2 _).mono ?_
      rintro e w2 ⟨v2, rfl, hv2, q2⟩
      replace g := g.trans q2.b
      clear q2 c2 c0
      obtain ⟨oo2, nn2, pp2, rfl⟩ := hv2.form
      go_wp2_with fail
      have obb2 := obj_new w2 (.cells #[.string ⟨#[116]⟩, .int .i64 cp, .int .i64 9000, .int .i64 E, .slice oo2 nn2 pp2] 24)
      have qa : B w2 (w2.alloc (.cells #[.string ⟨#[116]⟩, .int .i64 cp, .int .i64 9000, .int .i64 E, .slice oo2 nn2 pp2] 24)) := (B.refl _).alloc _ _
      replace g := g.trans qa
      replace hv2 := hv2.keepB qa
      generalize w2.alloc (.cells #[.string ⟨#[116]⟩, .int .i64 cp, .int .i64 9000, .int .i64 E, .slice oo2 nn2 pp2] 24) = W3 at *
      generalize w2.heap.size = b2 at *
      clear qa
      have b2k0 := obj_cell obb2 0
      have b2k1 := obj_cell obb2 1
      have b2k2 := obj_cell obb2 2
      have b2k3 := obj_cell obb2 3
      have b2k4 := obj_cell obb2 4
      refine (cP _ _ hv2).mono ?_
      rintro e w4 ⟨rfl, q⟩
      replace g := g.trans q
      replace obb2 := q.obj obb2
      replace b2k0 := q.keep b2k0
      replace b2k1 := q.keep b2k1
      replace b2k2 := q.keep b2k2
      replace b2k3 := q.keep b2k3
      replace b2k4 := q.keep b2k4
      clear q
      clear cP obb2 hv2 HX
      go_wp2
      go_ret
      exact ⟨rfl, g⟩
    · rw [if_neg hb] at hP
      have d2 : decide ((1000 : Int) < (P : Int)) = false := decide_eq_false hb
      have d3 : decide (1000 < P) = false := decide_eq_false (by omega)
      have cP := fun sv w hs => c.ok hvI hP sv w hs
      rw [evenL_len] at cP
      generalize outerOf 1 = lo at *
      have HX := Lib.hid hP
      clear hP
      go_enter Try.func6, Try.ntmps6
      go_wp2_with fail
      refine (c0 _).mono ?_
      rintro e w1 ⟨rfl, g⟩
      go_wp2_with fail
      refine (c2 _).mono ?_
      rintro e w2 ⟨v2, rfl, hv2, q2⟩
      replace g := g.trans q2.b
      clear q2 c2 c0
      obtain ⟨oo2, nn2, pp2, rfl⟩ := hv2.form
      go_wp2_with fail
      have obb2 := obj_new w2 (.cells #[.string ⟨#[116]⟩, .int .i64 cp, .int .i64 9000, .int .i64 E, .slice oo2 nn2 pp2] 24)
      have qa : B w2 (w2.alloc (.cells #[.string ⟨#[116]⟩, .int .i64 cp, .int .i64 9000, .int .i64 E, .slice oo2 nn2 pp2] 24)) := (B.refl _).alloc _ _
      replace g := g.trans qa
      replace hv2 := hv2.keepB qa
      generalize w2.alloc (.cells #[.string ⟨#[116]⟩, .int .i64 cp, .int .i64 9000, .int .i64 E, .slice oo2 nn2 pp2] 24) = W3 at *
      generalize w2.heap.size = b2 at *
      clear qa
      have b2k0 := obj_cell obb2 0
      have b2k1 := obj_cell obb2 1
      have b2k2 := obj_cell obb2 2
      have b2k3 := obj_cell obb2 3
      have b2k4 := obj_cell obb2 4
      refine (cP _ _ hv2).mono ?_
      rintro e w4 ⟨o4, cp4, rfl, hz4, q⟩
      clear hz4
      replace g := g.trans q
      replace obb2 := q.obj obb2
      replace b2k0 := q.keep b2k0
      replace b2k1 := q.keep b2k1
      replace b2k2 := q.keep b2k2
      replace b2k3 := q.keep b2k3
      replace b2k4 := q.keep b2k4
      clear q
      clear cP obb2 hv2 HX
      go_wp2
      go_ret
      exact ⟨rfl, g⟩
end Go.Proofs.Ytiblhebenhiijaa
