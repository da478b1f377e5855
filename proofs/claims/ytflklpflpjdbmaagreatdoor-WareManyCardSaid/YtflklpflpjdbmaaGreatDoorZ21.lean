/-
  Contract of the document's Dec: a number's digits; Contract of the document's text of a shape; What a right deck's numbers are, where it is printed. No program is named here; The builder: copyCheck, WriteByte, WriteString, walked at this program; printLine: a line's text behind a builder's bytes.
-/
import Derived.Lib.AppendIntMem
import Derived.Lib.Builder
import Derived.Lib.AppendStr
import Derived.Lib.UnsafeStr
import Derived.Laws.Externs
import Derived.Test.YtflklpflpjdbmaaGreatDoorChecked
import Derived.Lib.Hide
import Derived.Lib.ItoaLen
import Derived.Laws.Strings2
import Derived.KernelRfl
import Derived.Test.YtflklpflpjdbmaaGreatDoorZ1
import Derived.Test.YtflklpflpjdbmaaGreatDoorZ2
import Derived.Test.YtflklpflpjdbmaaGreatDoorZ3
import Derived.Test.YtflklpflpjdbmaaGreatDoorZ4
import Derived.Test.YtflklpflpjdbmaaGreatDoorZ6
import Derived.Test.YtflklpflpjdbmaaGreatDoorZ7
import Derived.Test.YtflklpflpjdbmaaGreatDoorZ18
import Derived.Test.YtflklpflpjdbmaaGreatDoorZ19
namespace Go.Proofs.YtflklpflpjdbmaaGreatDoor
open Go.RowKit
def decS (n : Nat) : ByteArray := ⟨(Lib.decDigits n).toArray⟩
theorem decS_small : ∀ n : Nat, n < 10 → ({ data := #[48, 49, 50, 51, 52, 53, 54, 55, 56, 57] } : ByteArray).extract n (n + 1) = decS n := by
  intro n hn
  have e : decS n = ⟨#[UInt8.ofNat (48 + n)]⟩ := by unfold decS; rw [Lib.decDigits, dif_pos hn]
  rw [e]
  have : n = 0 ∨ n = 1 ∨ n = 2 ∨ n = 3 ∨ n = 4 ∨ n = 5 ∨ n = 6 ∨ n = 7 ∨ n = 8 ∨ n = 9 := by omega
  rcases this with rfl | rfl | rfl | rfl | rfl | rfl | rfl | rfl | rfl | rfl <;> rfl
theorem decS_app {n q r : Nat} (h : 10 ≤ n) (hq : q = n / 10) (hr : r = n % 10) : decS q ++ decS r = decS n := by
  apply ByteArray.ext
  rw [ByteArray.data_append]
  have e1 : Lib.decDigits n = Lib.decDigits (n / 10) ++ [UInt8.ofNat (48 + n % 10)] := by rw [Lib.decDigits.eq_def n, dif_neg (by omega)]
  have e2 : Lib.decDigits (n % 10) = [UInt8.ofNat (48 + n % 10)] := by rw [Lib.decDigits.eq_def (n % 10), dif_pos (by omega)]
  unfold decS
  subst hq hr
  rw [e1, e2]
  simp
theorem decS_size {n : Nat} (h : n ≤ 10000000000000) : (decS n).size ≤ 20 := by
  have e : (decS n).size = (Lib.decDigits n).length := by simp [decS, ByteArray.size]
  rw [e, Lib.decDigits_length]
  exact Lib.nDigits_le20 n (by omega)
theorem slice_digit {n : Nat} (c : n < 10) (w : World) : (Instr.slice 9 (.string { data := #[48, 49, 50, 51, 52, 53, 54, 55, 56, 57] }) (some (.int .i64 (n : Int))) (some (.int .i64 ((n : Int) + 1))) none).run Tryz.prog w = .ok (.string (decS n)) w := by
  have hs : ({ data := #[48, 49, 50, 51, 52, 53, 54, 55, 56, 57] } : ByteArray).size = 10 := rfl
  rw [run_slice_string w 9 _ .i64 .i64 (n : Int) ((n : Int) + 1) Tryz.underlying9 (by omega) (by omega) (by rw [hs]; omega), ← decS_small n c]
  rw [show ((n : Int) + 1).toNat = n + 1 by omega, Int.toNat_natCast]
theorem r8dec_any : ∀ (f n : Nat), n ≤ f → n ≤ 10000000000000 → ∀ w : World, Calls Tryz.prog 20 #[.int .i64 (n : Int)] w fun e w' => e = .returned (.string (decS n)) ∧ w = w' := by
  intro f
  induction f with
  | zero =>
    intro n hf hn w
    obtain rfl : n = 0 := by omega
    have e := decS_small 0 (by decide)
    go_enter Tryz.func20, Tryz.ntmps20
    go_wp2
    go_ret
    exact ⟨by rw [← e]; rfl, rfl⟩
  | succ f ih =>
    intro n hf hn w
    by_cases c : n < 10
    · have e := slice_digit c
      have cB : decide ((n : Int) < 10) = true := decide_eq_true (by omega)
      have wk : IntKind.i64.wrap ((n : Int) + 1) = (n : Int) + 1 := by rw [IntKind.wrap_i64]; omega
      clear ih hf hn c
      go_enter Tryz.func20, Tryz.ntmps20
      go_wp2
      go_ret
      exact ⟨rfl, rfl⟩
    · obtain ⟨q, hq⟩ : ∃ q, q = n / 10 := ⟨_, rfl⟩
      obtain ⟨r, hr⟩ : ∃ r, r = n % 10 := ⟨_, rfl⟩
      have e := Lib.hid (decS_app (by omega) hq hr)
      have cB : decide ((n : Int) < 10) = false := decide_eq_false (by omega)
      have tq : (n : Int).tdiv 10 = (q : Int) := by rw [Int.tdiv_eq_ediv_of_nonneg (by omega)]; omega
      have tr : (n : Int).tmod 10 = (r : Int) := by rw [Int.tmod_eq_emod_of_nonneg (by omega)]; omega
      have wq : IntKind.i64.wrap (q : Int) = (q : Int) := by rw [IntKind.wrap_i64]; omega
      have wr : IntKind.i64.wrap (r : Int) = (r : Int) := by rw [IntKind.wrap_i64]; omega
      have hsz : ¬ 9223372036854775807 < (decS q).size + (decS r).size := by
        have := decS_size (n := q) (by omega)
        have := decS_size (n := r) (by omega)
        omega
      have c1 := ih q (by omega) (by omega)
      have c2 := ih r (by omega) (by omega)
      clear ih hf hn hq hr
      go_enter Tryz.func20, Tryz.ntmps20
      go_wp2_with fail
      refine (c1 _).mono ?_
      rintro e1 w1 ⟨rfl, rfl⟩
      go_wp2_with fail
      refine (c2 _).mono ?_
      rintro e1 w1 ⟨rfl, rfl⟩
      go_wp2_with fail
      go_ret
      exact ⟨by rw [← e.out]; rfl, rfl⟩
end Go.Proofs.YtflklpflpjdbmaaGreatDoor

namespace Go.Proofs.YtflklpflpjdbmaaGreatDoor
open Go.RowKit
theorem strB_app (a b : List UInt8) : strB a ++ strB b = strB (a ++ b) := by
  apply ByteArray.ext
  rw [ByteArray.data_append]
  simp [strB]
theorem decS_strB (n : Nat) : decS n = strB (decI n) := by unfold decS decI strB; rw [Int.toNat_natCast]
theorem take_flat {α β : Type} {l : List α} {f : α → List β} {i : Nat} {x : α} (h : l[i]? = some x) : (l.take (i + 1)).flatMap f = (l.take i).flatMap f ++ f x := by
  rw [List.take_add_one, h]
  simp
def secN (s : Sec) : Prop := ∃ h a0 b0 a1 b1 : Nat, s = { r := s.r, h := h, a0 := a0, b0 := b0, a1 := a1, b1 := b1 } ∧ h ≤ 10000000000000 ∧ a0 ≤ 10000000000000 ∧ b0 ≤ 10000000000000 ∧ a1 ≤ 10000000000000 ∧ b1 ≤ 10000000000000
theorem secs_at' {w : World} {v : Value} {l : List Sec} (h : IsSecs w v l) {i : Nat} {s : Sec} (hs : l[i]? = some s) : ∃ a, (∃ cap, v = .slice (some a) l.length cap) ∧ SecAt w (a.add (i * 6)) s := by
  rcases h with ⟨_, rfl⟩ | ⟨a, cap, h1, _, _, h4⟩
  · simp at hs
  · exact ⟨a, ⟨cap, h1⟩, (h4 i s hs).2⟩
end Go.Proofs.YtflklpflpjdbmaaGreatDoor

namespace Go.Proofs.YtflklpflpjdbmaaGreatDoor
open Go.RowKit
theorem secOk_N {s : Sec} (h : secOk s = true) : secN s := by
  obtain ⟨h1, h2, h3, h4, h5, h6, h7, h8, h9, h10, h11⟩ := secOk_all h
  obtain ⟨r, hh, a0, b0, a1, b1⟩ := s
  simp only at h1 h2 h3 h4 h5 h6 h7 h8 h9 h10 h11
  refine ⟨hh.toNat, a0.toNat, b0.toNat, a1.toNat, b1.toNat, ?_, by omega, by omega, by omega, by omega, by omega⟩
  simp only [Sec.mk.injEq, true_and]
  refine ⟨?_, ?_, ?_, ?_, ?_⟩ <;> omega
/-- A ware's or a tip's line and its shape's lines. -/
structure RecN (r : Wr) (x y z : Nat) : Prop where
  ex : r.x = x
  ey : r.y = y
  ez : r.z = z
  bx : x ≤ 10000000000000
  by_ : y ≤ 10000000000000
  bz : z ≤ 10000000000000
  n : r.n.data.toList.length ≤ 16
  l : ∀ s ∈ r.l, secN s
  l4 : r.l.length ≤ 4
theorem nameS_16 {n : ByteArray} (hn : nameS n = true) : n.data.toList.length ≤ 16 := by
  have e : n.data.toList.length = n.size := Array.length_toList
  rw [e]
  unfold nameS at hn
  exact of_decide_eq_true (Bool.and_eq_true_iff.1 (Bool.and_eq_true_iff.1 (Bool.and_eq_true_iff.1 hn).1).1).2
theorem rightS_parts {l : List Sec} (h : rightS l = true) : (∀ s ∈ l, secN s) ∧ l.length ≤ 4 := by
  unfold rightS at h
  simp only [Bool.and_eq_true, decide_eq_true_eq, List.all_eq_true] at h
  exact ⟨fun s hs => secOk_N (h.1.2 s hs), h.1.1.2⟩
theorem wareOk_N {r : Wr} (h : wareOk r = true) : ∃ x y z, RecN r x y z := by
  unfold wareOk at h
  have h5 := (Bool.and_eq_true_iff.1 h).2
  have h4 := (Bool.and_eq_true_iff.1 (Bool.and_eq_true_iff.1 h).1).2
  have h3 := (Bool.and_eq_true_iff.1 (Bool.and_eq_true_iff.1 (Bool.and_eq_true_iff.1 h).1).1).2
  have h2 := (Bool.and_eq_true_iff.1 (Bool.and_eq_true_iff.1 (Bool.and_eq_true_iff.1 (Bool.and_eq_true_iff.1 h).1).1).1).2
  have h1 := (Bool.and_eq_true_iff.1 (Bool.and_eq_true_iff.1 (Bool.and_eq_true_iff.1 (Bool.and_eq_true_iff.1 h).1).1).1).1
  rw [inB_iff] at h2 h3 h4
  obtain ⟨s1, s2⟩ := rightS_parts h5
  exact ⟨r.x.toNat, r.y.toNat, r.z.toNat, by omega, by omega, by omega, by omega, by omega, by omega, nameS_16 h1, s1, s2⟩
theorem tipOk_N {r : Wr} (h : tipOk r = true) : ∃ x y z, RecN r x y z := by
  unfold tipOk at h
  have h5 := (Bool.and_eq_true_iff.1 h).2
  have h4 := (Bool.and_eq_true_iff.1 (Bool.and_eq_true_iff.1 h).1).2
  have h3 := (Bool.and_eq_true_iff.1 (Bool.and_eq_true_iff.1 (Bool.and_eq_true_iff.1 h).1).1).2
  have h2 := (Bool.and_eq_true_iff.1 (Bool.and_eq_true_iff.1 (Bool.and_eq_true_iff.1 (Bool.and_eq_true_iff.1 h).1).1).1).2
  have h1 := (Bool.and_eq_true_iff.1 (Bool.and_eq_true_iff.1 (Bool.and_eq_true_iff.1 (Bool.and_eq_true_iff.1 h).1).1).1).1
  rw [inB_iff] at h3 h4 h5
  obtain ⟨s1, s2⟩ := rightS_parts h2
  exact ⟨r.x.toNat, r.y.toNat, r.z.toNat, by omega, by omega, by omega, by omega, by omega, by omega, nameS_16 h1, s1, s2⟩
theorem right_parts {d : Dk} (h : rightD d = true) : d.ws.length ≤ 8 ∧ d.ts.length ≤ 4 ∧ (∀ r ∈ d.ws, ∃ x y z, RecN r x y z) ∧ (∀ r ∈ d.ts, ∃ x y z, RecN r x y z) ∧
    ∀ f ∈ d.fs, nameS f.n = true ∧ (0 ≤ f.r ∧ f.r < 8) ∧ (0 ≤ f.c ∧ f.c < 12) ∧ 0 ≤ f.v ∧ f.v ≤ 20000000 := by
  unfold rightD at h
  simp only [Bool.and_eq_true, decide_eq_true_eq] at h
  obtain ⟨⟨⟨⟨h1, h2⟩, h3⟩, h4⟩, h5⟩ := h
  rw [apartW_iff] at h3 h4
  have hwr : ∀ w ∈ d.ws, wareOk w = true := fun w hw => by
    obtain ⟨i, hi⟩ := List.getElem?_of_mem hw
    exact (h3 i w hi).1
  have htr : ∀ w ∈ d.ts, tipOk w = true := fun w hw => by
    obtain ⟨i, hi⟩ := List.getElem?_of_mem hw
    exact (h4 i w hi).1
  refine ⟨h1, h2, fun r hr => wareOk_N (hwr r hr), fun r hr => tipOk_N (htr r hr), fun f hf => ?_⟩
  obtain ⟨i, hi⟩ := List.getElem?_of_mem hf
  unfold fillsOk at h5
  rw [List.all_eq_true] at h5
  have h6 := h5 i (List.mem_range.2 (List.getElem?_eq_some_iff.1 hi).1)
  rw [hi] at h6
  simp only [Bool.and_eq_true, inB_iff, Bool.not_eq_true'] at h6
  obtain ⟨v, hv, e, r0, r1, c0, c1⟩ := has_ware d.ws 0 f.n f.r f.c h6.1.1
  have hv2 := hwr v hv
  unfold wareOk at hv2
  have k3 := (Bool.and_eq_true_iff.1 (Bool.and_eq_true_iff.1 (Bool.and_eq_true_iff.1 hv2).1).1).2
  have k2 := (Bool.and_eq_true_iff.1 (Bool.and_eq_true_iff.1 (Bool.and_eq_true_iff.1 (Bool.and_eq_true_iff.1 hv2).1).1).1).2
  have k1 := (Bool.and_eq_true_iff.1 (Bool.and_eq_true_iff.1 (Bool.and_eq_true_iff.1 (Bool.and_eq_true_iff.1 hv2).1).1).1).1
  rw [inB_iff] at k2 k3
  exact ⟨e ▸ k1, ⟨r0, by omega⟩, ⟨c0, by omega⟩, h6.1.2.1, h6.1.2.2⟩
def recT (k : List UInt8) (r : Wr) : List UInt8 := lineT (k :: r.n.data.toList :: [decI r.x, decI r.y, decI r.z]) ++ r.l.flatMap fun s => lineT (secL s)
theorem deck_text (d : Dk) : (deckL d).flatMap lineT = (d.ws.flatMap (recT kWare) ++ d.ts.flatMap (recT kTip)) ++ d.fs.flatMap fun f => lineT (fillL f) := by
  have e : ∀ k r, (recL k r).flatMap lineT = recT k r := fun k r => by unfold recL recT; rw [List.flatMap_cons, List.flatMap_map]
  unfold deckL
  rw [List.flatMap_append, List.flatMap_append, List.flatMap_assoc, List.flatMap_assoc, List.flatMap_map]
  simp only [e]
theorem sec_len {s : Sec} (h : secN s) : (lineT (secL s)).length ≤ 130 := by
  obtain ⟨hh, a0, b0, a1, b1, e, y1, y2, y3, y4, y5⟩ := h
  have dl : ∀ {x : Nat}, x ≤ 10000000000000 → (decI (x : Int)).length ≤ 20 := fun h => by
    have := decS_size h
    rw [decS_strB, strB_size] at this
    exact this
  have := dl y1
  have := dl y2
  have := dl y3
  have := dl y4
  have := dl y5
  rw [e]
  unfold secL
  split <;> simp [lineT, kRound, kBox] <;> omega
theorem flat_len9 {α : Type} (f : α → List UInt8) (m : Nat) : ∀ l : List α, (∀ x ∈ l, (f x).length ≤ m) → (l.flatMap f).length ≤ m * l.length
  | [], _ => by simp
  | x :: l, h => by
    have h1 := h x (List.mem_cons_self ..)
    have h2 := flat_len9 f m l fun y hy => h y (List.mem_cons_of_mem _ hy)
    rw [List.flatMap_cons, List.length_append, List.length_cons, Nat.mul_succ]
    omega
theorem recT_len {k : List UInt8} (hk : k.length ≤ 10) {r : Wr} {x y z : Nat} (h : RecN r x y z) : (recT k r).length ≤ 1000 := by
  have dl : ∀ {x : Nat}, x ≤ 10000000000000 → (decI (x : Int)).length ≤ 20 := fun h => by
    have := decS_size h
    rw [decS_strB, strB_size] at this
    exact this
  have d1 := dl h.bx
  have d2 := dl h.by_
  have d3 := dl h.bz
  have h1 := flat_len9 (fun s => lineT (secL s)) 130 r.l fun s hs => sec_len (h.l s hs)
  have h2 := h.l4
  have h3 := h.n
  have h4 : 130 * r.l.length ≤ 520 := by omega
  unfold recT
  rw [h.ex, h.ey, h.ez, List.length_append]
  simp only [lineT, List.length_append, List.length_cons, List.length_nil]
  omega
end Go.Proofs.YtflklpflpjdbmaaGreatDoor

namespace Go.Proofs.YtflklpflpjdbmaaGreatDoor
open Go.RowKit
set_option linter.unusedVariables false
/-- The kinds of blocks that a builder's writes turn. -/
def kBd : List (Option TypeId) := [some 81, some 5]
/-- A builder of this call's own that holds the bytes l. -/
def Bd (BB b : Nat) (l : List UInt8) (w : World) : Prop := Lib.IsBuilder 81 5 BB b (Lib.byteCells l) w
theorem pb_und : Tryz.prog.underlying 79 = some (.pointer 81) := by kernel_rfl
theorem pu_und : Tryz.prog.underlying 172 = some .unsafePointer := by kernel_rfl
theorem sb_size : (Tryz.prog.info? 81).map (·.size) = some 2 := by kernel_rfl
theorem sb_lies : liesAt Tryz.prog Tryz.prog.depth 81 (2 / Tryz.prog.cellsOf 81) 0 81 1 = true := by kernel_rfl
theorem u8_info3 : (Tryz.prog.info? 5).map (fun i => (i.zero, i.size, i.bytes)) = some (some (.int .u8 0), 1, 1) := by kernel_rfl
theorem u8s_und : Tryz.prog.underlying 47 = some (.slice 5) := by kernel_rfl
theorem str_und : Tryz.prog.underlying 9 = some .string := by kernel_rfl
set_option maxHeartbeats 1000000 in
set_option maxRecDepth 100000 in
theorem check_used (b : Nat) (w : World) (h0 : w.cell? ⟨b, 0, none⟩ = some (.pointer (some ⟨b, 0, none⟩))) :
    Calls Tryz.prog 93 #[.pointer (some ⟨b, 0, none⟩)] w fun e w' => e = .returned (.tuple #[]) ∧ w' = w := by
  obtain ⟨j, hj, _⟩ := Option.map_eq_some_iff.1 sb_size
  go_enter Tryz.func93, Tryz.ntmps93
  go_wp2
  rw [Lib.run_neq_ptr_same w _ pb_und hj]
  go_wp2
  go_end0
  exact ⟨rfl, rfl⟩
set_option maxHeartbeats 1000000 in
set_option maxRecDepth 100000 in
theorem check_fresh (b : Nat) (w : World) (h0 : w.cell? ⟨b, 0, none⟩ = some (.pointer none)) (hsh : w.shape? b = some (81, 2)) (hfz : w.frozen? ⟨b, 0, none⟩ = false) :
    Calls Tryz.prog 93 #[.pointer (some ⟨b, 0, none⟩)] w fun e w' => e = .returned (.tuple #[]) ∧ w' = w.setCell ⟨b, 0, none⟩ (.pointer (some ⟨b, 0, none⟩)) := by
  obtain ⟨j, hj, hjs⟩ := Option.map_eq_some_iff.1 sb_size
  go_enter Tryz.func93, Tryz.ntmps93
  go_wp2
  rw [Lib.run_to_unsafe w ⟨b, 0, none⟩ pb_und pu_und hj (by rw [hjs]; decide) hsh (Nat.zero_lt_succ 1)]
  simp only [Result.andThen]
  rw [Oper.upon_value]
  go_wp2
  rw [run_callFunc_extern Tryz.func104 (by kernel_rfl) (by kernel_rfl) (by kernel_rfl) (e := Extern.AbiNoEscape.same) (by kernel_rfl)]
  rw [Lib.run_noEscape]
  simp only [Result.andThen]
  rw [Oper.upon_value]
  go_wp2
  rw [Lib.run_from_unsafe w ⟨b, 0, none⟩ pu_und pb_und hj hsh sb_lies]
  simp only [Result.andThen]
  rw [Oper.upon_value]
  go_wp2
  go_end0
  exact ⟨rfl, rfl⟩
theorem check_any (BB b : Nat) (bs : List Value) (w : World) (h : Lib.IsBuilder 81 5 BB b bs w) :
    Calls Tryz.prog 93 #[.pointer (some ⟨b, 0, none⟩)] w fun e w' => e = .returned (.tuple #[]) ∧ (Lib.BuilderAt 81 5 BB b (.pointer (some ⟨b, 0, none⟩)) bs w' ∧ Tn kBd BB w w') := by
  rcases h with h | h
  · refine (check_fresh b w h.cell0 h.shape h.frozen0).mono ?_
    rintro e w' ⟨rfl, rfl⟩
    obtain ⟨v, hv, _⟩ := h.2
    exact ⟨rfl, h.used _, (Tn.refl kBd BB w).set (p := ⟨b, 0, none⟩) hv (by decide) h.1 _⟩
  · refine (check_used b w h.cell0).mono ?_
    rintro e w' ⟨rfl, rfl⟩
    exact ⟨rfl, h, Tn.refl kBd BB _⟩
set_option maxHeartbeats 2000000 in
set_option maxRecDepth 100000 in
theorem wbyte_any (BB b : Nat) (l : List UInt8) (c : UInt8) (w : World) (h : Bd BB b l w) (hlen : l.length ≤ 1000000) (hBw : BB ≤ w.heap.size) :
    Calls Tryz.prog 69 #[.pointer (some ⟨b, 0, none⟩), .int .u8 c.toNat] w fun e w' => e = .returned .nilIface ∧ (Bd BB b (l ++ [c]) w' ∧ Tn kBd BB w w') := by
  obtain ⟨bs, hbs⟩ : ∃ bs, Lib.byteCells l = bs := ⟨_, rfl⟩
  have hbl : bs.length ≤ 1000000 := by rw [← hbs, Lib.byteCells_length]; exact hlen
  have hgoal : Lib.byteCells (l ++ [c]) = bs ++ [.int .u8 c.toNat] := by rw [Lib.byteCells_append, hbs]; rfl
  unfold Bd at h ⊢
  rw [hgoal]
  rw [hbs] at h
  obtain ⟨cv, hcv⟩ : ∃ cv : Int, (c.toNat : Int) = cv := ⟨_, rfl⟩
  rw [hcv]
  clear hcv hgoal hbs hlen
  obtain ⟨i0, hi, hz0, hz1, hz2⟩ := info_parts u8_info3
  go_enter Tryz.func69, Tryz.ntmps69
  go_wp2_with fail
  refine (check_any BB b bs _ h).mono ?_
  rintro e w1 ⟨rfl, h1, hb1⟩
  obtain ⟨hB, v, hbk, hown, hne⟩ := h1
  have c0 : w1.cell? ⟨b, 0, none⟩ = some (.pointer (some ⟨b, 0, none⟩)) := by rw [Lib.cell_of_heap hbk]; rfl
  have c1 : w1.cell? ⟨b, 1, none⟩ = some v := by rw [Lib.cell_of_heap hbk]; rfl
  go_wp2_with (at_builtin; refine wpList_append_own _ rfl _ _ 47 rfl BB 5 i0 (.int .u8 0) 1 1 u8s_und hi hz0 hz1 hz2 rfl (by decide) _ _ _ rfl (hown.alloc _) ⟨w1.heap.size, 0, none⟩ 1 1 [.int .u8 cv] rfl rfl ?c1 ?c2 ?c3 ?c4 ?c5 ?_)
  case c1 =>
    intro j u hj
    match j, hj with
    | 0, hj => simp at hj; subst hj; simp [Addr.add]
  case c2 => intro u hu; simp at hu; subst hu; rfl
  case c3 => unfold maxLen; omega
  case c4 => omega
  case c5 => have := hb1.size; simp; omega
  intro v' w2 hown' hgrow _
  have hlt : b < w1.heap.size := by
    rcases Nat.lt_or_ge b w1.heap.size with h' | h'
    · exact h'
    · simp [Array.getElem?_eq_none h'] at hbk
  have hb2 : w2.heap[b]? = some (.cells #[.pointer (some ⟨b, 0, none⟩), v] 81 (0, 0)) := by
    rw [hgrow.block b (by simp; omega) (fun e => hne e.symm), Lib.alloc_old w1 _ b hlt]
    exact hbk
  have d0 : w2.cell? ⟨b, 0, none⟩ = some (.pointer (some ⟨b, 0, none⟩)) := by rw [Lib.cell_of_heap hb2]; rfl
  have d1 : w2.cell? ⟨b, 1, none⟩ = some v := by rw [Lib.cell_of_heap hb2]; rfl
  have f1 : w2.frozen? ⟨b, 1, none⟩ = false := Lib.frozen_of_heap hb2 1
  obtain ⟨g, cap, rfl⟩ : ∃ g cap, v' = .slice (some ⟨g, 0, none⟩) (bs.length + 1) cap := by
    rcases hown'.2 with ⟨_, h0⟩ | ⟨g, cap, cur, hv, _⟩
    · omega
    · exact ⟨g, cap, hv⟩
  go_wp2
  go_ret
  refine ⟨rfl, .inr ?_, ?_⟩
  · exact Lib.BuilderAt.put (T := 81) (e := 5) hB hb2 (bs' := bs ++ [.int .u8 cv]) (by simpa using hown') (by decide)
  · exact ((hb1.alloc _ _).appended (hown.alloc _) hgrow (Nat.le_refl _) (by decide)).set (p := ⟨b, 1, none⟩) hb2 (by decide) hB _
set_option maxHeartbeats 2000000 in
set_option maxRecDepth 100000 in
theorem wstr_any (BB b : Nat) (l l2 : List UInt8) (w : World) (h : Bd BB b l w) (hlen : l.length ≤ 1000000) (hl2 : l2.length ≤ 1000000) (hBw : BB ≤ w.heap.size) :
    Calls Tryz.prog 68 #[.pointer (some ⟨b, 0, none⟩), .string (strB l2)] w fun e w' => (∃ n, e = .returned (.tuple #[.int .i64 n, .nilIface])) ∧ (Bd BB b (l ++ l2) w' ∧ Tn kBd BB w w') := by
  obtain ⟨bs, hbs⟩ : ∃ bs, Lib.byteCells l = bs := ⟨_, rfl⟩
  have hbl : bs.length ≤ 1000000 := by rw [← hbs, Lib.byteCells_length]; exact hlen
  have hs2 : (strB l2).size ≤ 1000000 := by rw [strB_size]; exact hl2
  have hgoal : Lib.byteCells (l ++ l2) = bs ++ Lib.strCells (strB l2) := by rw [Lib.byteCells_append, hbs, Lib.strCells_eq]; rfl
  unfold Bd at h ⊢
  rw [hgoal]
  rw [hbs] at h
  clear hgoal hbs hlen hl2
  generalize strB l2 = s at *
  obtain ⟨i0, hi, hz0, hz1, hz2⟩ := info_parts u8_info3
  go_enter Tryz.func68, Tryz.ntmps68
  go_wp2_with fail
  refine (check_any BB b bs _ h).mono ?_
  rintro e w1 ⟨rfl, h1, hb1⟩
  obtain ⟨hB, v, hbk, hown, hne⟩ := h1
  have c0 : w1.cell? ⟨b, 0, none⟩ = some (.pointer (some ⟨b, 0, none⟩)) := by rw [Lib.cell_of_heap hbk]; rfl
  have c1 : w1.cell? ⟨b, 1, none⟩ = some v := by rw [Lib.cell_of_heap hbk]; rfl
  go_wp2_with (at_builtin; refine Lib.wpList_append_own_string _ rfl _ _ 47 9 rfl BB 5 i0 u8s_und str_und hi hz0 hz1 hz2 _ _ _ rfl hown s rfl ?c3 ?c4 ?c5 ?_)
  case c3 => unfold maxLen; omega
  case c4 => omega
  case c5 => have := hb1.size; omega
  intro v' w2 hown' hgrow _
  have hlt : b < w1.heap.size := by
    rcases Nat.lt_or_ge b w1.heap.size with h' | h'
    · exact h'
    · simp [Array.getElem?_eq_none h'] at hbk
  have hb2 : w2.heap[b]? = some (.cells #[.pointer (some ⟨b, 0, none⟩), v] 81 (0, 0)) := by
    rw [hgrow.block b hlt (fun e => hne e.symm)]
    exact hbk
  have d0 : w2.cell? ⟨b, 0, none⟩ = some (.pointer (some ⟨b, 0, none⟩)) := by rw [Lib.cell_of_heap hb2]; rfl
  have d1 : w2.cell? ⟨b, 1, none⟩ = some v := by rw [Lib.cell_of_heap hb2]; rfl
  have f1 : w2.frozen? ⟨b, 1, none⟩ = false := Lib.frozen_of_heap hb2 1
  obtain ⟨ao, n', cap, rfl⟩ : ∃ ao n' cap, v' = .slice ao n' cap := by
    rcases hown'.2 with ⟨hv, _⟩ | ⟨g, cap, cur, hv, _⟩
    · exact ⟨_, _, _, hv⟩
    · exact ⟨_, _, _, hv⟩
  go_wp2
  go_ret2
  refine ⟨⟨_, rfl⟩, .inr ?_, ?_⟩
  · exact Lib.BuilderAt.put (T := 81) (e := 5) hB hb2 (bs' := bs ++ Lib.strCells s) (by simpa [Lib.strCells_length] using hown') (by decide)
  · exact (hb1.appended hown hgrow (Nat.le_refl _) (by decide)).set (p := ⟨b, 1, none⟩) hb2 (by decide) hB _
theorem bd_new (w : World) : Bd w.heap.size w.heap.size [] (w.alloc (.cells #[.pointer none, .slice none 0 0] 81)) := Lib.fresh_isBuilder _ _ w
theorem str_of_any (BB b : Nat) (l : List UInt8) (w : World) (h : Bd BB b l w) (hBw : BB ≤ w.heap.size) :
    Calls Tryz.prog 32 #[.pointer (some ⟨b, 0, none⟩)] w fun e w' => e = .returned (.string (strB l)) ∧ Below BB w w' := Tryz.Builder_String_any BB b l w h hBw
end Go.Proofs.YtflklpflpjdbmaaGreatDoor

namespace Go.Proofs.YtflklpflpjdbmaaGreatDoor
open Go.RowKit
set_option linter.unusedVariables false
/-- A row of numbers in a block of its own. -/
def NumRow (w : World) (v : Value) (ns : List Nat) : Prop := ∃ g, v = .slice (some ⟨g, 0, none⟩) ns.length ns.length ∧ w.heap[g]? = some (.cells (ns.map fun (x : Nat) => Value.int .i64 (x : Int)).toArray 2 (0, 0))
theorem NumRow.tn {BB : Nat} {w w' : World} {v : Value} {ns : List Nat} (h : NumRow w v ns) (q : Tn kBd BB w w') : NumRow w' v ns := by
  obtain ⟨g, rfl, h2⟩ := h
  exact ⟨g, rfl, q.objc h2 (by decide)⟩
/-- The table of powers of ten, where nothing below BB has turned. -/
def T10 (BB : Nat) (w : World) : Prop := Lib.TabBelow Tryz.prog BB w "internal/strconv.uint64pow10" .u64 Lib.pow10Tab
theorem T10.tn {BB : Nat} {w w' : World} (h : T10 BB w) (q : Tn kBd BB w w') (hs : BB ≤ w.heap.size) : T10 BB w' := Lib.TabBelow.on h (q.below (Nat.le_refl _) hs)
theorem T10.b {BB : Nat} {w w' : World} (h : T10 BB w) (q : B w w') (hs : BB ≤ w.heap.size) : T10 BB w' := h.tn (q.tn kBd BB) hs
theorem Bd.b {BB b : Nat} {l : List UInt8} {w w' : World} (h : Bd BB b l w) (q : B w w') : Bd BB b l w' := by
  have key : ∀ p, Lib.BuilderAt 81 5 BB b p (Lib.byteCells l) w → Lib.BuilderAt 81 5 BB b p (Lib.byteCells l) w' := by
    rintro p ⟨hB, v, hv, ho, hn⟩
    exact ⟨hB, v, q.obj hv, row_keep ho q, hn⟩
  exact Or.imp (key _) (key _) h
theorem decI_le {x : Nat} (h : x ≤ 10000000000000) : (decI (x : Int)).length ≤ 20 := by
  have := decS_size h
  rw [decS_strB, strB_size] at this
  exact this
theorem fmt_any (BB x : Nat) (hx : x ≤ 10000000000000) (w : World) (ht : T10 BB w) : Calls Tryz.prog 70 #[.int .i64 (x : Int), .int .i64 10] w fun e w' => e = .returned (.string (strB (decI (x : Int)))) ∧ B w w' := by
  refine (Tryz.strconv_FormatInt_10 (x : Int) (by omega) (by omega) w (Lib.TabBelow.here ht)).mono ?_
  rintro e w' ⟨rfl, k, os, rfl⟩
  refine ⟨?_, ?_⟩
  · unfold Lib.itoa decI strB
    rw [if_neg (by omega)]
  · exact ⟨⟨rfl, rfl, rfl, by simp [Sort.grow, World.drewN], fun j hj => by rw [Sort.heap_grow_old _ _ (by simpa [World.drewN] using hj)]; rfl⟩⟩
theorem bd_size {BB b : Nat} {l : List UInt8} {w : World} (h : Bd BB b l w) : BB ≤ w.heap.size := by
  rcases h with h | h
  · exact Nat.le_trans h.1 (Nat.le_of_lt h.lt)
  · exact Nat.le_trans h.1 (Nat.le_of_lt h.lt)
theorem lineT_two (f s : List UInt8) (ns : List (List UInt8)) : lineT (f :: s :: ns) = f ++ [32] ++ s ++ (ns.flatMap fun n => 32 :: n) ++ [10] := by
  have key : ∀ (ns : List (List UInt8)) (s : List UInt8), lineT (s :: ns) = s ++ (ns.flatMap fun n => 32 :: n) ++ [10] := by
    intro ns
    induction ns with
    | nil => intro s; simp [lineT]
    | cons n ns ih => intro s; rw [lineT, ih n]; simp; simp
  rw [lineT, key ns s]
  simp
  simp
theorem num_get {ns : List Nat} {i : Nat} {x : Nat} (h : ns[i]? = some x) : (ns.map fun (x : Nat) => Value.int .i64 (x : Int)).toArray[i]? = some (.int .i64 (x : Int)) := by simp [h]
set_option maxRecDepth 100000 in
set_option maxHeartbeats 4000000 in
theorem pline_any (BB b : Nat) (l f s : List UInt8) (ns : List Nat) (v : Value) (w : World) (h : Bd BB b l w) (hv : NumRow w v ns) (ht : T10 BB w)
    (hl : l.length ≤ 900000) (hf : f.length ≤ 1000) (hs : s.length ≤ 1000) (hn : ns.length ≤ 10) (hns : ∀ x ∈ ns, x ≤ 10000000000000) :
    Calls Tryz.prog 29 #[.pointer (some ⟨b, 0, none⟩), .string (strB f), .string (strB s), v] w fun e w' => e = .returned (.tuple #[]) ∧ Bd BB b (l ++ lineT (f :: s :: ns.map fun (x : Nat) => decI (x : Int))) w' ∧ Tn kBd BB w w' := by
  obtain ⟨g, rfl, _⟩ := id hv
  obtain ⟨LL, hLL⟩ : ∃ LL, l ++ lineT (f :: s :: ns.map fun (x : Nat) => decI (x : Int)) = LL := ⟨_, rfl⟩
  rw [hLL]
  rw [lineT_two, List.flatMap_map] at hLL
  have HL := Lib.hid hLL
  clear hLL
  have c1 := wstr_any BB b l f w h (by omega) (by omega) (bd_size h)
  go_enter Tryz.func29, Tryz.ntmps29
  go_wp2_with fail
  refine c1.mono ?_
  rintro _ w1 ⟨⟨n1, rfl⟩, h1, t1⟩
  clear c1
  have c2 := wbyte_any BB b (l ++ f) 32 w1 h1 (by simp; omega) (bd_size h1)
  go_wp2_with fail
  refine c2.mono ?_
  rintro _ w2 ⟨rfl, h2, t2⟩
  clear c2
  have c3 := wstr_any BB b (l ++ f ++ [32]) s w2 h2 (by simp; omega) (by omega) (bd_size h2)
  go_wp2_with fail
  refine c3.mono ?_
  rintro _ w3 ⟨⟨n3, rfl⟩, h3, t3⟩
  clear c3
  have t03 := (t1.trans t2).trans t3
  go_wp2
  go_loopw [20] (fun iv wr => ∃ (i : Nat), i ≤ ns.length ∧ iv = .int .i64 i ∧ Bd BB b (l ++ f ++ [32] ++ s ++ ((ns.take i).flatMap fun (x : Nat) => 32 :: decI (x : Int))) wr ∧ ((ns.take i).flatMap fun (x : Nat) => 32 :: decI (x : Int)).length ≤ 21 * i ∧ Tn kBd BB w wr) (fun iv _ => ns.length + 1 - (intOf iv).toNat)
  case atStart => exact ⟨0, Nat.zero_le _, rfl, by simpa using h3, by simp, t03⟩
  case round =>
    obtain ⟨i, hi, rfl, hB, hsz, tt⟩ := hrel
    obtain ⟨wo, rfl⟩ : ∃ wo : World, wo = wr := ⟨_, rfl⟩
    by_cases hlt : i < ns.length
    · have hlB : decide ((i : Int) < (ns.length : Int)) = true := decide_eq_true (by omega)
      have hlI : (i : Int) < (ns.length : Int) := by omega
      have hi0 : (0 : Int) ≤ (i : Int) := by omega
      have wk1 : IntKind.i64.wrap ((i : Int) + 1) = (i : Int) + 1 := by rw [IntKind.wrap_i64]; omega
      obtain ⟨x, hx⟩ : ∃ x, ns[i]? = some x := ⟨_, List.getElem?_eq_getElem hlt⟩
      have hx13 := hns x (List.mem_of_getElem? hx)
      have oN := hv.tn tt
      obtain ⟨g', e1, o1⟩ := oN
      obtain rfl : g = g' := by simpa using e1
      have cx : wo.cell? ⟨g, i, none⟩ = some (.int .i64 (x : Int)) := by rw [obj_cell o1]; exact num_get hx
      have tt0 : T10 BB wo := ht.tn tt (bd_size h)
      generalize hT : ((ns.take i).flatMap fun (x : Nat) => 32 :: decI (x : Int)) = T at *
      have hT1 : ((ns.take (i + 1)).flatMap fun (x : Nat) => 32 :: decI (x : Int)) = T ++ 32 :: decI (x : Int) := by rw [take_flat hx, hT]
      have hd := decI_le hx13
      have c1 := wbyte_any BB b _ 32 wo hB (by simp; omega) (bd_size hB)
      go_wp2_with fail
      refine c1.mono ?_
      rintro _ w5 ⟨rfl, h5, t5⟩
      clear c1
      have c2 := fmt_any BB x hx13 w5 (tt0.tn t5 (bd_size hB))
      go_wp2_with fail
      refine c2.mono ?_
      rintro _ w6 ⟨rfl, q6⟩
      clear c2
      have h6 := h5.b q6
      have c3 := wstr_any BB b _ (decI (x : Int)) w6 h6 (by simp; omega) (by omega) (bd_size h6)
      go_wp2_with fail
      refine c3.mono ?_
      rintro _ w7 ⟨⟨n7, rfl⟩, h7, t7⟩
      clear c3
      go_wp2
      have t67 := (t5.trans (q6.tn kBd BB)).trans t7
      refine ⟨⟨i + 1, by omega, by go_num, ?_, ?_, tt.trans t67⟩, by simp [intOf]; omega⟩
      · rw [hT1]
        simpa using h7
      · rw [hT1]
        simp only [List.length_append, List.length_cons]
        omega
    · obtain rfl : i = ns.length := by omega
      have hlB : decide ((ns.length : Int) < (ns.length : Int)) = false := decide_eq_false (by omega)
      rw [List.take_length] at hB hsz
      generalize hT : (ns.flatMap fun (x : Nat) => 32 :: decI (x : Int)) = T at *
      have c1 := wbyte_any BB b _ 10 wo hB (by simp; omega) (bd_size hB)
      go_wp2_with fail
      refine c1.mono ?_
      rintro _ w5 ⟨rfl, h5, t5⟩
      clear c1
      go_wp2
      go_end0
      have hLL := HL.out
      refine ⟨rfl, ?_, tt.trans t5⟩
      rw [← hLL]
      simpa using h5
end Go.Proofs.YtflklpflpjdbmaaGreatDoor
