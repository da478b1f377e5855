/-
 Contracts and what they rest on.
-/
import Derived.Test.YtglniapfnhedoaaGreatDoorChecked
import Derived.Deep.QuietTactic
import Derived.BigQuiet
import Derived.Laws.StructEq
import Derived.Lib.Hide
import Derived.KernelRfl
import Derived.Test.YtglniapfnhedoaaGreatDoorY25
namespace Go.Proofs.YtglniapfnhedoaaGreatDoor
open Go.RowKit
set_option linter.unusedVariables false
theorem part_low {c : Nat} (h : lowN c = true) : partN c = true := by unfold partN; rw [h]; rfl
theorem part_dig {c : Nat} (h : digN c = true) : partN c = true := by unfold partN; rw [h]; simp
theorem part_cap {c : Nat} (h : 65 ≤ c ∧ c ≤ 90) : partN c = true := by unfold partN capN; simp; omega
theorem part_dec (x : Int) : partW (decI x) := by
 unfold decI
 refine ⟨fun e => ?_, fun c hc => ?_⟩
 ·have := dec_lng x.toNat
  rw [e] at this
  simp at this
 ·have := dec_dgs x.toNat x.toNat (Nat.le_refl _) c hc
  exact part_dig (by unfold digN; simp; omega)
theorem part_name {n : ByteArray} (h : nameS n = true) : partW n.data.toList := by
 unfold nameS at h
 simp only [Bool.and_eq_true, decide_eq_true_eq, List.all_eq_true, Bool.or_eq_true] at h
 obtain ⟨⟨⟨h1, _⟩, _⟩, h4⟩ := h
 have e : n.data.toList.length = n.size := Array.length_toList
 refine ⟨fun h0 => by rw [h0] at e; simp at e; omega, fun c hc => ?_⟩
 obtain ⟨i, hi, rfl⟩ := List.getElem_of_mem hc
 have hi' : i < n.size := by omega
 have h5 := h4 i (List.mem_range.2 hi')
 have hb : (n.data.toList[i]).toNat = byteAt n i := by
  rw [← byteAt_get n i hi']
  congr 1
 rw [hb]
 rcases h5 with h5 | h5
 ·exact part_low h5
 ·exact part_dig h5
theorem part_well {n : ByteArray} {r c : Int} (h : (wellT n r c).isEmpty = false) : partW (wellT n r c) := by
 unfold wellT at h ⊢
 split at h
 ·rename_i hk
  rw [if_pos hk]
  obtain ⟨hn, h0, h8, _, _⟩ := hk
  have k1 := part_name hn
  have k2 := part_dec (c + 1)
  refine ⟨by simp, fun x hx => ?_⟩
  simp only [List.mem_append, List.mem_cons, List.not_mem_nil, or_false] at hx
  rcases hx with (hx | rfl | rfl) | hx
  ·exact k1.2 x hx
  ·rfl
  ·refine part_cap ?_
   have e : (UInt8.ofNat (65 + r.toNat)).toNat = 65 + r.toNat := by rw [UInt8.toNat_ofNat']; omega
   rw [e]
   omega
  ·exact k2.2 x hx
 ·simp at h
theorem part_const {l : List UInt8} (h : (!l.isEmpty && l.all fun c => partN c.toNat) = true) : partW l := by
 simp only [Bool.and_eq_true, List.all_eq_true] at h
 refine ⟨fun e => by rw [e] at h; simp at h, h.2⟩
theorem sec_words (s : Sec) : secL s ≠ [] ∧ ∀ w ∈ secL s, partW w := by
 unfold secL
 split
 ·refine ⟨by simp, fun w hw => ?_⟩
  simp only [List.mem_cons, List.not_mem_nil, or_false] at hw
  rcases hw with rfl | rfl | rfl | rfl
  ·exact part_const (by decide)
  all_goals exact part_dec _
 ·refine ⟨by simp, fun w hw => ?_⟩
  simp only [List.mem_cons, List.not_mem_nil, or_false] at hw
  rcases hw with rfl | rfl | rfl | rfl | rfl | rfl
  ·exact part_const (by decide)
  all_goals exact part_dec _
theorem rec_words {k : List UInt8} (hk : partW k) {r : Wr} (hn : nameS r.n = true) : ∀ l ∈ recL k r, l ≠ [] ∧ ∀ w ∈ l, partW w := by
 intro l hl
 unfold recL at hl
 rcases List.mem_cons.1 hl with rfl | hl
 ·refine ⟨by simp, fun w hw => ?_⟩
  simp only [List.mem_cons, List.not_mem_nil, or_false] at hw
  rcases hw with rfl | rfl | rfl | rfl | rfl
  ·exact hk
  ·exact part_name hn
  all_goals exact part_dec _
 ·obtain ⟨s, _, rfl⟩ := List.mem_map.1 hl
  exact sec_words s
theorem deck_words {d : Dk} (h : rightD d = true) : ∀ l ∈ deckL d, l ≠ [] ∧ ∀ w ∈ l, partW w := by
 have hf := (right_parts h).2.2.2.2
 unfold rightD at h
 simp only [Bool.and_eq_true, decide_eq_true_eq] at h
 obtain ⟨⟨⟨⟨_, _⟩, h3⟩, h4⟩, _⟩ := h
 rw [apartW_iff] at h3 h4
 intro l hl
 unfold deckL at hl
 rcases List.mem_append.1 hl with hl | hl
 ·rcases List.mem_append.1 hl with hl | hl
  ·obtain ⟨r, hr, hl⟩ := List.mem_flatMap.1 hl
   obtain ⟨i, hi⟩ := List.getElem?_of_mem hr
   have hk := (h3 i r hi).1
   unfold wareOk at hk
   simp only [Bool.and_eq_true] at hk
   exact rec_words (part_const (by decide)) hk.1.1.1.1 l hl
  ·obtain ⟨r, hr, hl⟩ := List.mem_flatMap.1 hl
   obtain ⟨i, hi⟩ := List.getElem?_of_mem hr
   have hk := (h4 i r hi).1
   unfold tipOk at hk
   simp only [Bool.and_eq_true] at hk
   exact rec_words (part_const (by decide)) hk.1.1.1.1 l hl
 ·obtain ⟨f, hfm, rfl⟩ := List.mem_map.1 hl
  obtain ⟨n1, n2, n3, _, _⟩ := hf f hfm
  unfold fillL
  refine ⟨by simp, fun w hw => ?_⟩
  simp only [List.mem_cons, List.not_mem_nil, or_false] at hw
  rcases hw with rfl | rfl | rfl
  ·exact part_const (by decide)
  ·refine part_well ?_
   unfold wellT
   rw [if_pos ⟨n1, n2.1, n2.2, n3.1, n3.2⟩]
   simp
  ·exact part_dec _
end Go.Proofs.YtglniapfnhedoaaGreatDoor
namespace Go.Proofs.YtglniapfnhedoaaGreatDoor
open Go.RowKit
set_option linter.unusedVariables false
theorem wellT_len9 (n : ByteArray) (r c : Int) : (wellT n r c).length ≤ 50 := by
 unfold wellT
 split
 ·rename_i h
  obtain ⟨hn, h0, h8, c0, c12⟩ := h
  obtain ⟨k, rfl⟩ := Int.eq_ofNat_of_zero_le c0
  have := decS_size (n := k + 1) (by omega)
  rw [decS_strB, strB_size, show (((k + 1 : Nat) : Int)) = (k : Int) + 1 by omega] at this
  have hz : n.data.toList.length ≤ 24 := by
   have e : n.data.toList.length = n.size := Array.length_toList
   rw [e]
   unfold nameS at hn
   have h16 := of_decide_eq_true (Bool.and_eq_true_iff.1 (Bool.and_eq_true_iff.1 (Bool.and_eq_true_iff.1 hn).1).1).2
   omega
  simp only [List.length_append, List.length_cons, List.length_nil]
  omega
 ·simp
theorem lineT_words : ∀ (w : List UInt8) (ws : List (List UInt8)), lineT (w :: ws) = w ++ (ws.flatMap fun x => 32 :: x) ++ [10]
 | w, [] => by simp [lineT]
 | w, x :: ws => by
  have h := lineT_words x ws
  show w ++ 32 :: lineT (x :: ws) = _
  rw [h]
  simp
theorem decI_len {x : Nat} (h : x ≤ 10000000000000) : (decI (x : Int)).length ≤ 20 := by
 have := decS_size h
 rw [decS_strB, strB_size] at this
 exact this
theorem fill_len {f : Fl} (hv : 0 ≤ f.v ∧ f.v ≤ 20000000) : (lineT (fillL f)).length ≤ 100 := by
 unfold fillL
 rw [lineT_words]
 have hw := wellT_len9 f.n f.r f.c
 obtain ⟨n, hn⟩ := Int.eq_ofNat_of_zero_le hv.1
 have hd := decI_len (x := n) (by omega)
 rw [hn]
 have hk : kFill.length = 4 := rfl
 simp only [List.flatMap_cons, List.flatMap_nil, List.length_append, List.length_cons, List.length_nil]
 omega
theorem lineT_ge (l : List (List UInt8)) : l.length ≤ (lineT l).length + 0 ∧ 1 ≤ (lineT l).length ∧ ∀ x ∈ l, x.length ≤ (lineT l).length := by
 cases l with
 | nil => exact ⟨by simp, by decide, fun x hx => by simp at hx⟩
 | cons w ws =>
  rw [lineT_words]
  have h : ∀ ws : List (List UInt8), ws.length ≤ (ws.flatMap fun x => 32 :: x).length ∧ ∀ x ∈ ws, x.length ≤ (ws.flatMap fun x => 32 :: x).length := by
   intro ws
   induction ws with
   | nil => exact ⟨by simp, fun x hx => by simp at hx⟩
   | cons y ws ih =>
    rw [List.flatMap_cons, List.length_append, List.length_cons, List.length_cons]
    refine ⟨by omega, fun x hx => ?_⟩
    rw [List.mem_cons] at hx
    rcases hx with rfl | hx
    ·omega
    ·have := ih.2 x hx; omega
  obtain ⟨h1, h2⟩ := h ws
  simp only [List.length_append, List.length_cons, List.length_nil]
  refine ⟨by omega, by omega, fun x hx => ?_⟩
  rw [List.mem_cons] at hx
  rcases hx with rfl | hx
  ·omega
  ·have := h2 x hx; omega
theorem flat_ge : ∀ (L : List (List (List UInt8))), L.length ≤ (L.flatMap lineT).length ∧ ∀ l ∈ L, (lineT l).length ≤ (L.flatMap lineT).length
 | [] => ⟨by simp, fun l hl => by simp at hl⟩
 | l :: L => by
  obtain ⟨h1, h2⟩ := flat_ge L
  have h3 := (lineT_ge l).2.1
  rw [List.flatMap_cons, List.length_append, List.length_cons]
  refine ⟨by omega, fun x hx => ?_⟩
  rw [List.mem_cons] at hx
  rcases hx with rfl | hx
  ·omega
  ·have := h2 x hx; omega
theorem said_parts {L : List (List (List UInt8))} (hne : ∀ l ∈ L, l ≠ []) (hlen : (L.flatMap lineT).length ≤ 65536) (p : Nat) :
  (∀ ws ∈ placeL p L, 0 < ws.length) ∧ (placeL p L).length ≤ 65536 ∧ (∀ ws ∈ placeL p L, ws.length ≤ 65536) ∧ ∀ ws ∈ placeL p L, ∀ x ∈ ws, x.2.length ≤ 65536 := by
 obtain ⟨g1, g2⟩ := flat_ge L
 have ht := placeL_texts p L
 have hm : ∀ ws ∈ placeL p L, ws.map Prod.snd ∈ L := fun ws hws => by
  have := List.mem_map_of_mem (f := List.map Prod.snd) hws
  rw [ht] at this
  exact this
 refine ⟨fun ws hws => ?_, ?_, fun ws hws => ?_, fun ws hws x hx => ?_⟩
 ·have := hne _ (hm ws hws)
  cases ws with
  | nil => exact absurd rfl this
  | cons => simp
 ·have := congrArg List.length ht
  rw [List.length_map] at this
  omega
 ·have h1 := (lineT_ge (ws.map Prod.snd)).1
  have h2 := g2 _ (hm ws hws)
  rw [List.length_map] at h1
  omega
 ·have h1 := (lineT_ge (ws.map Prod.snd)).2.2 x.2 (List.mem_map_of_mem (f := Prod.snd) hx)
  have h2 := g2 _ (hm ws hws)
  omega
theorem textD_len2 {d : Dk} (h : rightD d = true) (hf : d.fs.length ≤ 40) : (textD d).length ≤ 16000 := by
 obtain ⟨h1, h2, h3, h4, h5⟩ := right_parts h
 unfold textD
 rw [if_pos h, deck_text]
 have a1 := flat_len9 (recT kWare) 1000 d.ws (fun r hr => by obtain ⟨x, y, z, e⟩ := h3 r hr; exact recT_len (by decide) e)
 have a2 := flat_len9 (recT kTip) 1000 d.ts (fun r hr => by obtain ⟨x, y, z, e⟩ := h4 r hr; exact recT_len (by decide) e)
 have a3 := flat_len9 (fun f => lineT (fillL f)) 100 d.fs (fun f hf => fill_len (h5 f hf).2.2.2)
 rw [List.length_append, List.length_append]
 omega
theorem deck_back {d : Dk} (h : rightD d = true) (hf : d.fs.length ≤ 40) : ∃ LL, linesB (textD d) = (LL, 0, 0) ∧ parseD LL dk0 0 0 = (d, [], 0, 0) ∧
  (∀ ws ∈ LL, 0 < ws.length) ∧ LL.length ≤ 65536 ∧ (∀ ws ∈ LL, ws.length ≤ 65536) ∧ (∀ ws ∈ LL, ∀ x ∈ ws, x.2.length ≤ 65536) ∧ (textD d).length ≤ 65536 := by
 have hlen := textD_len2 h hf
 have e : textD d = (deckL d).flatMap lineT := by unfold textD; rw [if_pos h]
 have hw := deck_words h
 have hl : ((deckL d).flatMap lineT).length ≤ 65536 := by rw [← e]; omega
 have hs := lines_said hw hl
 have hp := said_parts (fun x hx => (hw x hx).1) hl 0
 have hb := deck_said h 0 (L := []) (.inl rfl)
 rw [List.append_nil] at hb
 rw [e]
 exact ⟨_, hs, hb, hp.1, hp.2.1, hp.2.2.1, hp.2.2.2, hl⟩
end Go.Proofs.YtglniapfnhedoaaGreatDoor
namespace Go.Proofs.YtglniapfnhedoaaGreatDoor
open Go.RowKit
theorem secs_at {w : World} {v : Value} {l : List Sec} (h : IsSecs w v l) {i : Nat} {s : Sec} (hs : l[i]? = some s) : ∃ a, (∃ cap, v = .slice (some a) l.length cap) ∧ SecAt w (a.add (i * 6)) s := by
 rcases h with ⟨_, rfl⟩ | ⟨a, cap, h1, _, _, h4⟩
 ·simp at hs
 ·exact ⟨a, ⟨cap, h1⟩, (h4 i s hs).2⟩
theorem secs_len {w : World} {v : Value} {l : List Sec} (h : IsSecs w v l) : l.length ≤ 9223372036854775807 := by
 rcases h with ⟨_, rfl⟩ | ⟨a, cap, _, h2, h3, _⟩
 ·simp
 ·exact len_max h2 h3
theorem fls_at {w : World} {v : Value} {l : List Fl} (h : IsFls w v l) {i : Nat} {s : Fl} (hs : l[i]? = some s) : ∃ a, (∃ cap, v = .slice (some a) l.length cap) ∧ FlAt w (a.add (i * 4)) s := by
 rcases h with ⟨_, rfl⟩ | ⟨a, cap, h1, _, _, h4⟩
 ·simp at hs
 ·exact ⟨a, ⟨cap, h1⟩, h4 i s hs⟩
set_option maxHeartbeats 2000000 in
theorem sections_any (v1 v2 : Value) (l : List Sec) (w : World) (h1 : IsSecs w v1 l) (h2 : IsSecs w v2 l) : Calls Tryz.prog 49 #[v1, v2] w fun e w' => e = .returned (.bool true) ∧ Dr w w' := by
 obtain ⟨ao, ac, rfl⟩ := secs_form h1
 obtain ⟨bo, bc, rfl⟩ := secs_form h2
 have hlen := secs_len h1
 go_enter Tryz.func49, Tryz.ntmps49
 go_wp2
 go_loopw [5] (fun iv wr => ∃ i : Nat, i ≤ l.length ∧ iv = .int .i64 i ∧ Dr w wr) (fun iv _ => l.length + 1 - (intOf iv).toNat)
 case atStart => exact ⟨0, by omega, rfl, Dr.refl _⟩
 case round =>
  obtain ⟨i, hi, rfl, hD⟩ := hrel
  obtain ⟨wo, rfl⟩ : ∃ wo : World, wo = wr := ⟨_, rfl⟩
  by_cases hl : i < l.length
  ·have hlB : decide ((i : Int) < (l.length : Int)) = true := decide_eq_true (by omega)
   have hlI : (i : Int) < (l.length : Int) := by omega
   have hi0 : (0 : Int) ≤ (i : Int) := by omega
   have wk1 : IntKind.i64.wrap ((i : Int) + 1) = (i : Int) + 1 := by rw [IntKind.wrap_i64]; omega
   obtain ⟨F, hF⟩ : ∃ F, l[i]? = some F := ⟨_, List.getElem?_eq_getElem hl⟩
   obtain ⟨a, e1, g1⟩ := secs_at (h1.keepB hD.q.b) hF
   obtain ⟨b, e2, g2⟩ := secs_at (h2.keepB hD.q.b) hF
   obtain ⟨rfl, _⟩ : ao = some a ∧ True := by simpa using e1
   obtain ⟨rfl, _⟩ : bo = some b ∧ True := by simpa using e2
   obtain ⟨a0, a1, a2, a3, a4, a5⟩ := g1
   obtain ⟨b0, b1, b2, b3, b4, b5⟩ := g2
   obtain ⟨x0, x1, x2, x3, x4, x5⟩ := F
   simp only at a0 a1 a2 a3 a4 a5 b0 b1 b2 b3 b4 b5
   have HL := Lib.hid hl
   replace hD := Lib.hid hD
   clear h1 h2 hF e1 e2
   go_wp2_with fail
   go_quiet (fail)
   go_wp2
   go_roundw
   case rel => exact ⟨i + 1, by have := HL.out; omega, by go_num, hD.out.trans ⟨_, rfl⟩⟩
   case measure => have := HL.out; simp [intOf]; omega
  ·have hlB : decide ((i : Int) < (l.length : Int)) = false := decide_eq_false (by omega)
   replace hD := Lib.hid hD
   clear h1 h2
   go_wp2
   go_ret
   exact ⟨rfl, hD.out⟩
set_option maxHeartbeats 2000000 in
theorem fills_any (v1 v2 : Value) (l : List Fl) (w : World) (h1 : IsFls w v1 l) (h2 : IsFls w v2 l) : Calls Tryz.prog 48 #[v1, v2] w fun e w' => e = .returned (.bool true) ∧ Dr w w' := by
 obtain ⟨ao, ac, rfl⟩ := h1.form
 obtain ⟨bo, bc, rfl⟩ := h2.form
 have hlen := h1.len
 go_enter Tryz.func48, Tryz.ntmps48
 go_wp2
 go_loopw [5] (fun iv wr => ∃ i : Nat, i ≤ l.length ∧ iv = .int .i64 i ∧ Dr w wr) (fun iv _ => l.length + 1 - (intOf iv).toNat)
 case atStart => exact ⟨0, by omega, rfl, Dr.refl _⟩
 case round =>
  obtain ⟨i, hi, rfl, hD⟩ := hrel
  obtain ⟨wo, rfl⟩ : ∃ wo : World, wo = wr := ⟨_, rfl⟩
  by_cases hl : i < l.length
  ·have hlB : decide ((i : Int) < (l.length : Int)) = true := decide_eq_true (by omega)
   have hlI : (i : Int) < (l.length : Int) := by omega
   have hi0 : (0 : Int) ≤ (i : Int) := by omega
   have wk1 : IntKind.i64.wrap ((i : Int) + 1) = (i : Int) + 1 := by rw [IntKind.wrap_i64]; omega
   obtain ⟨F, hF⟩ : ∃ F, l[i]? = some F := ⟨_, List.getElem?_eq_getElem hl⟩
   obtain ⟨a, e1, g1⟩ := fls_at (h1.keepB hD.q.b) hF
   obtain ⟨b, e2, g2⟩ := fls_at (h2.keepB hD.q.b) hF
   obtain ⟨rfl, _⟩ : ao = some a ∧ True := by simpa using e1
   obtain ⟨rfl, _⟩ : bo = some b ∧ True := by simpa using e2
   obtain ⟨a0, a1, a2, a3⟩ := g1
   obtain ⟨b0, b1, b2, b3⟩ := g2
   obtain ⟨x0, x1, x2, x3⟩ := F
   simp only at a0 a1 a2 a3 b0 b1 b2 b3
   have HL := Lib.hid hl
   replace hD := Lib.hid hD
   clear h1 h2 hF e1 e2
   go_wp2_with fail
   go_quiet (fail)
   go_wp2
   go_roundw
   case rel => exact ⟨i + 1, by have := HL.out; omega, by go_num, hD.out.trans ⟨_, rfl⟩⟩
   case measure => have := HL.out; simp [intOf]; omega
  ·have hlB : decide ((i : Int) < (l.length : Int)) = false := decide_eq_false (by omega)
   replace hD := Lib.hid hD
   clear h1 h2
   go_wp2
   go_ret
   exact ⟨rfl, hD.out⟩
end Go.Proofs.YtglniapfnhedoaaGreatDoor
namespace Go.Proofs.YtglniapfnhedoaaGreatDoor
open Go.RowKit
theorem helptip_any (n : ByteArray) (x y z : Int) (v1 v2 : Value) (l : List Sec) (w : World) (h1 : IsSecs w v1 l) (h2 : IsSecs w v2 l) : Calls Tryz.prog 50 #[.agg #[.string n, .int .i64 x, .int .i64 y, .int .i64 z, v1], .agg #[.string n, .int .i64 x, .int .i64 y, .int .i64 z, v2]] w fun e w' => e = .returned (.bool true) ∧ Q w w' := by
 have q1 := (Q.refl w).alloc #[.string n, .int .i64 x, .int .i64 y, .int .i64 z, v1] 35
 have hQ := q1.alloc #[.string n, .int .i64 x, .int .i64 y, .int .i64 z, v2] 35
 have ht := sections_any v1 v2 l _ (h1.keepB hQ.b) (h2.keepB hQ.b)
 replace hQ := Lib.hid hQ
 clear q1 h1 h2
 go_enter Tryz.func50, Tryz.ntmps50
 go_wp2_with fail
 refine (Calls.mono ht ?_)
 rintro _ w1 ⟨rfl, hD⟩
 go_wp2
 go_ret
 exact ⟨rfl, hQ.out.dr hD⟩
set_option maxHeartbeats 2000000 in
theorem helpdeck_any (wv tv fv wv2 tv2 fv2 : Value) (d : Dk) (w : World) (h1 : IsDk w wv tv fv d) (h2 : IsDk w wv2 tv2 fv2 d) : Calls Tryz.prog 14 #[.agg #[wv, tv, fv], .agg #[wv2, tv2, fv2]] w fun e w' => e = .returned (.bool true) ∧ Q w w' := by
 obtain ⟨ao, ac, bo, bc, co, cc, rfl, rfl, rfl⟩ := h1.forms
 obtain ⟨ao2, ac2, bo2, bc2, co2, cc2, rfl, rfl, rfl⟩ := h2.forms
 have q1 := (Q.refl w).alloc #[.slice ao d.ws.length ac, .slice bo d.ts.length bc, .slice co d.fs.length cc] 26
 have hQ := q1.alloc #[.slice ao2 d.ws.length ac2, .slice bo2 d.ts.length bc2, .slice co2 d.fs.length cc2] 26
 obtain ⟨W, hW⟩ : ∃ W, (w.alloc (.cells #[.slice ao d.ws.length ac, .slice bo d.ts.length bc, .slice co d.fs.length cc] 26)).alloc (.cells #[.slice ao2 d.ws.length ac2, .slice bo2 d.ts.length bc2, .slice co2 d.fs.length cc2] 26) = W := ⟨_, rfl⟩
 have e1 : (w.alloc (.cells #[.slice ao d.ws.length ac, .slice bo d.ts.length bc, .slice co d.fs.length cc] 26)).heap.size = w.heap.size + 1 := by simp
 have k0 : W.cell? ⟨w.heap.size, 0, none⟩ = some (.slice ao d.ws.length ac) := by rw [← hW]; exact ((Q.refl _).alloc _ _).keep (by rw [World.cell?_alloc_new]; rfl)
 have k1 : W.cell? ⟨w.heap.size, 1, none⟩ = some (.slice bo d.ts.length bc) := by rw [← hW]; exact ((Q.refl _).alloc _ _).keep (by rw [World.cell?_alloc_new]; rfl)
 have k2 : W.cell? ⟨w.heap.size, 2, none⟩ = some (.slice co d.fs.length cc) := by rw [← hW]; exact ((Q.refl _).alloc _ _).keep (by rw [World.cell?_alloc_new]; rfl)
 have l0 : W.cell? ⟨w.heap.size + 1, 0, none⟩ = some (.slice ao2 d.ws.length ac2) := by rw [← hW, ← e1, World.cell?_alloc_new]; rfl
 have l1 : W.cell? ⟨w.heap.size + 1, 1, none⟩ = some (.slice bo2 d.ts.length bc2) := by rw [← hW, ← e1, World.cell?_alloc_new]; rfl
 have l2 : W.cell? ⟨w.heap.size + 1, 2, none⟩ = some (.slice co2 d.fs.length cc2) := by rw [← hW, ← e1, World.cell?_alloc_new]; rfl
 rw [hW] at hQ
 have hD1 := h1.keepB hQ.b
 have hD2 := h2.keepB hQ.b
 have hf := fills_any _ _ d.fs W hD1.fs hD2.fs
 have n0 : ((d.ws.length : Int) != (d.ws.length : Int)) = false := by simp
 have n1 : ((d.ts.length : Int) != (d.ts.length : Int)) = false := by simp
 have hlen0 := h1.ws.len
 have hlen1 := h1.ts.len
 replace hQ := Lib.hid hQ
 clear q1 h1 h2 e1
 go_enter Tryz.func14, Tryz.ntmps14
 go_wp2_with fail
 try rw [hW]
 refine (Calls.mono hf ?_)
 rintro _ W1 ⟨rfl, hd⟩
 have hq := hd.q
 replace k0 := hq.keep k0
 replace k1 := hq.keep k1
 replace k2 := hq.keep k2
 replace l0 := hq.keep l0
 replace l1 := hq.keep l1
 replace l2 := hq.keep l2
 replace hD1 := hD1.keepB hq.b
 replace hD2 := hD2.keepB hq.b
 replace hQ := Lib.hid (hQ.out.trans hq)
 clear hq hd hW
 go_wp2
 generalize w.heap.size = H at *
 go_loopw [5] (fun iv wr => ∃ i : Nat, i ≤ d.ws.length ∧ iv = .int .i64 i ∧ Q W1 wr) (fun iv _ => d.ws.length + 1 - (intOf iv).toNat)
 case atStart => exact ⟨0, Nat.zero_le _, rfl, Q.refl _⟩
 case round =>
  obtain ⟨i, hi, rfl, hQi⟩ := hrel
  obtain ⟨wo, rfl⟩ : ∃ wo : World, wo = wr := ⟨_, rfl⟩
  replace k0 := hQi.keep k0
  replace k1 := hQi.keep k1
  replace k2 := hQi.keep k2
  replace l0 := hQi.keep l0
  replace l1 := hQi.keep l1
  replace l2 := hQi.keep l2
  replace hD1 := hD1.keepB hQi.b
  replace hD2 := hD2.keepB hQi.b
  replace hQ := Lib.hid (hQ.out.trans hQi)
  by_cases hl : i < d.ws.length
  ·have hlB : decide ((i : Int) < (d.ws.length : Int)) = true := decide_eq_true (by omega)
   have hlI : (i : Int) < (d.ws.length : Int) := by omega
   have hi0 : (0 : Int) ≤ (i : Int) := by omega
   have wk1 : IntKind.i64.wrap ((i : Int) + 1) = (i : Int) + 1 := by rw [IntKind.wrap_i64]; omega
   obtain ⟨a, cap, e1, _, _, hr⟩ := hD1.ws.at_ hl
   obtain ⟨rfl, _, rfl⟩ : ao = some a ∧ True ∧ ac = cap := by simpa using e1
   obtain ⟨b, cap2, e2, _, _, hs⟩ := hD2.ws.at_ hl
   obtain ⟨rfl, _, rfl⟩ : ao2 = some b ∧ True ∧ ac2 = cap2 := by simpa using e2
   generalize d.ws[i] = F at *
   obtain ⟨N, X, Y, Z, SL⟩ := F
   obtain ⟨a1, a2, a3, a4, sv, a5, a6⟩ := hr
   obtain ⟨b1, b2, b3, b4, su, b5, b6⟩ := hs
   simp only at a1 a2 a3 a4 a5 a6 b1 b2 b3 b4 b5 b6
   obtain ⟨so, sc, rfl⟩ := secs_form a6
   obtain ⟨uo, uc, rfl⟩ := secs_form b6
   obtain ⟨sn, hsn⟩ : ∃ sn, SL.length = sn := ⟨_, rfl⟩
   rw [hsn] at a5 b5
   have HL := Lib.hid hl
   clear e1 e2 hi
   have s0 := World.block_lt_of_cell? _ _ k0
   have s1 := World.block_lt_of_cell? _ _ l0
   have s2 := World.block_lt_of_cell? _ _ a1
   have s3 := World.block_lt_of_cell? _ _ b1
   go_wp2_with fail
   go_region
   ·obtain ⟨W2, hW2⟩ : ∃ W2, ((wo.alloc (.cells #[.string N, .int .i64 X, .int .i64 Y, .int .i64 Z, .slice so sn sc] 33)).alloc (.cells #[.string N, .int .i64 X, .int .i64 Y, .int .i64 Z, .slice uo sn uc] 33)).drew = W2 := ⟨_, rfl⟩
    have z1 : (wo.alloc (.cells #[.string N, .int .i64 X, .int .i64 Y, .int .i64 Z, .slice so sn sc] 33)).heap.size = wo.heap.size + 1 := by simp
    have q2 : Q wo W2 := by rw [← hW2]; exact (((Q.refl wo).alloc #[.string N, .int .i64 X, .int .i64 Y, .int .i64 Z, .slice so sn sc] 33).alloc #[.string N, .int .i64 X, .int .i64 Y, .int .i64 Z, .slice uo sn uc] 33).drew
    have p0 : W2.cell? ⟨wo.heap.size, 0, none⟩ = some (.string N) := by rw [← hW2, World.cell?_drew]; exact ((Q.refl _).alloc _ _).keep (by rw [World.cell?_alloc_new]; rfl)
    have r0 : W2.cell? ⟨wo.heap.size + 1, 0, none⟩ = some (.string N) := by rw [← hW2, World.cell?_drew, ← z1, World.cell?_alloc_new]; rfl
    have p1 : W2.cell? ⟨wo.heap.size, 1, none⟩ = some (.int .i64 X) := by rw [← hW2, World.cell?_drew]; exact ((Q.refl _).alloc _ _).keep (by rw [World.cell?_alloc_new]; rfl)
    have r1 : W2.cell? ⟨wo.heap.size + 1, 1, none⟩ = some (.int .i64 X) := by rw [← hW2, World.cell?_drew, ← z1, World.cell?_alloc_new]; rfl
    have p2 : W2.cell? ⟨wo.heap.size, 2, none⟩ = some (.int .i64 Y) := by rw [← hW2, World.cell?_drew]; exact ((Q.refl _).alloc _ _).keep (by rw [World.cell?_alloc_new]; rfl)
    have r2 : W2.cell? ⟨wo.heap.size + 1, 2, none⟩ = some (.int .i64 Y) := by rw [← hW2, World.cell?_drew, ← z1, World.cell?_alloc_new]; rfl
    have p3 : W2.cell? ⟨wo.heap.size, 3, none⟩ = some (.int .i64 Z) := by rw [← hW2, World.cell?_drew]; exact ((Q.refl _).alloc _ _).keep (by rw [World.cell?_alloc_new]; rfl)
    have r3 : W2.cell? ⟨wo.heap.size + 1, 3, none⟩ = some (.int .i64 Z) := by rw [← hW2, World.cell?_drew, ← z1, World.cell?_alloc_new]; rfl
    have p4 : W2.cell? ⟨wo.heap.size, 4, none⟩ = some (.slice so sn sc) := by rw [← hW2, World.cell?_drew]; exact ((Q.refl _).alloc _ _).keep (by rw [World.cell?_alloc_new]; rfl)
    have r4 : W2.cell? ⟨wo.heap.size + 1, 4, none⟩ = some (.slice uo sn uc) := by rw [← hW2, World.cell?_drew, ← z1, World.cell?_alloc_new]; rfl
    have hs := sections_any _ _ SL W2 (a6.keepB q2.b) (b6.keepB q2.b)
    rw [hsn] at hs
    replace k0 := q2.keep k0
    replace k1 := q2.keep k1
    replace k2 := q2.keep k2
    replace l0 := q2.keep l0
    replace l1 := q2.keep l1
    replace l2 := q2.keep l2
    have HQ := Lib.hid (hQi.trans q2)
    clear a1 a2 a3 a4 a5 a6 b1 b2 b3 b4 b5 b6 s0 s1 s2 s3 hD1 hD2 hQi q2 z1 hl
    rw [hW2]
    clear hW2
    go_wp2_with fail
    refine (Calls.mono hs ?_)
    rintro _ W3 ⟨rfl, hd⟩
    replace HQ := Lib.hid (HQ.out.dr hd)
    go_wp2
    go_roundw
    case rel => exact ⟨i + 1, by have := HL.out; omega, by go_num, HQ.out⟩
    case measure => have := HL.out; simp [intOf]; omega
   ·obtain ⟨W2, hW2⟩ : ∃ W2, ((wo.alloc (.cells #[.string N, .int .i64 X, .int .i64 Y, .int .i64 Z, .slice uo sn uc] 33)).alloc (.cells #[.string N, .int .i64 X, .int .i64 Y, .int .i64 Z, .slice so sn sc] 33)).drew = W2 := ⟨_, rfl⟩
    have z1 : (wo.alloc (.cells #[.string N, .int .i64 X, .int .i64 Y, .int .i64 Z, .slice uo sn uc] 33)).heap.size = wo.heap.size + 1 := by simp
    have q2 : Q wo W2 := by rw [← hW2]; exact (((Q.refl wo).alloc #[.string N, .int .i64 X, .int .i64 Y, .int .i64 Z, .slice uo sn uc] 33).alloc #[.string N, .int .i64 X, .int .i64 Y, .int .i64 Z, .slice so sn sc] 33).drew
    have p0 : W2.cell? ⟨wo.heap.size, 0, none⟩ = some (.string N) := by rw [← hW2, World.cell?_drew]; exact ((Q.refl _).alloc _ _).keep (by rw [World.cell?_alloc_new]; rfl)
    have r0 : W2.cell? ⟨wo.heap.size + 1, 0, none⟩ = some (.string N) := by rw [← hW2, World.cell?_drew, ← z1, World.cell?_alloc_new]; rfl
    have p1 : W2.cell? ⟨wo.heap.size, 1, none⟩ = some (.int .i64 X) := by rw [← hW2, World.cell?_drew]; exact ((Q.refl _).alloc _ _).keep (by rw [World.cell?_alloc_new]; rfl)
    have r1 : W2.cell? ⟨wo.heap.size + 1, 1, none⟩ = some (.int .i64 X) := by rw [← hW2, World.cell?_drew, ← z1, World.cell?_alloc_new]; rfl
    have p2 : W2.cell? ⟨wo.heap.size, 2, none⟩ = some (.int .i64 Y) := by rw [← hW2, World.cell?_drew]; exact ((Q.refl _).alloc _ _).keep (by rw [World.cell?_alloc_new]; rfl)
    have r2 : W2.cell? ⟨wo.heap.size + 1, 2, none⟩ = some (.int .i64 Y) := by rw [← hW2, World.cell?_drew, ← z1, World.cell?_alloc_new]; rfl
    have p3 : W2.cell? ⟨wo.heap.size, 3, none⟩ = some (.int .i64 Z) := by rw [← hW2, World.cell?_drew]; exact ((Q.refl _).alloc _ _).keep (by rw [World.cell?_alloc_new]; rfl)
    have r3 : W2.cell? ⟨wo.heap.size + 1, 3, none⟩ = some (.int .i64 Z) := by rw [← hW2, World.cell?_drew, ← z1, World.cell?_alloc_new]; rfl
    have p4 : W2.cell? ⟨wo.heap.size, 4, none⟩ = some (.slice uo sn uc) := by rw [← hW2, World.cell?_drew]; exact ((Q.refl _).alloc _ _).keep (by rw [World.cell?_alloc_new]; rfl)
    have r4 : W2.cell? ⟨wo.heap.size + 1, 4, none⟩ = some (.slice so sn sc) := by rw [← hW2, World.cell?_drew, ← z1, World.cell?_alloc_new]; rfl
    have hs := sections_any _ _ SL W2 (a6.keepB q2.b) (b6.keepB q2.b)
    rw [hsn] at hs
    replace k0 := q2.keep k0
    replace k1 := q2.keep k1
    replace k2 := q2.keep k2
    replace l0 := q2.keep l0
    replace l1 := q2.keep l1
    replace l2 := q2.keep l2
    have HQ := Lib.hid (hQi.trans q2)
    clear a1 a2 a3 a4 a5 a6 b1 b2 b3 b4 b5 b6 s0 s1 s2 s3 hD1 hD2 hQi q2 z1 hl
    rw [hW2]
    clear hW2
    go_wp2_with fail
    refine (Calls.mono hs ?_)
    rintro _ W3 ⟨rfl, hd⟩
    replace HQ := Lib.hid (HQ.out.dr hd)
    go_wp2
    go_roundw
    case rel => exact ⟨i + 1, by have := HL.out; omega, by go_num, HQ.out⟩
    case measure => have := HL.out; simp [intOf]; omega
  ·have hlB : decide ((i : Int) < (d.ws.length : Int)) = false := decide_eq_false (by omega)
   clear hi hlen0 n0 n1 hQi hf
   go_wp2
   go_loopw [8] (fun iv wr => ∃ i : Nat, i ≤ d.ts.length ∧ iv = .int .i64 i ∧ Q wo wr) (fun iv _ => d.ts.length + 1 - (intOf iv).toNat)
   case atStart => exact ⟨0, Nat.zero_le _, rfl, Q.refl _⟩
   case round =>
    clear hlB hl
    obtain ⟨i, hi, rfl, hQi⟩ := hrel
    obtain ⟨wt, rfl⟩ : ∃ wt : World, wt = wr := ⟨_, rfl⟩
    replace k0 := hQi.keep k0
    replace k1 := hQi.keep k1
    replace k2 := hQi.keep k2
    replace l0 := hQi.keep l0
    replace l1 := hQi.keep l1
    replace l2 := hQi.keep l2
    replace hD1 := hD1.keepB hQi.b
    replace hD2 := hD2.keepB hQi.b
    replace hQ := Lib.hid (hQ.out.trans hQi)
    by_cases hl : i < d.ts.length
    ·have hlB : decide ((i : Int) < (d.ts.length : Int)) = true := decide_eq_true (by omega)
     have hlI : (i : Int) < (d.ts.length : Int) := by omega
     have hi0 : (0 : Int) ≤ (i : Int) := by omega
     have wk1 : IntKind.i64.wrap ((i : Int) + 1) = (i : Int) + 1 := by rw [IntKind.wrap_i64]; omega
     obtain ⟨a, cap, e1, _, _, hr⟩ := hD1.ts.at_ hl
     obtain ⟨rfl, _, rfl⟩ : bo = some a ∧ True ∧ bc = cap := by simpa using e1
     obtain ⟨b, cap2, e2, _, _, hs⟩ := hD2.ts.at_ hl
     obtain ⟨rfl, _, rfl⟩ : bo2 = some b ∧ True ∧ bc2 = cap2 := by simpa using e2
     generalize d.ts[i] = F at *
     obtain ⟨N, X, Y, Z, SL⟩ := F
     obtain ⟨a1, a2, a3, a4, sv, a5, a6⟩ := hr
     obtain ⟨b1, b2, b3, b4, su, b5, b6⟩ := hs
     simp only at a1 a2 a3 a4 a5 a6 b1 b2 b3 b4 b5 b6
     have ht := helptip_any N X Y Z sv su SL wt.drew (a6.keepB ((Q.refl wt).drew).b) (b6.keepB ((Q.refl wt).drew).b)
     have HL := Lib.hid hl
     have HQ := Lib.hid hQi
     clear e1 e2 hi hl hD1 hD2 hQi
     go_wp2_with fail
     go_region_with (go_at_call 50; refine (Calls.mono ht ?_); rintro _ w3 ⟨rfl, hd⟩)
     all_goals
      have HQ2 := Lib.hid ((HQ.out.drew).trans hd)
      go_wp2
      go_roundw
      case rel => exact ⟨i + 1, by have := HL.out; omega, by go_num, HQ2.out⟩
      case measure => have := HL.out; simp [intOf]; omega
    ·have hlB : decide ((i : Int) < (d.ts.length : Int)) = false := decide_eq_false (by omega)
     clear hi hlen1 hD1 hD2 hQi
     go_wp2
     go_ret
     exact ⟨rfl, hQ.out⟩
end Go.Proofs.YtglniapfnhedoaaGreatDoor
namespace Go.Proofs.YtglniapfnhedoaaGreatDoor
open Go.RowKit
theorem secs_round {s : ByteArray} {T : List UInt8} (hs : s = strB T) {h a0 b0 a1 b1 : Nat} {Dh Da0 Da1 s1 s2 s3 s4 s5 s6 s7 : ByteArray} (e1 : decS h = Dh) (e2 : decS a0 = Da0) (e3 : decS a1 = Da1)
  (j1 : s ++ ({ data := #[114, 111, 117, 110, 100, 32] } : ByteArray) = s1) (j2 : s1 ++ Dh = s2) (j3 : s2 ++ ({ data := #[32] } : ByteArray) = s3) (j4 : s3 ++ Da0 = s4) (j5 : s4 ++ ({ data := #[32] } : ByteArray) = s5) (j6 : s5 ++ Da1 = s6) (j7 : s6 ++ ({ data := #[10] } : ByteArray) = s7) :
  s7 = strB (T ++ lineT (secL { r := true, h := h, a0 := a0, b0 := b0, a1 := a1, b1 := b1 })) := by
 subst j1 j2 j3 j4 j5 j6 j7 e1 e2 e3 hs
 rw [decS_strB, decS_strB, decS_strB, show ({ data := #[114, 111, 117, 110, 100, 32] } : ByteArray) = strB (kRound ++ [32]) from rfl, show ({ data := #[32] } : ByteArray) = strB [32] from rfl, show ({ data := #[10] } : ByteArray) = strB [10] from rfl]
 simp only [strB_app, secL, if_true, lineT]
 congr 1
 simp [List.append_assoc]
theorem secs_box {s : ByteArray} {T : List UInt8} (hs : s = strB T) {h a0 b0 a1 b1 : Nat} {Dh Da0 Db0 Da1 Db1 s1 s2 s3 s4 s5 s6 s7 s8 s9 s10 s11 : ByteArray} (e1 : decS h = Dh) (e2 : decS a0 = Da0) (e3 : decS b0 = Db0) (e4 : decS a1 = Da1) (e5 : decS b1 = Db1)
  (j1 : s ++ ({ data := #[98, 111, 120, 32] } : ByteArray) = s1) (j2 : s1 ++ Dh = s2) (j3 : s2 ++ ({ data := #[32] } : ByteArray) = s3) (j4 : s3 ++ Da0 = s4) (j5 : s4 ++ ({ data := #[32] } : ByteArray) = s5) (j6 : s5 ++ Db0 = s6) (j7 : s6 ++ ({ data := #[32] } : ByteArray) = s7) (j8 : s7 ++ Da1 = s8) (j9 : s8 ++ ({ data := #[32] } : ByteArray) = s9) (j10 : s9 ++ Db1 = s10) (j11 : s10 ++ ({ data := #[10] } : ByteArray) = s11) :
  s11 = strB (T ++ lineT (secL { r := false, h := h, a0 := a0, b0 := b0, a1 := a1, b1 := b1 })) := by
 subst j1 j2 j3 j4 j5 j6 j7 j8 j9 j10 j11 e1 e2 e3 e4 e5 hs
 rw [decS_strB, decS_strB, decS_strB, decS_strB, decS_strB, show ({ data := #[98, 111, 120, 32] } : ByteArray) = strB (kBox ++ [32]) from rfl, show ({ data := #[32] } : ByteArray) = strB [32] from rfl, show ({ data := #[10] } : ByteArray) = strB [10] from rfl]
 simp only [strB_app, secL, Bool.false_eq_true, if_false, lineT]
 congr 1
 simp [List.append_assoc]
set_option maxHeartbeats 4000000 in
set_option maxRecDepth 100000 in
theorem r8secs_any (v : Value) (l : List Sec) (w : World) (h : IsSecs w v l) (hn : ∀ s ∈ l, secN s) (hl10 : l.length ≤ 1000) : Calls Tryz.prog 40 #[v] w fun e w' => e = .returned (.string (strB (l.flatMap fun s => lineT (secL s)))) ∧ Q w w' := by
 obtain ⟨ao, ac, rfl⟩ := secs_form h
 go_enter Tryz.func40, Tryz.ntmps40
 go_wp2
 go_loopw [3, 4] (fun sv iv wr => ∃ (i : Nat) (s : ByteArray), i ≤ l.length ∧ iv = .int .i64 i ∧ sv = .string s ∧ s = strB ((l.take i).flatMap fun s => lineT (secL s)) ∧ s.size ≤ 126 * i ∧ Q w wr) (fun _ iv _ => l.length + 1 - (intOf iv).toNat)
 case atStart => exact ⟨0, _, Nat.zero_le _, rfl, rfl, rfl, by decide, Q.refl _⟩
 case round =>
  obtain ⟨i, s, hi, rfl, rfl, hs, hsz, hQi⟩ := hrel
  obtain ⟨wo, rfl⟩ : ∃ wo : World, wo = wr := ⟨_, rfl⟩
  by_cases hl : i < l.length
  ·have hlB : decide ((i : Int) < (l.length : Int)) = true := decide_eq_true (by omega)
   have hlI : (i : Int) < (l.length : Int) := by omega
   have hi0 : (0 : Int) ≤ (i : Int) := by omega
   have wk1 : IntKind.i64.wrap ((i : Int) + 1) = (i : Int) + 1 := by rw [IntKind.wrap_i64]; omega
   obtain ⟨F, hF⟩ : ∃ F, l[i]? = some F := ⟨_, List.getElem?_eq_getElem hl⟩
   obtain ⟨a, e1, g1⟩ := secs_at' (h.keepB hQi.b) hF
   obtain ⟨rfl, _⟩ : ao = some a ∧ True := by simpa using e1
   have hN := hn F (List.mem_of_getElem? hF)
   obtain ⟨g0, g1, g2, g3, g4, g5⟩ := g1
   obtain ⟨R, H0, A0, B0, A1, B1⟩ := F
   obtain ⟨h', a0, b0, a1, b1, hE, y1, y2, y3, y4, y5⟩ := hN
   simp only [Sec.mk.injEq, true_and] at hE
   obtain ⟨rfl, rfl, rfl, rfl, rfl⟩ := hE
   simp only at g0 g1 g2 g3 g4 g5
   have HL := Lib.hid hl
   have HQ := Lib.hid hQi
   have ch := fun w => r8dec_any h' h' (Nat.le_refl _) y1 w
   have ca0 := fun w => r8dec_any a0 a0 (Nat.le_refl _) y2 w
   have cb0 := fun w => r8dec_any b0 b0 (Nat.le_refl _) y3 w
   have ca1 := fun w => r8dec_any a1 a1 (Nat.le_refl _) y4 w
   have cb1 := fun w => r8dec_any b1 b1 (Nat.le_refl _) y5 w
   have v1 := decS_size y1
   have v2 := decS_size y2
   have v3 := decS_size y3
   have v4 := decS_size y4
   have v5 := decS_size y5
   obtain ⟨Dh, hDh⟩ : ∃ D, decS h' = D := ⟨_, rfl⟩
   obtain ⟨Da0, hDa0⟩ : ∃ D, decS a0 = D := ⟨_, rfl⟩
   obtain ⟨Db0, hDb0⟩ : ∃ D, decS b0 = D := ⟨_, rfl⟩
   obtain ⟨Da1, hDa1⟩ : ∃ D, decS a1 = D := ⟨_, rfl⟩
   obtain ⟨Db1, hDb1⟩ : ∃ D, decS b1 = D := ⟨_, rfl⟩
   rw [hDh] at v1
   rw [hDa0] at v2
   rw [hDb0] at v3
   rw [hDa1] at v4
   rw [hDb1] at v5
   simp only [hDh] at ch
   simp only [hDa0] at ca0
   simp only [hDb0] at cb0
   simp only [hDa1] at ca1
   simp only [hDb1] at cb1
   have qa := (Q.refl wo).alloc #[.bool R, .int .i64 (h' : Nat), .int .i64 (a0 : Nat), .int .i64 (b0 : Nat), .int .i64 (a1 : Nat), .int .i64 (b1 : Nat)] 37
   obtain ⟨W1, hW1⟩ : ∃ W1, wo.alloc (.cells #[.bool R, .int .i64 (h' : Nat), .int .i64 (a0 : Nat), .int .i64 (b0 : Nat), .int .i64 (a1 : Nat), .int .i64 (b1 : Nat)] 37) = W1 := ⟨_, rfl⟩
   have p0 : W1.cell? ⟨wo.heap.size, 0, none⟩ = some (.bool R) := by rw [← hW1, World.cell?_alloc_new]; rfl
   have p1 : W1.cell? ⟨wo.heap.size, 1, none⟩ = some (.int .i64 (h' : Nat)) := by rw [← hW1, World.cell?_alloc_new]; rfl
   have p2 : W1.cell? ⟨wo.heap.size, 2, none⟩ = some (.int .i64 (a0 : Nat)) := by rw [← hW1, World.cell?_alloc_new]; rfl
   have p3 : W1.cell? ⟨wo.heap.size, 3, none⟩ = some (.int .i64 (b0 : Nat)) := by rw [← hW1, World.cell?_alloc_new]; rfl
   have p4 : W1.cell? ⟨wo.heap.size, 4, none⟩ = some (.int .i64 (a1 : Nat)) := by rw [← hW1, World.cell?_alloc_new]; rfl
   have p5 : W1.cell? ⟨wo.heap.size, 5, none⟩ = some (.int .i64 (b1 : Nat)) := by rw [← hW1, World.cell?_alloc_new]; rfl
   rw [hW1] at qa
   have hi9 : i ≤ 1000 := by omega
   clear h hn e1 hl10 hQi
   have hlI2 := hlI
   cases R
   ·go_wp2_with fail
    try rw [hW1]
    clear hW1 g0 g1 g2 g3 g4 g5
    generalize wo.heap.size = G at *
    have qd : Q wo W1.drew := qa.drew
    have qe : Q W1 W1.drew := (Q.refl W1).drew
    clear qa
    have z0 : s.size ≤ 126 * i := hsz
    obtain ⟨s1, j1⟩ : ∃ x, s ++ ({ data := #[98, 111, 120, 32] } : ByteArray) = x := ⟨_, rfl⟩
    have n1 : ¬ 9223372036854775807 < s.size + 4 := by omega
    have m1 : ¬ 9223372036854775807 < s.size + ({ data := #[98, 111, 120, 32] } : ByteArray).size := n1
    have z1 : s1.size ≤ 126 * i + 4 := by rw [← j1, ByteArray.size_append]; show s.size + 4 ≤ _; omega
    obtain ⟨s2, j2⟩ : ∃ x, s1 ++ Dh = x := ⟨_, rfl⟩
    have n2 : ¬ 9223372036854775807 < s1.size + Dh.size := by omega
    have z2 : s2.size ≤ 126 * i + 24 := by rw [← j2, ByteArray.size_append]; omega
    obtain ⟨s3, j3⟩ : ∃ x, s2 ++ ({ data := #[32] } : ByteArray) = x := ⟨_, rfl⟩
    have n3 : ¬ 9223372036854775807 < s2.size + 1 := by omega
    have m3 : ¬ 9223372036854775807 < s2.size + ({ data := #[32] } : ByteArray).size := n3
    have z3 : s3.size ≤ 126 * i + 25 := by rw [← j3, ByteArray.size_append]; show s2.size + 1 ≤ _; omega
    obtain ⟨s4, j4⟩ : ∃ x, s3 ++ Da0 = x := ⟨_, rfl⟩
    have n4 : ¬ 9223372036854775807 < s3.size + Da0.size := by omega
    have z4 : s4.size ≤ 126 * i + 45 := by rw [← j4, ByteArray.size_append]; omega
    obtain ⟨s5, j5⟩ : ∃ x, s4 ++ ({ data := #[32] } : ByteArray) = x := ⟨_, rfl⟩
    have n5 : ¬ 9223372036854775807 < s4.size + 1 := by omega
    have m5 : ¬ 9223372036854775807 < s4.size + ({ data := #[32] } : ByteArray).size := n5
    have z5 : s5.size ≤ 126 * i + 46 := by rw [← j5, ByteArray.size_append]; show s4.size + 1 ≤ _; omega
    obtain ⟨s6, j6⟩ : ∃ x, s5 ++ Db0 = x := ⟨_, rfl⟩
    have n6 : ¬ 9223372036854775807 < s5.size + Db0.size := by omega
    have z6 : s6.size ≤ 126 * i + 66 := by rw [← j6, ByteArray.size_append]; omega
    obtain ⟨s7, j7⟩ : ∃ x, s6 ++ ({ data := #[32] } : ByteArray) = x := ⟨_, rfl⟩
    have n7 : ¬ 9223372036854775807 < s6.size + 1 := by omega
    have m7 : ¬ 9223372036854775807 < s6.size + ({ data := #[32] } : ByteArray).size := n7
    have z7 : s7.size ≤ 126 * i + 67 := by rw [← j7, ByteArray.size_append]; show s6.size + 1 ≤ _; omega
    obtain ⟨s8, j8⟩ : ∃ x, s7 ++ Da1 = x := ⟨_, rfl⟩
    have n8 : ¬ 9223372036854775807 < s7.size + Da1.size := by omega
    have z8 : s8.size ≤ 126 * i + 87 := by rw [← j8, ByteArray.size_append]; omega
    obtain ⟨s9, j9⟩ : ∃ x, s8 ++ ({ data := #[32] } : ByteArray) = x := ⟨_, rfl⟩
    have n9 : ¬ 9223372036854775807 < s8.size + 1 := by omega
    have m9 : ¬ 9223372036854775807 < s8.size + ({ data := #[32] } : ByteArray).size := n9
    have z9 : s9.size ≤ 126 * i + 88 := by rw [← j9, ByteArray.size_append]; show s8.size + 1 ≤ _; omega
    obtain ⟨s10, j10⟩ : ∃ x, s9 ++ Db1 = x := ⟨_, rfl⟩
    have n10 : ¬ 9223372036854775807 < s9.size + Db1.size := by omega
    have z10 : s10.size ≤ 126 * i + 108 := by rw [← j10, ByteArray.size_append]; omega
    obtain ⟨s11, j11⟩ : ∃ x, s10 ++ ({ data := #[10] } : ByteArray) = x := ⟨_, rfl⟩
    have n11 : ¬ 9223372036854775807 < s10.size + 1 := by omega
    have m11 : ¬ 9223372036854775807 < s10.size + ({ data := #[10] } : ByteArray).size := n11
    have z11 : s11.size ≤ 126 * i + 109 := by rw [← j11, ByteArray.size_append]; show s10.size + 1 ≤ _; omega
    have HE := Lib.hid (secs_box hs hDh hDa0 hDb0 hDa1 hDb1 j1 j2 j3 j4 j5 j6 j7 j8 j9 j10 j11)
    have HZs := Lib.hid z11
    clear z0 z1 z2 z3 z4 z5 z6 z7 z8 z9 z10 z11 hDh hDa0 hDb0 hDa1 hDb1 hs
    refine wp_region_noPanic ?_
    refine wp_region_seq (S := fun w' => w'.cell? ⟨G, 0, none⟩ = some (.bool false) ∧ w'.cell? ⟨G, 1, none⟩ = some (.int .i64 (h' : Nat)) ∧ w'.cell? ⟨G, 2, none⟩ = some (.int .i64 (a0 : Nat)) ∧ w'.cell? ⟨G, 3, none⟩ = some (.int .i64 (b0 : Nat)) ∧ w'.cell? ⟨G, 4, none⟩ = some (.int .i64 (a1 : Nat)) ∧ w'.cell? ⟨G, 5, none⟩ = some (.int .i64 (b1 : Nat)) ∧ Q wo w') [(0, 0), (1, 0), (2, 0), (3, 0), (7, 0), (8, 0), (12, 0), (13, 0), (17, 0), (18, 0), (22, 0), (23, 0), (4, 2), (5, 0), (6, 0), (9, 2), (10, 0), (11, 0), (14, 2), (15, 0), (16, 0), (19, 2), (20, 0), (21, 0), (24, 2), (25, 0), (26, 0), (27, 0)] [0, 1, 0, 4, 8, 18, 32, 0, 128, 272, 576, 1024, 0, 4096, 8704, 18432, 32768, 0, 131072, 278528, 589824, 1048576, 0, 4194304, 8912896, 18874368, 33554432, 134217727] [0, 1, 0, 4, 8, 18, 32, 0, 128, 256, 576, 1024, 0, 4096, 8192, 18432, 32768, 0, 131072, 262144, 589824, 1048576, 0, 4194304, 8388608, 18874368, 33554432, 67108865] (by kernel_rfl) (by kernel_rfl) (fun _ _ _ _ _ h => h) ?_ (fun hH => ?_)
    ·exact ⟨qe.keep p0, qe.keep p1, qe.keep p2, qe.keep p3, qe.keep p4, qe.keep p5, qd⟩
    refine wpSeq_take (d := 35) rfl rfl (by kernel_rfl) (fun w hS => by go_simp <;> with_reducible rfl) ?_
    dsimp only [sZ, sS]
    refine wpSeq_take (d := 36) rfl rfl (by kernel_rfl) (fun w hS => by go_simp <;> with_reducible rfl) ?_
    dsimp only [sZ, sS]
    refine wpSeq_take (d := 37) rfl rfl (by kernel_rfl) (fun w hS => by go_simp <;> with_reducible rfl) ?_
    dsimp only [sZ, sS]
    refine wpSeq_take (d := 38) rfl rfl (by kernel_rfl) (fun w hS => by go_simp <;> with_reducible rfl) ?_
    dsimp only [sZ, sS]
    refine wpSeq_take (d := 42) rfl rfl (by kernel_rfl) (fun w hS => by go_simp <;> with_reducible rfl) ?_
    dsimp only [sZ, sS]
    refine wpSeq_take (d := 43) rfl rfl (by kernel_rfl) (fun w hS => by go_simp <;> with_reducible rfl) ?_
    dsimp only [sZ, sS]
    refine wpSeq_take (d := 47) rfl rfl (by kernel_rfl) (fun w hS => by go_simp <;> with_reducible rfl) ?_
    dsimp only [sZ, sS]
    refine wpSeq_take (d := 48) rfl rfl (by kernel_rfl) (fun w hS => by go_simp <;> with_reducible rfl) ?_
    dsimp only [sZ, sS]
    refine wpSeq_take (d := 52) rfl rfl (by kernel_rfl) (fun w hS => by go_simp <;> with_reducible rfl) ?_
    dsimp only [sZ, sS]
    refine wpSeq_take (d := 53) rfl rfl (by kernel_rfl) (fun w hS => by go_simp <;> with_reducible rfl) ?_
    dsimp only [sZ, sS]
    refine wpSeq_take (d := 57) rfl rfl (by kernel_rfl) (fun w hS => by go_simp <;> with_reducible rfl) ?_
    dsimp only [sZ, sS]
    refine wpSeq_take (d := 58) rfl rfl (by kernel_rfl) (fun w hS => by go_simp <;> with_reducible rfl) ?_
    dsimp only [sZ, sS]
    refine wpSeq_call rfl (by kernel_rfl) (fun K hK => ?_)
    go_simp
    (with_reducible refine (ch _).mono ?_)
    rintro e w' ⟨rfl, rfl⟩
    refine hK.out _ _ hH fun hH => ?_
    clear hK
    refine wpSeq_take (d := 40) rfl rfl (by kernel_rfl) (fun w hS => by go_simp <;> with_reducible rfl) ?_
    dsimp only [sZ, sS]
    refine wpSeq_take (d := 41) rfl rfl (by kernel_rfl) (fun w hS => by go_simp <;> with_reducible rfl) ?_
    dsimp only [sZ, sS]
    refine wpSeq_call rfl (by kernel_rfl) (fun K hK => ?_)
    go_simp
    (with_reducible refine (ca0 _).mono ?_)
    rintro e w' ⟨rfl, rfl⟩
    refine hK.out _ _ hH fun hH => ?_
    clear hK
    refine wpSeq_take (d := 45) rfl rfl (by kernel_rfl) (fun w hS => by go_simp <;> with_reducible rfl) ?_
    dsimp only [sZ, sS]
    refine wpSeq_take (d := 46) rfl rfl (by kernel_rfl) (fun w hS => by go_simp <;> with_reducible rfl) ?_
    dsimp only [sZ, sS]
    refine wpSeq_call rfl (by kernel_rfl) (fun K hK => ?_)
    go_simp
    (with_reducible refine (cb0 _).mono ?_)
    rintro e w' ⟨rfl, rfl⟩
    refine hK.out _ _ hH fun hH => ?_
    clear hK
    refine wpSeq_take (d := 50) rfl rfl (by kernel_rfl) (fun w hS => by go_simp <;> with_reducible rfl) ?_
    dsimp only [sZ, sS]
    refine wpSeq_take (d := 51) rfl rfl (by kernel_rfl) (fun w hS => by go_simp <;> with_reducible rfl) ?_
    dsimp only [sZ, sS]
    refine wpSeq_call rfl (by kernel_rfl) (fun K hK => ?_)
    go_simp
    (with_reducible refine (ca1 _).mono ?_)
    rintro e w' ⟨rfl, rfl⟩
    refine hK.out _ _ hH fun hH => ?_
    clear hK
    refine wpSeq_take (d := 55) rfl rfl (by kernel_rfl) (fun w hS => by go_simp <;> with_reducible rfl) ?_
    dsimp only [sZ, sS]
    refine wpSeq_take (d := 56) rfl rfl (by kernel_rfl) (fun w hS => by go_simp <;> with_reducible rfl) ?_
    dsimp only [sZ, sS]
    refine wpSeq_call rfl (by kernel_rfl) (fun K hK => ?_)
    go_simp
    (with_reducible refine (cb1 _).mono ?_)
    rintro e w' ⟨rfl, rfl⟩
    refine hK.out _ _ hH fun hH => ?_
    clear hK
    refine wpSeq_take (d := 60) rfl rfl (by kernel_rfl) (fun w hS => by go_simp <;> with_reducible rfl) ?_
    dsimp only [sZ, sS]
    refine wpSeq_take (d := 61) rfl rfl (by kernel_rfl) (fun w hS => by go_simp <;> with_reducible rfl) ?_
    dsimp only [sZ, sS]
    refine wpSeq_take (d := 3) rfl rfl (by kernel_rfl) (fun w hS => by go_simp <;> with_reducible rfl) ?_
    dsimp only [sZ, sS]
    refine wpSeq_done ?_
    refine NoPanic.normal ?_
    have HZ := Lib.hid (HQ.out.trans hH.2.2.2.2.2.2)
    clear hH qd qe ch ca0 cb0 ca1 cb1
    go_wp2
    go_roundw
    case rel => exact ⟨i + 1, s11, by have := HL.out; omega, by go_num, rfl, by rw [HE.out, take_flat hF], by have := HZs.out; omega, HZ.out⟩
    case measure => have := HL.out; simp [intOf]; omega
   ·go_wp2_with fail
    try rw [hW1]
    clear hW1 g0 g1 g2 g3 g4 g5
    generalize wo.heap.size = G at *
    have qd : Q wo W1.drew := qa.drew
    have qe : Q W1 W1.drew := (Q.refl W1).drew
    clear qa
    have z0 : s.size ≤ 126 * i := hsz
    obtain ⟨s1, j1⟩ : ∃ x, s ++ ({ data := #[114, 111, 117, 110, 100, 32] } : ByteArray) = x := ⟨_, rfl⟩
    have n1 : ¬ 9223372036854775807 < s.size + 6 := by omega
    have m1 : ¬ 9223372036854775807 < s.size + ({ data := #[114, 111, 117, 110, 100, 32] } : ByteArray).size := n1
    have z1 : s1.size ≤ 126 * i + 6 := by rw [← j1, ByteArray.size_append]; show s.size + 6 ≤ _; omega
    obtain ⟨s2, j2⟩ : ∃ x, s1 ++ Dh = x := ⟨_, rfl⟩
    have n2 : ¬ 9223372036854775807 < s1.size + Dh.size := by omega
    have z2 : s2.size ≤ 126 * i + 26 := by rw [← j2, ByteArray.size_append]; omega
    obtain ⟨s3, j3⟩ : ∃ x, s2 ++ ({ data := #[32] } : ByteArray) = x := ⟨_, rfl⟩
    have n3 : ¬ 9223372036854775807 < s2.size + 1 := by omega
    have m3 : ¬ 9223372036854775807 < s2.size + ({ data := #[32] } : ByteArray).size := n3
    have z3 : s3.size ≤ 126 * i + 27 := by rw [← j3, ByteArray.size_append]; show s2.size + 1 ≤ _; omega
    obtain ⟨s4, j4⟩ : ∃ x, s3 ++ Da0 = x := ⟨_, rfl⟩
    have n4 : ¬ 9223372036854775807 < s3.size + Da0.size := by omega
    have z4 : s4.size ≤ 126 * i + 47 := by rw [← j4, ByteArray.size_append]; omega
    obtain ⟨s5, j5⟩ : ∃ x, s4 ++ ({ data := #[32] } : ByteArray) = x := ⟨_, rfl⟩
    have n5 : ¬ 9223372036854775807 < s4.size + 1 := by omega
    have m5 : ¬ 9223372036854775807 < s4.size + ({ data := #[32] } : ByteArray).size := n5
    have z5 : s5.size ≤ 126 * i + 48 := by rw [← j5, ByteArray.size_append]; show s4.size + 1 ≤ _; omega
    obtain ⟨s6, j6⟩ : ∃ x, s5 ++ Da1 = x := ⟨_, rfl⟩
    have n6 : ¬ 9223372036854775807 < s5.size + Da1.size := by omega
    have z6 : s6.size ≤ 126 * i + 68 := by rw [← j6, ByteArray.size_append]; omega
    obtain ⟨s7, j7⟩ : ∃ x, s6 ++ ({ data := #[10] } : ByteArray) = x := ⟨_, rfl⟩
    have n7 : ¬ 9223372036854775807 < s6.size + 1 := by omega
    have m7 : ¬ 9223372036854775807 < s6.size + ({ data := #[10] } : ByteArray).size := n7
    have z7 : s7.size ≤ 126 * i + 69 := by rw [← j7, ByteArray.size_append]; show s6.size + 1 ≤ _; omega
    have HE := Lib.hid (secs_round (b0 := b0) (b1 := b1) hs hDh hDa0 hDa1 j1 j2 j3 j4 j5 j6 j7)
    have HZs := Lib.hid z7
    clear z0 z1 z2 z3 z4 z5 z6 z7 hDh hDa0 hDb0 hDa1 hDb1 hs
    refine wp_region_noPanic ?_
    refine wp_region_seq (S := fun w' => w'.cell? ⟨G, 0, none⟩ = some (.bool true) ∧ w'.cell? ⟨G, 1, none⟩ = some (.int .i64 (h' : Nat)) ∧ w'.cell? ⟨G, 2, none⟩ = some (.int .i64 (a0 : Nat)) ∧ w'.cell? ⟨G, 3, none⟩ = some (.int .i64 (b0 : Nat)) ∧ w'.cell? ⟨G, 4, none⟩ = some (.int .i64 (a1 : Nat)) ∧ w'.cell? ⟨G, 5, none⟩ = some (.int .i64 (b1 : Nat)) ∧ Q wo w') [(0, 0), (1, 0), (2, 0), (3, 0), (7, 0), (8, 0), (12, 0), (13, 0), (4, 2), (5, 0), (6, 0), (9, 2), (10, 0), (11, 0), (14, 2), (15, 0), (16, 0), (17, 0)] [0, 1, 0, 4, 8, 18, 32, 0, 128, 272, 576, 1024, 0, 4096, 8704, 18432, 32768, 131071] [0, 1, 0, 4, 8, 18, 32, 0, 128, 256, 576, 1024, 0, 4096, 8192, 18432, 32768, 65537] (by kernel_rfl) (by kernel_rfl) (fun _ _ _ _ _ h => h) ?_ (fun hH => ?_)
    ·exact ⟨qe.keep p0, qe.keep p1, qe.keep p2, qe.keep p3, qe.keep p4, qe.keep p5, qd⟩
    refine wpSeq_take (d := 18) rfl rfl (by kernel_rfl) (fun w hS => by go_simp <;> with_reducible rfl) ?_
    dsimp only [sZ, sS]
    refine wpSeq_take (d := 19) rfl rfl (by kernel_rfl) (fun w hS => by go_simp <;> with_reducible rfl) ?_
    dsimp only [sZ, sS]
    refine wpSeq_take (d := 20) rfl rfl (by kernel_rfl) (fun w hS => by go_simp <;> with_reducible rfl) ?_
    dsimp only [sZ, sS]
    refine wpSeq_take (d := 21) rfl rfl (by kernel_rfl) (fun w hS => by go_simp <;> with_reducible rfl) ?_
    dsimp only [sZ, sS]
    refine wpSeq_take (d := 25) rfl rfl (by kernel_rfl) (fun w hS => by go_simp <;> with_reducible rfl) ?_
    dsimp only [sZ, sS]
    refine wpSeq_take (d := 26) rfl rfl (by kernel_rfl) (fun w hS => by go_simp <;> with_reducible rfl) ?_
    dsimp only [sZ, sS]
    refine wpSeq_take (d := 30) rfl rfl (by kernel_rfl) (fun w hS => by go_simp <;> with_reducible rfl) ?_
    dsimp only [sZ, sS]
    refine wpSeq_take (d := 31) rfl rfl (by kernel_rfl) (fun w hS => by go_simp <;> with_reducible rfl) ?_
    dsimp only [sZ, sS]
    refine wpSeq_call rfl (by kernel_rfl) (fun K hK => ?_)
    go_simp
    (with_reducible refine (ch _).mono ?_)
    rintro e w' ⟨rfl, rfl⟩
    refine hK.out _ _ hH fun hH => ?_
    clear hK
    refine wpSeq_take (d := 23) rfl rfl (by kernel_rfl) (fun w hS => by go_simp <;> with_reducible rfl) ?_
    dsimp only [sZ, sS]
    refine wpSeq_take (d := 24) rfl rfl (by kernel_rfl) (fun w hS => by go_simp <;> with_reducible rfl) ?_
    dsimp only [sZ, sS]
    refine wpSeq_call rfl (by kernel_rfl) (fun K hK => ?_)
    go_simp
    (with_reducible refine (ca0 _).mono ?_)
    rintro e w' ⟨rfl, rfl⟩
    refine hK.out _ _ hH fun hH => ?_
    clear hK
    refine wpSeq_take (d := 28) rfl rfl (by kernel_rfl) (fun w hS => by go_simp <;> with_reducible rfl) ?_
    dsimp only [sZ, sS]
    refine wpSeq_take (d := 29) rfl rfl (by kernel_rfl) (fun w hS => by go_simp <;> with_reducible rfl) ?_
    dsimp only [sZ, sS]
    refine wpSeq_call rfl (by kernel_rfl) (fun K hK => ?_)
    go_simp
    (with_reducible refine (ca1 _).mono ?_)
    rintro e w' ⟨rfl, rfl⟩
    refine hK.out _ _ hH fun hH => ?_
    clear hK
    refine wpSeq_take (d := 33) rfl rfl (by kernel_rfl) (fun w hS => by go_simp <;> with_reducible rfl) ?_
    dsimp only [sZ, sS]
    refine wpSeq_take (d := 34) rfl rfl (by kernel_rfl) (fun w hS => by go_simp <;> with_reducible rfl) ?_
    dsimp only [sZ, sS]
    refine wpSeq_take (d := 3) rfl rfl (by kernel_rfl) (fun w hS => by go_simp <;> with_reducible rfl) ?_
    dsimp only [sZ, sS]
    refine wpSeq_done ?_
    refine NoPanic.normal ?_
    have HZ := Lib.hid (HQ.out.trans hH.2.2.2.2.2.2)
    clear hH qd qe ch ca0 cb0 ca1 cb1
    go_wp2
    go_roundw
    case rel => exact ⟨i + 1, s7, by have := HL.out; omega, by go_num, rfl, by rw [HE.out, take_flat hF], by have := HZs.out; omega, HZ.out⟩
    case measure => have := HL.out; simp [intOf]; omega
  ·have hlB : decide ((i : Int) < (l.length : Int)) = false := decide_eq_false (by omega)
   have HS := Lib.hid (And.intro hs hQi)
   have ht : l.take i = l := List.take_of_length_le (by omega)
   rw [ht] at HS
   clear hs hQi h hn ht
   go_wp2
   go_ret
   exact ⟨by first | rfl | (rw [HS.out.1]; rfl), HS.out.2⟩
end Go.Proofs.YtglniapfnhedoaaGreatDoor
