/-
  Contracts of the library at this translation, laid by the shelf in plain words; strings.Cut at a dot; Contract of the document's Number; Contract of the document's reading of a well's text; The code's wells: Parse, Text.
-/
import Derived.Shelf.Strings.Builder1
import Derived.Shelf.Strings.Builder2
import Derived.Shelf.Strings.OnBuilder
import Derived.Shelf.Strings.BuilderF
import Derived.Shelf.Strings.BuilderK
import Derived.Shelf.Strconv.Itoa0
import Derived.Shelf.Strconv.Itoa1
import Derived.Shelf.LaysM
import Derived.Shelf.Strconv.Itoa2
import Derived.Shelf.Strconv.Itoa3
import Derived.Shelf.Strconv.Itoa4
import Derived.Shelf.Strings.Search1
import Derived.Shelf.Strings.Search2
import Derived.Shelf.Strings.Cut
import Derived.Shelf.Strings.Shaped
import Derived.Test.YthlileddhgglnaaDoorProg
import Derived.Laws.Strings2
import Derived.Laws.Slices
import Derived.KernelRfl
import Derived.Test.YthlileddhgglnaaDoorV1
import Derived.Test.YthlileddhgglnaaDoorV2
import Derived.Test.YthlileddhgglnaaDoorV3
import Derived.Test.YthlileddhgglnaaDoorV7
import Derived.Test.YthlileddhgglnaaDoorV10
import Derived.Test.YthlileddhgglnaaDoorV14
namespace Go.Proofs
open Go.Shelf
def Tryd.lays169_ren : Go.Shelf.Ren := ⟨fun | 169 => 35 | n => n, fun | 70 => 89 | 9 => 9 | 0 => 0 | 72 => 91 | 37 => 28 | 127 => 120 | 3 => 3 | 5 => 5 | n => n, fun | n => n⟩
theorem Tryd.lays169 : Go.Proofs.Lays.n169 Tryd.prog Tryd.lays169_ren := {
  mixed := by kernel_rfl
  f169 := Tryd.func35.trans (congrArg some (by kernel_rfl))
  t0 := Tryd.underlying0
  a0 := Tryd.isAgg0
  z0 := Tryd.sizeOf0
  v0 := Tryd.zeroValue0
  t3 := Tryd.underlying3
  a3 := Tryd.isAgg3
  z3 := Tryd.sizeOf3
  v3 := Tryd.zeroValue3
  t9 := Tryd.underlying9
  a9 := Tryd.isAgg9
  z9 := Tryd.sizeOf9
  v9 := Tryd.zeroValue9
  t37 := Tryd.underlying28
  a37 := Tryd.isAgg28
  z37 := Tryd.sizeOf28
  v37 := Tryd.zeroValue28
  t70 := Tryd.underlying89
  a70 := Tryd.isAgg89
  z70 := Tryd.sizeOf89
  v70 := Tryd.zeroValue89
  t72 := Tryd.underlying91
  a72 := Tryd.isAgg91
  z72 := Tryd.sizeOf91
  v72 := Tryd.zeroValue91
  t127 := Tryd.underlying120
  a127 := Tryd.isAgg120
  z127 := Tryd.sizeOf120
  v127 := Tryd.zeroValue120 }
theorem Tryd.Builder_Extra_169 : Builder.Extra Tryd.prog Tryd.lays169_ren := {
  sizeBuilder := by kernel_rfl
  liesBuilder := by kernel_rfl
  t5 := Tryd.underlying5
  a5 := Tryd.isAgg5
  z5 := Tryd.sizeOf5
  v5 := Tryd.zeroValue5
  infoByte := by kernel_rfl
  cellsByte := by kernel_rfl
  sizeByte := by kernel_rfl
  neB5 := by decide }
open Go.RowKit in
theorem Tryd.Builder_String_any (B b : Nat) (l : List UInt8) (w : World) (h : Lib.IsBuilder 91 5 B b (Lib.byteCells l) w) (hBw : B ≤ w.heap.size) :
    Calls Tryd.prog 35 #[.pointer (some ⟨b, 0, none⟩)] w fun e w' => e = .returned (.string ⟨l.toArray⟩) ∧ Below B w w' := Any.Builder_String_any Tryd.lays169 Tryd.Builder_Extra_169 B b l w h hBw
def Tryd.lays156_ren : Go.Shelf.Ren := ⟨fun | 156 => 32 | 165 => 49 | 166 => 31 | 169 => 35 | 240 => 48 | 241 => 67 | 276 => 66 | 277 => 76 | n => n, fun | 31 => 39 | 9 => 9 | 3 => 3 | 4 => 4 | 0 => 0 | 20 => 20 | 72 => 91 | 76 => 94 | 70 => 89 | 37 => 28 | 75 => 93 | 127 => 120 | 164 => 135 | 5 => 5 | 80 => 99 | n => n, fun | n => n⟩
theorem Tryd.lays156 : Go.Proofs.Lays.n156 Tryd.prog Tryd.lays156_ren := {
  mixed := by kernel_rfl
  f156 := Tryd.func32.trans (congrArg some (by kernel_rfl))
  f165 := Tryd.func49.trans (congrArg some (by kernel_rfl))
  f166 := Tryd.func31.trans (congrArg some (by kernel_rfl))
  f169 := Tryd.func35.trans (congrArg some (by kernel_rfl))
  f240 := Tryd.func48.trans (congrArg some (by kernel_rfl))
  f241 := Tryd.func67.trans (congrArg some (by kernel_rfl))
  f276 := Tryd.func66.trans (congrArg some (by kernel_rfl))
  f277 := Tryd.func76.trans (congrArg some (by kernel_rfl))
  t0 := Tryd.underlying0
  a0 := Tryd.isAgg0
  z0 := Tryd.sizeOf0
  v0 := Tryd.zeroValue0
  t3 := Tryd.underlying3
  a3 := Tryd.isAgg3
  z3 := Tryd.sizeOf3
  v3 := Tryd.zeroValue3
  t4 := Tryd.underlying4
  a4 := Tryd.isAgg4
  z4 := Tryd.sizeOf4
  v4 := Tryd.zeroValue4
  t9 := Tryd.underlying9
  a9 := Tryd.isAgg9
  z9 := Tryd.sizeOf9
  v9 := Tryd.zeroValue9
  t20 := Tryd.underlying20
  a20 := Tryd.isAgg20
  z20 := Tryd.sizeOf20
  v20 := Tryd.zeroValue20
  t31 := Tryd.underlying39
  a31 := Tryd.isAgg39
  z31 := Tryd.sizeOf39
  v31 := Tryd.zeroValue39
  t37 := Tryd.underlying28
  a37 := Tryd.isAgg28
  z37 := Tryd.sizeOf28
  v37 := Tryd.zeroValue28
  t70 := Tryd.underlying89
  a70 := Tryd.isAgg89
  z70 := Tryd.sizeOf89
  v70 := Tryd.zeroValue89
  t72 := Tryd.underlying91
  a72 := Tryd.isAgg91
  z72 := Tryd.sizeOf91
  v72 := Tryd.zeroValue91
  t75 := Tryd.underlying93
  a75 := Tryd.isAgg93
  z75 := Tryd.sizeOf93
  v75 := Tryd.zeroValue93
  t76 := Tryd.underlying94
  a76 := Tryd.isAgg94
  z76 := Tryd.sizeOf94
  v76 := Tryd.zeroValue94
  t127 := Tryd.underlying120
  a127 := Tryd.isAgg120
  z127 := Tryd.sizeOf120
  v127 := Tryd.zeroValue120
  t164 := Tryd.underlying135
  a164 := Tryd.isAgg135
  z164 := Tryd.sizeOf135
  v164 := Tryd.zeroValue135 }
theorem Tryd.Builder_Extra_156 : Builder.Extra Tryd.prog Tryd.lays156_ren := {
  sizeBuilder := by kernel_rfl
  liesBuilder := by kernel_rfl
  t5 := Tryd.underlying5
  a5 := Tryd.isAgg5
  z5 := Tryd.sizeOf5
  v5 := Tryd.zeroValue5
  infoByte := by kernel_rfl
  cellsByte := by kernel_rfl
  sizeByte := by kernel_rfl
  neB5 := by decide }
open Go.RowKit in
theorem Tryd.strings_Join (bk o c : Nat) (xs : List ByteArray) (sep : ByteArray) (w : World) (hcells : ∀ (j : Nat) x, xs[j]? = some x → w.cell? ⟨bk, o + j, none⟩ = some (.string x)) (hbk : bk < w.heap.size) (hN : xs.length ≤ 140737488355328) (hcap : xs.length ≤ c) (hlen : (Lib.join (xs.map (·.data.toList)) sep.data.toList).length ≤ 140737488355328) :
    Calls Tryd.prog 32 #[.slice (some ⟨bk, o, none⟩) xs.length c, .string sep] w fun e w' => e = .returned (.string ⟨(Lib.join (xs.map (·.data.toList)) sep.data.toList).toArray⟩) ∧ Below w.heap.size w w' := Any.strings_Join Tryd.lays156 Tryd.Builder_Extra_156 bk o c xs sep w hcells hbk hN hcap hlen
def Tryd.laysM171_ren : Go.Shelf.Ren := ⟨fun | 171 => 52 | 243 => 70 | 246 => 68 | 283 => 77 | 284 => 78 | 285 => 79 | 286 => 80 | 129 => 86 | 317 => 85 | 318 => 87 | 319 => 88 | 320 => 89 | 337 => 92 | 338 => 93 | n => n, fun | 3 => 3 | 9 => 9 | 2 => 2 | 4 => 4 | 171 => 141 | 0 => 0 | 53 => 142 | 37 => 28 | 5 => 5 | 173 => 145 | 212 => 152 | 51 => 71 | 20 => 20 | 213 => 153 | 46 => 155 | 232 => 160 | 233 => 161 | n => n, fun | 17 => 1 | 18 => 2 | 19 => 3 | n => n⟩
theorem Tryd.laysM171 : Go.Proofs.LaysM.n171 Tryd.prog Tryd.laysM171_ren := {
  mixed := by kernel_rfl
  f129 := Tryd.func86.trans (congrArg some (by kernel_rfl))
  f171 := Tryd.func52.trans (congrArg some (by kernel_rfl))
  f243 := Tryd.func70.trans (congrArg some (by kernel_rfl))
  f246 := Tryd.func68.trans (congrArg some (by kernel_rfl))
  f283 := Tryd.func77.trans (congrArg some (by kernel_rfl))
  f284 := Tryd.func78.trans (congrArg some (by kernel_rfl))
  f285 := Tryd.func79.trans (congrArg some (by kernel_rfl))
  f286 := Tryd.func80.trans (congrArg some (by kernel_rfl))
  f317 := Tryd.func85.trans (congrArg some (by kernel_rfl))
  f318 := Tryd.func87.trans (congrArg some (by kernel_rfl))
  f319 := Tryd.func88.trans (congrArg some (by kernel_rfl))
  f320 := Tryd.func89.trans (congrArg some (by kernel_rfl))
  f337 := Tryd.func92.trans (congrArg some (by kernel_rfl))
  f338 := Tryd.func93.trans (congrArg some (by kernel_rfl))
  t0 := Tryd.underlying0
  a0 := Tryd.isAgg0
  z0 := Tryd.sizeOf0
  v0 := Tryd.zeroValue0
  t2 := Tryd.underlying2
  a2 := Tryd.isAgg2
  z2 := Tryd.sizeOf2
  v2 := Tryd.zeroValue2
  t3 := Tryd.underlying3
  a3 := Tryd.isAgg3
  z3 := Tryd.sizeOf3
  v3 := Tryd.zeroValue3
  t4 := Tryd.underlying4
  a4 := Tryd.isAgg4
  z4 := Tryd.sizeOf4
  v4 := Tryd.zeroValue4
  t5 := Tryd.underlying5
  a5 := Tryd.isAgg5
  z5 := Tryd.sizeOf5
  v5 := Tryd.zeroValue5
  t9 := Tryd.underlying9
  a9 := Tryd.isAgg9
  z9 := Tryd.sizeOf9
  v9 := Tryd.zeroValue9
  t20 := Tryd.underlying20
  a20 := Tryd.isAgg20
  z20 := Tryd.sizeOf20
  v20 := Tryd.zeroValue20
  t37 := Tryd.underlying28
  a37 := Tryd.isAgg28
  z37 := Tryd.sizeOf28
  v37 := Tryd.zeroValue28
  t46 := Tryd.underlying155
  a46 := Tryd.isAgg155
  z46 := Tryd.sizeOf155
  v46 := Tryd.zeroValue155
  t51 := Tryd.underlying71
  a51 := Tryd.isAgg71
  z51 := Tryd.sizeOf71
  v51 := Tryd.zeroValue71
  t53 := Tryd.underlying142
  a53 := Tryd.isAgg142
  z53 := Tryd.sizeOf142
  v53 := Tryd.zeroValue142
  t171 := Tryd.underlying141
  a171 := Tryd.isAgg141
  z171 := Tryd.sizeOf141
  v171 := Tryd.zeroValue141
  t173 := Tryd.underlying145
  a173 := Tryd.isAgg145
  z173 := Tryd.sizeOf145
  v173 := Tryd.zeroValue145
  t212 := Tryd.underlying152
  a212 := Tryd.isAgg152
  z212 := Tryd.sizeOf152
  v212 := Tryd.zeroValue152
  t213 := Tryd.underlying153
  a213 := Tryd.isAgg153
  z213 := Tryd.sizeOf153
  t232 := Tryd.underlying160
  a232 := Tryd.isAgg160
  z232 := Tryd.sizeOf160
  v232 := Tryd.zeroValue160
  t233 := Tryd.underlying161
  a233 := Tryd.isAgg161
  z233 := Tryd.sizeOf161
  v233 := Tryd.zeroValue161
  g17 := by kernel_rfl
  g18 := by kernel_rfl
  g19 := by kernel_rfl
  i0 := by kernel_rfl
  i2 := by kernel_rfl
  i3 := by kernel_rfl
  i4 := by kernel_rfl
  i5 := by kernel_rfl
  i9 := by kernel_rfl
  i20 := by kernel_rfl
  i37 := by kernel_rfl
  i46 := by kernel_rfl
  i51 := by kernel_rfl
  i53 := by kernel_rfl
  i171 := by kernel_rfl
  i173 := by kernel_rfl
  i212 := by kernel_rfl
  i232 := by kernel_rfl
  i233 := by kernel_rfl
  m17 := by kernel_rfl
  m18 := by kernel_rfl
  m19 := by kernel_rfl }
open Go.RowKit Go.Sort Go.Lib in
theorem Tryd.strconv_Itoa (n : Int) (h0 : -9223372036854775808 ≤ n) (h1 : n ≤ 9223372036854775807) (w : World) (htab : Lib.TabIs Tryd.prog w "internal/strconv.uint64pow10" .u64 Lib.pow10Tab) :
    Calls Tryd.prog 52 #[.int .i64 n] w fun e w' => e = .returned (.string ⟨(Lib.itoa n).toArray⟩) ∧ ∃ k os, w' = grow (w.drewN k) os := Any.strconv_Itoa Tryd.laysM171 n h0 h1 w htab
def Tryd.lays171_ren : Go.Shelf.Ren := ⟨fun | 171 => 52 | 243 => 70 | 246 => 68 | 283 => 77 | 284 => 78 | 285 => 79 | 286 => 80 | 129 => 86 | 317 => 85 | 318 => 87 | 319 => 88 | 320 => 89 | 337 => 92 | 338 => 93 | n => n, fun | 3 => 3 | 9 => 9 | 2 => 2 | 4 => 4 | 171 => 141 | 0 => 0 | 53 => 142 | 37 => 28 | 5 => 5 | 173 => 145 | 212 => 152 | 51 => 71 | 20 => 20 | 213 => 153 | 46 => 155 | 232 => 160 | 233 => 161 | n => n, fun | 17 => 1 | 18 => 2 | 19 => 3 | n => n⟩
theorem Tryd.lays171 : Go.Proofs.Lays.n171 Tryd.prog Tryd.lays171_ren := {
  mixed := by kernel_rfl
  f129 := Tryd.func86.trans (congrArg some (by kernel_rfl))
  f171 := Tryd.func52.trans (congrArg some (by kernel_rfl))
  f243 := Tryd.func70.trans (congrArg some (by kernel_rfl))
  f246 := Tryd.func68.trans (congrArg some (by kernel_rfl))
  f283 := Tryd.func77.trans (congrArg some (by kernel_rfl))
  f284 := Tryd.func78.trans (congrArg some (by kernel_rfl))
  f285 := Tryd.func79.trans (congrArg some (by kernel_rfl))
  f286 := Tryd.func80.trans (congrArg some (by kernel_rfl))
  f317 := Tryd.func85.trans (congrArg some (by kernel_rfl))
  f318 := Tryd.func87.trans (congrArg some (by kernel_rfl))
  f319 := Tryd.func88.trans (congrArg some (by kernel_rfl))
  f320 := Tryd.func89.trans (congrArg some (by kernel_rfl))
  f337 := Tryd.func92.trans (congrArg some (by kernel_rfl))
  f338 := Tryd.func93.trans (congrArg some (by kernel_rfl))
  t0 := Tryd.underlying0
  a0 := Tryd.isAgg0
  z0 := Tryd.sizeOf0
  v0 := Tryd.zeroValue0
  t2 := Tryd.underlying2
  a2 := Tryd.isAgg2
  z2 := Tryd.sizeOf2
  v2 := Tryd.zeroValue2
  t3 := Tryd.underlying3
  a3 := Tryd.isAgg3
  z3 := Tryd.sizeOf3
  v3 := Tryd.zeroValue3
  t4 := Tryd.underlying4
  a4 := Tryd.isAgg4
  z4 := Tryd.sizeOf4
  v4 := Tryd.zeroValue4
  t5 := Tryd.underlying5
  a5 := Tryd.isAgg5
  z5 := Tryd.sizeOf5
  v5 := Tryd.zeroValue5
  t9 := Tryd.underlying9
  a9 := Tryd.isAgg9
  z9 := Tryd.sizeOf9
  v9 := Tryd.zeroValue9
  t20 := Tryd.underlying20
  a20 := Tryd.isAgg20
  z20 := Tryd.sizeOf20
  v20 := Tryd.zeroValue20
  t37 := Tryd.underlying28
  a37 := Tryd.isAgg28
  z37 := Tryd.sizeOf28
  v37 := Tryd.zeroValue28
  t46 := Tryd.underlying155
  a46 := Tryd.isAgg155
  z46 := Tryd.sizeOf155
  v46 := Tryd.zeroValue155
  t51 := Tryd.underlying71
  a51 := Tryd.isAgg71
  z51 := Tryd.sizeOf71
  v51 := Tryd.zeroValue71
  t53 := Tryd.underlying142
  a53 := Tryd.isAgg142
  z53 := Tryd.sizeOf142
  v53 := Tryd.zeroValue142
  t171 := Tryd.underlying141
  a171 := Tryd.isAgg141
  z171 := Tryd.sizeOf141
  v171 := Tryd.zeroValue141
  t173 := Tryd.underlying145
  a173 := Tryd.isAgg145
  z173 := Tryd.sizeOf145
  v173 := Tryd.zeroValue145
  t212 := Tryd.underlying152
  a212 := Tryd.isAgg152
  z212 := Tryd.sizeOf152
  v212 := Tryd.zeroValue152
  t213 := Tryd.underlying153
  a213 := Tryd.isAgg153
  z213 := Tryd.sizeOf153
  t232 := Tryd.underlying160
  a232 := Tryd.isAgg160
  z232 := Tryd.sizeOf160
  v232 := Tryd.zeroValue160
  t233 := Tryd.underlying161
  a233 := Tryd.isAgg161
  z233 := Tryd.sizeOf161
  v233 := Tryd.zeroValue161
  g17 := by kernel_rfl
  g18 := by kernel_rfl
  g19 := by kernel_rfl }
open Go.RowKit Go.Sort Go.Lib in
theorem Tryd.strconv_Itoa_small (i : Nat) (hi : i < 100) (w : World) :
    Calls Tryd.prog 52 #[.int .i64 i] w fun e w' => e = .returned (.string ⟨(Lib.decDigits i).toArray⟩) ∧ w' = w := Any.strconv_Itoa_small Tryd.lays171 i hi w
def Tryd.laysM173_ren : Go.Shelf.Ren := ⟨fun | 173 => 50 | 246 => 68 | 283 => 77 | 284 => 78 | 285 => 79 | 286 => 80 | 129 => 86 | 317 => 85 | 318 => 87 | 319 => 88 | 320 => 89 | 337 => 92 | 338 => 93 | n => n, fun | 2 => 2 | 3 => 3 | 9 => 9 | 4 => 4 | 171 => 141 | 0 => 0 | 53 => 142 | 37 => 28 | 5 => 5 | 173 => 145 | 212 => 152 | 51 => 71 | 20 => 20 | 213 => 153 | 46 => 155 | 232 => 160 | 233 => 161 | n => n, fun | 17 => 1 | 18 => 2 | 19 => 3 | n => n⟩
theorem Tryd.laysM173 : Go.Proofs.LaysM.n173 Tryd.prog Tryd.laysM173_ren := {
  mixed := by kernel_rfl
  f129 := Tryd.func86.trans (congrArg some (by kernel_rfl))
  f173 := Tryd.func50.trans (congrArg some (by kernel_rfl))
  f246 := Tryd.func68.trans (congrArg some (by kernel_rfl))
  f283 := Tryd.func77.trans (congrArg some (by kernel_rfl))
  f284 := Tryd.func78.trans (congrArg some (by kernel_rfl))
  f285 := Tryd.func79.trans (congrArg some (by kernel_rfl))
  f286 := Tryd.func80.trans (congrArg some (by kernel_rfl))
  f317 := Tryd.func85.trans (congrArg some (by kernel_rfl))
  f318 := Tryd.func87.trans (congrArg some (by kernel_rfl))
  f319 := Tryd.func88.trans (congrArg some (by kernel_rfl))
  f320 := Tryd.func89.trans (congrArg some (by kernel_rfl))
  f337 := Tryd.func92.trans (congrArg some (by kernel_rfl))
  f338 := Tryd.func93.trans (congrArg some (by kernel_rfl))
  t0 := Tryd.underlying0
  a0 := Tryd.isAgg0
  z0 := Tryd.sizeOf0
  v0 := Tryd.zeroValue0
  t2 := Tryd.underlying2
  a2 := Tryd.isAgg2
  z2 := Tryd.sizeOf2
  v2 := Tryd.zeroValue2
  t3 := Tryd.underlying3
  a3 := Tryd.isAgg3
  z3 := Tryd.sizeOf3
  v3 := Tryd.zeroValue3
  t4 := Tryd.underlying4
  a4 := Tryd.isAgg4
  z4 := Tryd.sizeOf4
  v4 := Tryd.zeroValue4
  t5 := Tryd.underlying5
  a5 := Tryd.isAgg5
  z5 := Tryd.sizeOf5
  v5 := Tryd.zeroValue5
  t9 := Tryd.underlying9
  a9 := Tryd.isAgg9
  z9 := Tryd.sizeOf9
  v9 := Tryd.zeroValue9
  t20 := Tryd.underlying20
  a20 := Tryd.isAgg20
  z20 := Tryd.sizeOf20
  v20 := Tryd.zeroValue20
  t37 := Tryd.underlying28
  a37 := Tryd.isAgg28
  z37 := Tryd.sizeOf28
  v37 := Tryd.zeroValue28
  t46 := Tryd.underlying155
  a46 := Tryd.isAgg155
  z46 := Tryd.sizeOf155
  v46 := Tryd.zeroValue155
  t51 := Tryd.underlying71
  a51 := Tryd.isAgg71
  z51 := Tryd.sizeOf71
  v51 := Tryd.zeroValue71
  t53 := Tryd.underlying142
  a53 := Tryd.isAgg142
  z53 := Tryd.sizeOf142
  v53 := Tryd.zeroValue142
  t171 := Tryd.underlying141
  a171 := Tryd.isAgg141
  z171 := Tryd.sizeOf141
  v171 := Tryd.zeroValue141
  t173 := Tryd.underlying145
  a173 := Tryd.isAgg145
  z173 := Tryd.sizeOf145
  v173 := Tryd.zeroValue145
  t212 := Tryd.underlying152
  a212 := Tryd.isAgg152
  z212 := Tryd.sizeOf152
  v212 := Tryd.zeroValue152
  t213 := Tryd.underlying153
  a213 := Tryd.isAgg153
  z213 := Tryd.sizeOf153
  t232 := Tryd.underlying160
  a232 := Tryd.isAgg160
  z232 := Tryd.sizeOf160
  v232 := Tryd.zeroValue160
  t233 := Tryd.underlying161
  a233 := Tryd.isAgg161
  z233 := Tryd.sizeOf161
  v233 := Tryd.zeroValue161
  g17 := by kernel_rfl
  g18 := by kernel_rfl
  g19 := by kernel_rfl
  i0 := by kernel_rfl
  i2 := by kernel_rfl
  i3 := by kernel_rfl
  i4 := by kernel_rfl
  i5 := by kernel_rfl
  i9 := by kernel_rfl
  i20 := by kernel_rfl
  i37 := by kernel_rfl
  i46 := by kernel_rfl
  i51 := by kernel_rfl
  i53 := by kernel_rfl
  i171 := by kernel_rfl
  i173 := by kernel_rfl
  i212 := by kernel_rfl
  i232 := by kernel_rfl
  i233 := by kernel_rfl
  m17 := by kernel_rfl
  m18 := by kernel_rfl
  m19 := by kernel_rfl }
open Go.RowKit Go.Sort Go.Lib in
theorem Tryd.strconv_FormatInt_10 (n : Int) (h0 : -9223372036854775808 ≤ n) (h1 : n ≤ 9223372036854775807) (w : World) (htab : Lib.TabIs Tryd.prog w "internal/strconv.uint64pow10" .u64 Lib.pow10Tab) :
    Calls Tryd.prog 50 #[.int .i64 n, .int .i64 10] w fun e w' => e = .returned (.string ⟨(Lib.itoa n).toArray⟩) ∧ ∃ k os, w' = grow (w.drewN k) os := Any.strconv_FormatInt_10 Tryd.laysM173 n h0 h1 w htab
def Tryd.lays219_ren : Go.Shelf.Ren := ⟨fun | 219 => 94 | 217 => 95 | 225 => 96 | 224 => 97 | 267 => 98 | 266 => 99 | 314 => 100 | n => n, fun | 9 => 9 | 3 => 3 | 4 => 4 | 5 => 5 | 46 => 155 | 146 => 163 | 51 => 71 | n => n, fun | 1 => 0 | n => n⟩
theorem Tryd.lays219 : Go.Proofs.Lays.n219 Tryd.prog Tryd.lays219_ren := {
  mixed := by kernel_rfl
  f217 := Tryd.func95.trans (congrArg some (by kernel_rfl))
  f219 := Tryd.func94.trans (congrArg some (by kernel_rfl))
  f224 := Tryd.func97.trans (congrArg some (by kernel_rfl))
  f225 := Tryd.func96.trans (congrArg some (by kernel_rfl))
  f266 := Tryd.func99.trans (congrArg some (by kernel_rfl))
  f267 := Tryd.func98.trans (congrArg some (by kernel_rfl))
  f314 := Tryd.func100.trans (congrArg some (by kernel_rfl))
  t3 := Tryd.underlying3
  a3 := Tryd.isAgg3
  z3 := Tryd.sizeOf3
  v3 := Tryd.zeroValue3
  t4 := Tryd.underlying4
  a4 := Tryd.isAgg4
  z4 := Tryd.sizeOf4
  v4 := Tryd.zeroValue4
  t5 := Tryd.underlying5
  a5 := Tryd.isAgg5
  z5 := Tryd.sizeOf5
  v5 := Tryd.zeroValue5
  t9 := Tryd.underlying9
  a9 := Tryd.isAgg9
  z9 := Tryd.sizeOf9
  v9 := Tryd.zeroValue9
  t46 := Tryd.underlying155
  a46 := Tryd.isAgg155
  z46 := Tryd.sizeOf155
  v46 := Tryd.zeroValue155
  t51 := Tryd.underlying71
  a51 := Tryd.isAgg71
  z51 := Tryd.sizeOf71
  v51 := Tryd.zeroValue71
  t146 := Tryd.underlying163
  a146 := Tryd.isAgg163
  z146 := Tryd.sizeOf163
  v146 := Tryd.zeroValue163
  g1 := by kernel_rfl }
open Go.RowKit Go.Lib in
theorem Tryd.stringslite_Index_one (s : ByteArray) (c : UInt8) (w : World) :
    Calls Tryd.prog 94 #[.string s, .string ⟨#[c]⟩] w fun e w' => e = .returned (.int .i64 (Lib.indexByte s.data.toList c)) ∧ w' = w := Any.stringslite_Index_one Tryd.lays219 s c w
end Go.Proofs

namespace Go.Proofs.YthlileddhgglnaaDoor
open Go.RowKit
set_option linter.unusedVariables false
theorem index_dot (l : List UInt8) : Lib.indexByte l 46 = if dotAt l < l.length then (dotAt l : Int) else -1 := by
  induction l with
  | nil => rfl
  | cons b l ih =>
    by_cases hb : b.toNat = 46
    · have e : b = 46 := by
        apply UInt8.toNat_inj.1
        simpa using hb
      subst e
      simp [Lib.indexByte, dotAt]
    · have hne : (b == (46 : UInt8)) = false := by
        simp only [beq_eq_false_iff_ne, ne_eq]
        intro e
        subst e
        exact hb rfl
      have hd : dotAt (b :: l) = dotAt l + 1 := by
        unfold dotAt
        rw [List.takeWhile_cons, if_pos (by simpa using hb)]
        rfl
      rw [Lib.indexByte, hne, ih, hd]
      by_cases hl : dotAt l < l.length
      · have h2 : ((dotAt l : Int) == -1) = false := by
          rw [beq_eq_false_iff_ne]
          omega
        simp only [hl, if_true, h2, Bool.false_eq_true, if_false]
        rw [if_pos (by simp; omega)]
        omega
      · simp [hl]
theorem cut_any (l : List UInt8) (w : World) (hl : l.length ≤ 65536) : Calls Tryd.prog 82 #[.string (strB l), .string ⟨#[46]⟩] w fun e w' => e = .returned (.tuple #[.string (strB (l.take (dotAt l))), .string (strB (l.drop (dotAt l + 1))), .bool (decide (dotAt l < l.length))]) ∧ Dr w w' := by
  have hi := index_dot l
  have c1 := fun w => Tryd.stringslite_Index_one (strB l) 46 w
  have hd : (strB l).data.toList = l := rfl
  rw [hd, hi] at c1
  clear hi hd
  have hdl := dot_le l
  have hz : (strB l).size = l.length := strB_size l
  have inner : Calls Tryd.prog 91 #[.string (strB l), .string ⟨#[46]⟩] w fun e w' => e = .returned (.tuple #[.string (strB (l.take (dotAt l))), .string (strB (l.drop (dotAt l + 1))), .bool (decide (dotAt l < l.length))]) ∧ Dr w w' := by
    by_cases h : dotAt l < l.length
    · rw [if_pos h] at c1
      generalize dotAt l = k at *
      go_enter Tryd.func91, Tryd.ntmps91
      go_wp2_with fail
      refine (c1 _).mono ?_
      rintro _ _ ⟨rfl, rfl⟩
      clear c1
      have k0 : (0 : Int) ≤ (k : Int) := by omega
      have k1 : (k : Int) ≤ ((strB l).size : Int) := by rw [hz]; omega
      have kI : (k : Int) < (l.length : Int) := by omega
      have wk : IntKind.i64.wrap ((k : Int) + 1) = (k : Int) + 1 := by rw [IntKind.wrap_i64]; omega
      go_wp2
      have e1 : (strB l).extract 0 k = strB (l.take k) := by rw [strB_sub]; simp
      have e2 : (strB l).extract (k + 1) l.length = strB (l.drop (k + 1)) := by
        rw [strB_sub, List.take_of_length_le (by simp)]
      have e3 : decide (k < l.length) = true := decide_eq_true h
      have HE := Lib.hid (And.intro e1 (And.intro e2 e3))
      clear e1 e2 e3 h
      go_region
      all_goals
        go_wp2
        obtain ⟨e1, e2, e3⟩ := HE.out
        refine bodyPost_ret (v := .tuple #[.string ((strB l).extract 0 k), .string ((strB l).extract (k + 1) l.length), .bool true]) (by simp [results, Tryd.results91, go_sem]) rfl ⟨by rw [e1, e2, e3], (Dr.refl _).trans ⟨1, rfl⟩⟩
    · rw [if_neg h] at c1
      obtain ⟨k, hk⟩ : ∃ k, dotAt l = k := ⟨_, rfl⟩
      obtain rfl : k = l.length := by omega
      have HK := Lib.hid hk
      rw [hk]
      clear hk h hdl
      go_enter Tryd.func91, Tryd.ntmps91
      go_wp2_with fail
      refine (c1 _).mono ?_
      rintro _ _ ⟨rfl, rfl⟩
      clear c1
      go_wp2
      refine bodyPost_ret (v := .tuple #[.string (strB l), .string ⟨#[]⟩, .bool false]) (by simp [results, Tryd.results91, go_sem]) rfl ⟨?_, Dr.refl _⟩
      have e3 : decide (l.length < l.length) = false := by simp
      rw [List.take_length, List.drop_of_length_le (by omega), e3]
      rfl
  go_enter Tryd.func82, Tryd.ntmps82
  go_wp2_with fail
  refine (Calls.mono inner ?_)
  rintro _ w1 ⟨rfl, q1⟩
  go_wp2
  exact bodyPost_ret (v := .tuple #[.string (strB (l.take (dotAt l))), .string (strB (l.drop (dotAt l + 1))), .bool (decide (dotAt l < l.length))]) (by simp [results, Tryd.results82, go_sem]) rfl ⟨rfl, q1⟩
end Go.Proofs.YthlileddhgglnaaDoor

namespace Go.Proofs.YthlileddhgglnaaDoor
open Go.RowKit
theorem pick_dig8 {m d : Nat} (h : m = 48 + d) (hd : d ≤ 9) : IntKind.u8.wrap ((m : Int) - 48) = (d : Int) := by
  simp [IntKind.wrap, IntKind.signed, IntKind.bits]; omega
set_option maxHeartbeats 1000000 in
theorem r8number_any (s : ByteArray) (w : World) : Calls Tryd.prog 62 #[.string s] w fun e w' => e = .returned (.tuple #[.int .i64 ((numV s : Nat) : Int), .bool (numOk s)]) ∧ w = w' := by
  have hE := toList_empty s
  have no : numOk s = false ∧ numV s = 0 → Ending.returned (.tuple #[.int .i64 0, .bool false]) = Ending.returned (.tuple #[.int .i64 ((numV s : Nat) : Int), .bool (numOk s)]) := fun h => by rw [h.1, h.2]; rfl
  by_cases h1 : s.size < 1
  · rw [decide_eq_true h1] at hE
    have HR := Lib.hid (no (num_no (s := s) (fun h => by omega)))
    clear h1 no
    go_enter Tryd.func62, Tryd.ntmps62
    go_wp2
    go_ret2
    exact ⟨HR.out, rfl⟩
  rw [decide_eq_false h1] at hE
  by_cases h2 : 13 < s.size
  · have h2B : decide ((13 : Int) < (s.size : Int)) = true := decide_eq_true (by omega)
    have HR := Lib.hid (no (num_long h2))
    clear h1 h2 no
    go_enter Tryd.func62, Tryd.ntmps62
    go_wp2
    go_ret2
    exact ⟨HR.out, rfl⟩
  have h2B : decide ((13 : Int) < (s.size : Int)) = false := decide_eq_false (by omega)
  have hg0 : ∀ h : 0 < s.size, (s[0]'h).toNat = byteAt s 0 := fun h => byteAt_get s 0 h
  have hz : (0 : Int) < (s.size : Int) := by omega
  have hz' : 0 < s.size := by omega
  have HSZ := Lib.hid (show s.size ≤ 13 by omega)
  by_cases h3 : s.size ≠ 1 ∧ byteAt s 0 = 48
  · have h1B : decide ((1 : Int) < (s.size : Int)) = true := decide_eq_true (by omega)
    have e48 : ((byteAt s 0 : Int) == 48) = true := by rw [h3.2]; rfl
    have HR := Lib.hid (no (num_first h3.1 h3.2))
    generalize hb0 : byteAt s 0 = b0 at hg0 e48
    clear h1 h2 h3 hb0 no
    go_enter Tryd.func62, Tryd.ntmps62
    go_wp2
    go_ret2
    exact ⟨HR.out, rfl⟩
  have H1 := Lib.hid (show 1 ≤ s.size ∧ ¬ (2 ≤ s.size ∧ byteAt s 0 = 48) from ⟨by omega, fun h => h3 ⟨by omega, h.2⟩⟩)
  have hgk := Lib.hid (fun k h => byteAt_get s k h)
  replace no := Lib.hid no
  by_cases h4 : s.size = 1
  · have h1B : decide ((1 : Int) < (s.size : Int)) = false := decide_eq_false (by omega)
    clear h1 h2 h3 h4
    go_enter Tryd.func62, Tryd.ntmps62
    go_wp2
    clear hE hg0 h2B h1B 
    go_loopw [4, 5] (fun nv iv wr => ∃ k : Nat, k ≤ s.size ∧ iv = .int .i64 k ∧ nv = .int .i64 ((valTo s k : Nat) : Int) ∧ (∀ j, j < k → digN (byteAt s j) = true) ∧ w = wr) (fun _ iv _ => s.size + 1 - (intOf iv).toNat)
    case atStart => exact ⟨0, by omega, rfl, rfl, fun j hj => by omega, rfl⟩
    case round =>
      obtain ⟨k, hk, rfl, rfl, hall, rfl⟩ := hrel
      by_cases hl : k < s.size
      · have hlB : decide ((k : Int) < (s.size : Int)) = true := decide_eq_true (by omega)
        have hlI : (k : Int) < (s.size : Int) := by omega
        have hk0 : (0 : Int) ≤ (k : Int) := by omega
        have wk1 : IntKind.i64.wrap ((k : Int) + 1) = (k : Int) + 1 := by have := HSZ.out; rw [IntKind.wrap_i64]; omega
        have hg : ∀ h : k < s.size, (s[k]'h).toNat = byteAt s k := fun h => byteAt_get s k h
        have ck := fun w => r8digit_any (byteAt s k) w
        cases hd : digN (byteAt s k)
        · rw [hd] at ck
          have HR := Lib.hid (no.out (num_bad hl hd))
          obtain ⟨m, hm⟩ : ∃ m, byteAt s k = m := ⟨_, rfl⟩
          rw [hm] at hg ck
          clear hall hd hm H1 hk no hgk
          go_wp2_with fail
          refine (ck _).mono ?_
          rintro e w1 ⟨rfl, rfl⟩
          clear ck
          go_wp2
          go_ret2
          exact ⟨HR.out, rfl⟩
        · rw [hd] at ck
          obtain ⟨d, d1, d2, d3⟩ := num_step hd
          have hall' : ∀ j, j < k + 1 → digN (byteAt s j) = true := fun j hj => by
            by_cases c : j = k
            · subst c; exact hd
            · exact hall j (by omega)
          have hv : valTo s k < 10 ^ k := valTo_high s k hall
          have hv13 : (10 : Nat) ^ k ≤ 10 ^ 13 := Nat.pow_le_pow_right (by decide) (by have := HSZ.out; omega)
          have hv14 : (10 : Nat) ^ 13 = 10000000000000 := by decide
          obtain ⟨V, hV⟩ : ∃ V, valTo s k = V := ⟨_, rfl⟩
          obtain ⟨V', hV'⟩ : ∃ V', valTo s (k + 1) = V' := ⟨_, rfl⟩
          obtain ⟨T, hT⟩ : ∃ T, T = V * 10 := ⟨_, rfl⟩
          rw [hV] at hv
          have p1 : IntKind.i64.wrap (10 * (V : Int)) = (T : Int) := by rw [IntKind.wrap_i64]; omega
          have p2 := pick_dig8 d1 d2
          have p3 : IntKind.i64.wrap (d : Int) = (d : Int) := by rw [IntKind.wrap_i64]; omega
          have p4 : IntKind.i64.wrap ((T : Int) + (d : Int)) = (V' : Int) := by rw [IntKind.wrap_i64]; omega
          obtain ⟨m, hm⟩ : ∃ m, byteAt s k = m := ⟨_, rfl⟩
          rw [hm] at hg ck p2
          have HA := Lib.hid (And.intro hall' (And.intro hl hV'))
          rw [hV]
          clear hall hall' hv hv13 hv14 hd hm H1 hk d1 d2 d3 hV hV' hT no hgk
          go_wp2_with fail
          refine (ck _).mono ?_
          rintro e w1 ⟨rfl, rfl⟩
          clear ck
          go_wp2
          go_roundw
          case rel => exact ⟨k + 1, by have := HA.out.2.1; omega, by go_num, by rw [HA.out.2.2], HA.out.1, trivial⟩
          case measure => have := HA.out.2.1; simp [intOf]; omega
      · have hlB : decide ((k : Int) < (s.size : Int)) = false := decide_eq_false (by omega)
        obtain rfl : k = s.size := by omega
        by_cases hbig : 1000000000000 < valTo s s.size
        · have bB : decide ((1000000000000 : Int) < (valTo s s.size : Int)) = true := decide_eq_true (by omega)
          have HR := Lib.hid (no.out (num_big (Nat.le_refl _) hbig))
          generalize valTo s s.size = V at *
          clear hall H1 hk no hgk hbig
          go_wp2
          go_ret2
          exact ⟨HR.out, rfl⟩
        · have bB : decide ((1000000000000 : Int) < (valTo s s.size : Int)) = false := decide_eq_false (by omega)
          have HR := Lib.hid (show Ending.returned (.tuple #[.int .i64 ((valTo s s.size : Nat) : Int), .bool true]) = Ending.returned (.tuple #[.int .i64 ((numV s : Nat) : Int), .bool (numOk s)]) from by
            obtain ⟨e1, e2⟩ := num_yes ⟨H1.out.1, H1.out.2, hall, by omega⟩
            rw [e1, e2])
          generalize valTo s s.size = V at *
          clear hall H1 hk no hgk hbig
          go_wp2
          go_ret2
          exact ⟨HR.out, rfl⟩
  · have h1B : decide ((1 : Int) < (s.size : Int)) = true := decide_eq_true (by omega)
    have e48 : ((byteAt s 0 : Int) == 48) = false := by simp; omega
    generalize hb0 : byteAt s 0 = b0 at hg0 e48
    clear h1 h2 h3 h4 hb0
    go_enter Tryd.func62, Tryd.ntmps62
    go_wp2
    clear hE hg0 h2B h1B e48
    go_loopw [4, 5] (fun nv iv wr => ∃ k : Nat, k ≤ s.size ∧ iv = .int .i64 k ∧ nv = .int .i64 ((valTo s k : Nat) : Int) ∧ (∀ j, j < k → digN (byteAt s j) = true) ∧ w = wr) (fun _ iv _ => s.size + 1 - (intOf iv).toNat)
    case atStart => exact ⟨0, by omega, rfl, rfl, fun j hj => by omega, rfl⟩
    case round =>
      obtain ⟨k, hk, rfl, rfl, hall, rfl⟩ := hrel
      by_cases hl : k < s.size
      · have hlB : decide ((k : Int) < (s.size : Int)) = true := decide_eq_true (by omega)
        have hlI : (k : Int) < (s.size : Int) := by omega
        have hk0 : (0 : Int) ≤ (k : Int) := by omega
        have wk1 : IntKind.i64.wrap ((k : Int) + 1) = (k : Int) + 1 := by have := HSZ.out; rw [IntKind.wrap_i64]; omega
        have hg : ∀ h : k < s.size, (s[k]'h).toNat = byteAt s k := fun h => byteAt_get s k h
        have ck := fun w => r8digit_any (byteAt s k) w
        cases hd : digN (byteAt s k)
        · rw [hd] at ck
          have HR := Lib.hid (no.out (num_bad hl hd))
          obtain ⟨m, hm⟩ : ∃ m, byteAt s k = m := ⟨_, rfl⟩
          rw [hm] at hg ck
          clear hall hd hm H1 hk no hgk
          go_wp2_with fail
          refine (ck _).mono ?_
          rintro e w1 ⟨rfl, rfl⟩
          clear ck
          go_wp2
          go_ret2
          exact ⟨HR.out, rfl⟩
        · rw [hd] at ck
          obtain ⟨d, d1, d2, d3⟩ := num_step hd
          have hall' : ∀ j, j < k + 1 → digN (byteAt s j) = true := fun j hj => by
            by_cases c : j = k
            · subst c; exact hd
            · exact hall j (by omega)
          have hv : valTo s k < 10 ^ k := valTo_high s k hall
          have hv13 : (10 : Nat) ^ k ≤ 10 ^ 13 := Nat.pow_le_pow_right (by decide) (by have := HSZ.out; omega)
          have hv14 : (10 : Nat) ^ 13 = 10000000000000 := by decide
          obtain ⟨V, hV⟩ : ∃ V, valTo s k = V := ⟨_, rfl⟩
          obtain ⟨V', hV'⟩ : ∃ V', valTo s (k + 1) = V' := ⟨_, rfl⟩
          obtain ⟨T, hT⟩ : ∃ T, T = V * 10 := ⟨_, rfl⟩
          rw [hV] at hv
          have p1 : IntKind.i64.wrap (10 * (V : Int)) = (T : Int) := by rw [IntKind.wrap_i64]; omega
          have p2 := pick_dig8 d1 d2
          have p3 : IntKind.i64.wrap (d : Int) = (d : Int) := by rw [IntKind.wrap_i64]; omega
          have p4 : IntKind.i64.wrap ((T : Int) + (d : Int)) = (V' : Int) := by rw [IntKind.wrap_i64]; omega
          obtain ⟨m, hm⟩ : ∃ m, byteAt s k = m := ⟨_, rfl⟩
          rw [hm] at hg ck p2
          have HA := Lib.hid (And.intro hall' (And.intro hl hV'))
          rw [hV]
          clear hall hall' hv hv13 hv14 hd hm H1 hk d1 d2 d3 hV hV' hT no hgk
          go_wp2_with fail
          refine (ck _).mono ?_
          rintro e w1 ⟨rfl, rfl⟩
          clear ck
          go_wp2
          go_roundw
          case rel => exact ⟨k + 1, by have := HA.out.2.1; omega, by go_num, by rw [HA.out.2.2], HA.out.1, trivial⟩
          case measure => have := HA.out.2.1; simp [intOf]; omega
      · have hlB : decide ((k : Int) < (s.size : Int)) = false := decide_eq_false (by omega)
        obtain rfl : k = s.size := by omega
        by_cases hbig : 1000000000000 < valTo s s.size
        · have bB : decide ((1000000000000 : Int) < (valTo s s.size : Int)) = true := decide_eq_true (by omega)
          have HR := Lib.hid (no.out (num_big (Nat.le_refl _) hbig))
          generalize valTo s s.size = V at *
          clear hall H1 hk no hgk hbig
          go_wp2
          go_ret2
          exact ⟨HR.out, rfl⟩
        · have bB : decide ((1000000000000 : Int) < (valTo s s.size : Int)) = false := decide_eq_false (by omega)
          have HR := Lib.hid (show Ending.returned (.tuple #[.int .i64 ((valTo s s.size : Nat) : Int), .bool true]) = Ending.returned (.tuple #[.int .i64 ((numV s : Nat) : Int), .bool (numOk s)]) from by
            obtain ⟨e1, e2⟩ := num_yes ⟨H1.out.1, H1.out.2, hall, by omega⟩
            rw [e1, e2])
          generalize valTo s s.size = V at *
          clear hall H1 hk no hgk hbig
          go_wp2
          go_ret2
          exact ⟨HR.out, rfl⟩
end Go.Proofs.YthlileddhgglnaaDoor

namespace Go.Proofs.YthlileddhgglnaaDoor
open Go.RowKit
/-- What a well's text tells. -/
def WellRes (l : List UInt8) (w : World) (e : Ending) (w' : World) : Prop :=
  (∃ n r c, wellL l = some (n, r, c) ∧ e = .returned (.tuple #[.agg #[.string (strB n), .int .i64 ((r : Nat) : Int), .int .i64 ((c : Nat) : Int)], .bool true]) ∧ B w w') ∨
  (wellL l = none ∧ e = .returned (.tuple #[.agg #[.string ⟨#[]⟩, .int .i64 0, .int .i64 0], .bool false]) ∧ B w w')
set_option maxHeartbeats 4000000 in
set_option maxRecDepth 100000 in
theorem r8well_any (l : List UInt8) (w : World) (hlen : l.length ≤ 65536) : Calls Tryd.prog 61 #[.string (strB l)] w (WellRes l w) := by
  have hsz := strB_size l
  have hsub : ∀ a b, (strB l).extract a b = strB ((l.drop a).take (b - a)) := strB_sub l
  have hgk := Lib.hid (fun k h => byteAt_get (strB l) k h)
  obtain ⟨S, hS⟩ : ∃ S, strB l = S := ⟨_, rfl⟩
  have hbyte : ∀ i b, l[i]? = some b → byteAt S i = b.toNat := fun i b h => by rw [← hS]; exact byteB l i b h
  rw [hS] at hsz hsub hgk ⊢
  clear hS
  have BB := Lib.hid ((B.refl w).alloc #[.string ⟨#[]⟩, .int .i64 0, .int .i64 0] 49)
  go_enter Tryd.func61, Tryd.ntmps61
  go_wp2
  go_loopw [4] (fun iv wr => ∃ k : Nat, k ≤ l.length ∧ iv = .int .i64 k ∧ (∀ j c, j < k → l[j]? = some c → c.toNat ≠ 46) ∧ w.alloc (.cells #[.string ⟨#[]⟩, .int .i64 0, .int .i64 0] 49) = wr) (fun iv _ => l.length + 1 - (intOf iv).toNat)
  case atStart => exact ⟨0, Nat.zero_le _, rfl, fun j c hj => by omega, rfl⟩
  case round =>
    obtain ⟨k, hk, rfl, hall, rfl⟩ := hrel
    have exitW : (l.length ≤ k ∨ ∃ c, l[k]? = some c ∧ c.toNat = 46) → dotAt l = k := fun h => dot_is l k hall hk h
    by_cases hkl : k < l.length
    · obtain ⟨c, hc⟩ : ∃ c, l[k]? = some c := ⟨_, List.getElem?_eq_getElem hkl⟩
      have hg : ∀ h : k < S.size, (S[k]'h).toNat = c.toNat := fun h => (byteAt_get S k h).trans (hbyte k c hc)
      have hlB : decide ((k : Int) < (l.length : Int)) = true := decide_eq_true (by omega)
      have hlI : (k : Int) < (l.length : Int) := by omega
      have hk0 : (0 : Int) ≤ (k : Int) := by omega
      have wk1 : IntKind.i64.wrap ((k : Int) + 1) = (k : Int) + 1 := by rw [IntKind.wrap_i64]; omega
      by_cases h46 : c.toNat = 46
      · have hdot := exitW (.inr ⟨c, hc, h46⟩)
        have hb : ((c.toNat : Int) != 46) = false := by simp; omega
        obtain ⟨m, hm⟩ : ∃ m, c.toNat = m := ⟨_, rfl⟩
        rw [hm] at hg hb
        clear exitW hall hc h46 hm
        have hlB2 := hlB
        by_cases h2 : l.length ≤ k + 2
        · have HE := Lib.hid (well_short (l := l) (by omega))
          have w2 : IntKind.i64.wrap ((k : Int) + 2) = (k : Int) + 2 := by rw [IntKind.wrap_i64]; omega
          have w2B : decide ((l.length : Int) ≤ (k : Int) + 2) = true := decide_eq_true (by omega)
          clear hbyte hsub hgk hdot hk h2 hlB2
          go_wp2
          exact bodyPost_ret (v := .tuple #[.agg #[.string ⟨#[]⟩, .int .i64 0, .int .i64 0], .bool false]) (by simp [results, Tryd.results61, go_sem]) rfl (.inr ⟨HE.out, rfl, BB.out⟩)
        obtain ⟨r, hr⟩ : ∃ r, l[k + 1]? = some r := ⟨_, List.getElem?_eq_getElem (by omega)⟩
        have hW := well_long hdot hr
        obtain ⟨k1, hk1⟩ : ∃ k1, k1 = k + 1 := ⟨_, rfl⟩
        obtain ⟨k2, hk2⟩ : ∃ k2, k2 = k + 2 := ⟨_, rfl⟩
        have w1 : IntKind.i64.wrap ((k : Int) + 1) = (k1 : Int) := by rw [IntKind.wrap_i64]; omega
        have w2 : IntKind.i64.wrap ((k : Int) + 2) = (k2 : Int) := by rw [IntKind.wrap_i64]; omega
        have w2B : decide ((l.length : Int) ≤ (k2 : Int)) = false := decide_eq_false (by omega)
        have w2n : decide (l.length ≤ k2) = false := decide_eq_false (by omega)
        have hg1 : ∀ h : k1 < S.size, (S[k1]'h).toNat = r.toNat := fun h => (byteAt_get S k1 h).trans (hbyte k1 r (by rw [hk1]; exact hr))
        have hi1 : (k1 : Int) < (l.length : Int) := by omega
        have hn1 : k1 < l.length := by omega
        have hi10 : (0 : Int) ≤ (k1 : Int) := by omega
        obtain ⟨NM, hNM⟩ : ∃ NM, strB (l.take k) = NM := ⟨_, rfl⟩
        obtain ⟨DS, hDS⟩ : ∃ DS, strB (l.drop (k + 2)) = DS := ⟨_, rfl⟩
        have HNM := Lib.hid hNM
        rw [hNM, hDS] at hW
        have sN : ∀ w, (Instr.slice 9 (.string S) none (some (.int .i64 (k : Int))) none).run Tryd.prog w = .ok (.string NM) w := fun w => by
          have := run_slice_string_h (P := Tryd.prog) w 9 S Tryd.underlying9 .i64 (k : Int) (by omega) (by rw [hsz]; omega)
          rw [Int.toNat_natCast, hsub, List.drop_zero, Nat.sub_zero, hNM] at this
          exact this
        have sD : ∀ w, (Instr.slice 9 (.string S) (some (.int .i64 (k2 : Int))) none none).run Tryd.prog w = .ok (.string DS) w := fun w => by
          have := run_slice_string_l (P := Tryd.prog) w 9 S Tryd.underlying9 .i64 (k2 : Int) (by omega) (by rw [hsz]; omega)
          rw [Int.toNat_natCast, hsub, hsz, List.take_of_length_le (by rw [List.length_drop]; omega), show l.drop k2 = l.drop (k + 2) by rw [hk2], hDS] at this
          exact this
        have cn := fun w => r8name_any NM w
        have cd := fun w => r8number_any DS w
        obtain ⟨R, hR⟩ : ∃ R, r.toNat = R := ⟨_, rfl⟩
        rw [hR] at hg1 hW
        clear hbyte hsub hgk hdot h2 hr hk1 hk2 hNM hDS hR hlB2 wk1
        cases hnm : nameS NM
        · have HE := Lib.hid (show wellL l = none from by rw [hW, if_neg (by rw [hnm]; simp)])
          rw [hnm] at cn
          clear hW hnm
          go_wp2_with fail
          refine (cn _).mono ?_
          rintro e w1 ⟨rfl, rfl⟩
          clear cn cd
          go_wp2
          exact bodyPost_ret (v := .tuple #[.agg #[.string ⟨#[]⟩, .int .i64 0, .int .i64 0], .bool false]) (by simp [results, Tryd.results61, go_sem]) rfl (.inr ⟨HE.out, rfl, BB.out⟩)
        rw [hnm] at cn
        by_cases r65 : R < 65
        · have HE := Lib.hid (show wellL l = none from by rw [hW, if_neg (by omega)])
          have r65B : decide ((R : Int) < 65) = true := decide_eq_true (by omega)
          clear hW hnm r65
          go_wp2_with fail
          refine (cn _).mono ?_
          rintro e w1 ⟨rfl, rfl⟩
          clear cn cd
          go_wp2
          exact bodyPost_ret (v := .tuple #[.agg #[.string ⟨#[]⟩, .int .i64 0, .int .i64 0], .bool false]) (by simp [results, Tryd.results61, go_sem]) rfl (.inr ⟨HE.out, rfl, BB.out⟩)
        have r65B : decide ((R : Int) < 65) = false := decide_eq_false (by omega)
        by_cases r72 : 72 < R
        · have HE := Lib.hid (show wellL l = none from by rw [hW, if_neg (by omega)])
          have r72B : decide ((72 : Int) < (R : Int)) = true := decide_eq_true (by omega)
          clear hW hnm r65 r72
          go_wp2_with fail
          refine (cn _).mono ?_
          rintro e w1 ⟨rfl, rfl⟩
          clear cn cd
          go_wp2
          exact bodyPost_ret (v := .tuple #[.agg #[.string ⟨#[]⟩, .int .i64 0, .int .i64 0], .bool false]) (by simp [results, Tryd.results61, go_sem]) rfl (.inr ⟨HE.out, rfl, BB.out⟩)
        have r72B : decide ((72 : Int) < (R : Int)) = false := decide_eq_false (by omega)
        cases hok : numOk DS
        · have HE := Lib.hid (show wellL l = none from by rw [hW, if_neg (by rw [hok]; simp)])
          rw [hok] at cd
          clear hW hnm r65 r72 hok
          go_wp2_with fail
          refine (cn _).mono ?_
          rintro e w1 ⟨rfl, rfl⟩
          go_wp2_with fail
          refine (cd _).mono ?_
          rintro e w1 ⟨rfl, rfl⟩
          clear cn cd
          go_wp2
          exact bodyPost_ret (v := .tuple #[.agg #[.string ⟨#[]⟩, .int .i64 0, .int .i64 0], .bool false]) (by simp [results, Tryd.results61, go_sem]) rfl (.inr ⟨HE.out, rfl, BB.out⟩)
        rw [hok] at cd
        obtain ⟨NV, hNV⟩ : ∃ NV, numV DS = NV := ⟨_, rfl⟩
        rw [hNV] at cd hW
        by_cases v1 : NV < 1
        · have HE := Lib.hid (show wellL l = none from by rw [hW, if_neg (by omega)])
          have v1B : decide ((NV : Int) < 1) = true := decide_eq_true (by omega)
          clear hW hnm r65 r72 hok v1 hNV
          go_wp2_with fail
          refine (cn _).mono ?_
          rintro e w1 ⟨rfl, rfl⟩
          go_wp2_with fail
          refine (cd _).mono ?_
          rintro e w1 ⟨rfl, rfl⟩
          clear cn cd
          go_wp2
          exact bodyPost_ret (v := .tuple #[.agg #[.string ⟨#[]⟩, .int .i64 0, .int .i64 0], .bool false]) (by simp [results, Tryd.results61, go_sem]) rfl (.inr ⟨HE.out, rfl, BB.out⟩)
        have v1B : decide ((NV : Int) < 1) = false := decide_eq_false (by omega)
        by_cases v12 : 12 < NV
        · have HE := Lib.hid (show wellL l = none from by rw [hW, if_neg (by omega)])
          have v12B : decide ((12 : Int) < (NV : Int)) = true := decide_eq_true (by omega)
          clear hW hnm r65 r72 hok v1 v12 hNV
          go_wp2_with fail
          refine (cn _).mono ?_
          rintro e w1 ⟨rfl, rfl⟩
          go_wp2_with fail
          refine (cd _).mono ?_
          rintro e w1 ⟨rfl, rfl⟩
          clear cn cd
          go_wp2
          exact bodyPost_ret (v := .tuple #[.agg #[.string ⟨#[]⟩, .int .i64 0, .int .i64 0], .bool false]) (by simp [results, Tryd.results61, go_sem]) rfl (.inr ⟨HE.out, rfl, BB.out⟩)
        have v12B : decide ((12 : Int) < (NV : Int)) = false := decide_eq_false (by omega)
        have HE := Lib.hid (show wellL l = some (l.take k, R - 65, NV - 1) from by rw [hW, if_pos ⟨hnm, by omega, by omega, hok, by omega, by omega⟩])
        obtain ⟨RR, hRR⟩ : ∃ RR, R - 65 = RR := ⟨_, rfl⟩
        obtain ⟨CC, hCC⟩ : ∃ CC, NV - 1 = CC := ⟨_, rfl⟩
        rw [hRR, hCC] at HE
        have p1 : IntKind.u8.wrap ((R : Int) - 65) = (RR : Int) := by simp [IntKind.wrap, IntKind.signed, IntKind.bits]; omega
        have p2 : IntKind.i64.wrap (RR : Int) = (RR : Int) := by rw [IntKind.wrap_i64]; omega
        have p3 : IntKind.i64.wrap ((NV : Int) - 1) = (CC : Int) := by rw [IntKind.wrap_i64]; omega
        have hNMe : strB (l.take k) = NM := HNM.out
        have B1 := Lib.hid ((B.refl w).alloc #[.string NM, .int .i64 (RR : Int), .int .i64 (CC : Int)] 49)
        clear hW hnm r65 r72 hok v1 v12 hRR hCC hNV
        go_wp2_with fail
        refine (cn _).mono ?_
        rintro e w1 ⟨rfl, rfl⟩
        go_wp2_with fail
        refine (cd _).mono ?_
        rintro e w1 ⟨rfl, rfl⟩
        clear cn cd
        go_wp2_with fail
        go_region
        go_wp2
        exact bodyPost_ret (v := .tuple #[.agg #[.string NM, .int .i64 (RR : Int), .int .i64 (CC : Int)], .bool true]) (by simp [results, Tryd.results61, go_sem]) rfl (.inl ⟨_, _, _, HE.out, by rw [hNMe], B1.out.drew⟩)
      · have hb : ((c.toNat : Int) != 46) = true := by simp; omega
        obtain ⟨m, hm⟩ : ∃ m, c.toNat = m := ⟨_, rfl⟩
        rw [hm] at hg hb
        have HA := Lib.hid (show (∀ j c, j < k + 1 → l[j]? = some c → c.toNat ≠ 46) ∧ k < l.length from ⟨fun j x hj hx => by
          by_cases e : j = k
          · subst e; rw [hc] at hx; cases hx; exact h46
          · exact hall j x (by omega) hx, hkl⟩)
        clear exitW hall hc h46 hm hbyte hsub hgk hkl hk
        go_wp2
        go_roundw
        case rel => exact ⟨k + 1, by have := HA.out.2; omega, by go_num, HA.out.1, trivial⟩
        case measure => have := HA.out.2; simp [intOf]; omega
    · have hdot := exitW (.inl (by omega))
      have hlB : decide ((k : Int) < (l.length : Int)) = false := decide_eq_false (by omega)
      clear exitW hall
      have HE := Lib.hid (well_short (l := l) (by omega))
      have w2 : IntKind.i64.wrap ((k : Int) + 2) = (k : Int) + 2 := by rw [IntKind.wrap_i64]; omega
      have w2B : decide ((l.length : Int) ≤ (k : Int) + 2) = true := decide_eq_true (by omega)
      clear hbyte hsub hgk hdot hk
      go_wp2
      exact bodyPost_ret (v := .tuple #[.agg #[.string ⟨#[]⟩, .int .i64 0, .int .i64 0], .bool false]) (by simp [results, Tryd.results61, go_sem]) rfl (.inr ⟨HE.out, rfl, BB.out⟩)
end Go.Proofs.YthlileddhgglnaaDoor

namespace Go.Proofs.YthlileddhgglnaaDoor
open Go.RowKit
set_option linter.unusedVariables false
theorem wellL_parts (l : List UInt8) : wellL l = match l.drop (dotAt l + 1) with
    | [] => none
    | r :: ds => if (numOk (strB ds) && wrB (strB (l.take (dotAt l))) ((r.toNat : Int) - 65) ((numV (strB ds) : Int) - 1)) = true then some (l.take (dotAt l), r.toNat - 65, numV (strB ds) - 1) else none := by
  unfold wellL
  simp only
  rw [take_dot, List.length_take, Nat.min_eq_left (dot_le l)]
  cases l.drop (dotAt l + 1) with
  | nil => rfl
  | cons r ds =>
    simp only
    have e : (nameS (strB (l.take (dotAt l))) = true ∧ 65 ≤ r.toNat ∧ r.toNat ≤ 72 ∧ numOk (strB ds) = true ∧ 1 ≤ numV (strB ds) ∧ numV (strB ds) ≤ 12) ↔ (numOk (strB ds) && wrB (strB (l.take (dotAt l))) ((r.toNat : Int) - 65) ((numV (strB ds) : Int) - 1)) = true := by
      unfold wrB
      simp only [Bool.and_eq_true, decide_eq_true_eq]
      constructor
      · rintro ⟨h1, h2, h3, h4, h5, h6⟩
        exact ⟨h4, ⟨h1, by omega, by omega⟩, by omega, by omega⟩
      · rintro ⟨h4, ⟨h1, h2, h3⟩, h5, h6⟩
        exact ⟨h1, by omega, by omega, h4, by omega, by omega⟩
    by_cases h : (nameS (strB (l.take (dotAt l))) = true ∧ 65 ≤ r.toNat ∧ r.toNat ≤ 72 ∧ numOk (strB ds) = true ∧ 1 ≤ numV (strB ds) ∧ numV (strB ds) ≤ 12)
    · rw [if_pos h, if_pos (e.1 h)]
    · rw [if_neg h, if_neg (fun h' => h (e.2 h'))]
theorem wrB_iff {n : ByteArray} {r c : Int} : wrB n r c = true ↔ nameS n = true ∧ 0 ≤ r ∧ r < 8 ∧ 0 ≤ c ∧ c < 12 := by
  unfold wrB
  simp only [Bool.and_eq_true, decide_eq_true_eq]
  constructor
  · rintro ⟨⟨h1, h2, h3⟩, h4, h5⟩; exact ⟨h1, h2, h3, h4, h5⟩
  · rintro ⟨h1, h2, h3, h4, h5⟩; exact ⟨⟨h1, h2, h3⟩, h4, h5⟩
theorem wellRes_no {l : List UInt8} {w w' : World} (h : wellL l = none) (q : B w w') : WellRes l w (.returned (.tuple #[.agg #[.string ⟨#[]⟩, .int .i64 0, .int .i64 0], .bool false])) w' := .inr ⟨h, rfl, q⟩
theorem wellRes_yes {l n : List UInt8} {r c : Nat} {ri ci : Int} {w w' : World} (h : wellL l = some (n, r, c)) (h1 : (r : Int) = ri) (h2 : (c : Int) = ci) (q : B w w') : WellRes l w (.returned (.tuple #[.agg #[.string (strB n), .int .i64 ri, .int .i64 ci], .bool true])) w' := .inl ⟨n, r, c, h, by rw [h1, h2], q⟩
set_option maxHeartbeats 2000000 in
theorem wparse_any (l : List UInt8) (w : World) (hl : l.length ≤ 65536) : Calls Tryd.prog 72 #[.string (strB l)] w (WellRes l w) := by
  have c1 := fun w => cut_any l w hl
  have hc := wellL_parts l
  have hdl : (l.drop (dotAt l + 1)).length ≤ 65536 := by rw [List.length_drop]; omega
  obtain ⟨CW, hCW⟩ : ∃ x, wellL l = x := ⟨_, rfl⟩
  rw [hCW] at hc
  replace hCW := Lib.hid hCW
  generalize l.take (dotAt l) = N at *
  generalize l.drop (dotAt l + 1) = PL at *
  generalize decide (dotAt l < l.length) = FB at *
  cases PL with
  | nil =>
    simp only at hc
    subst hc
    have he : (strB ([] : List UInt8)) = ⟨#[]⟩ := rfl
    rw [he] at c1
    go_enter Tryd.func72, Tryd.ntmps72
    go_wp2_with fail
    refine (c1 _).mono ?_
    rintro _ w1 ⟨rfl, ⟨m, rfl⟩⟩
    clear c1
    go_wp2
    have oR := obj_three (w := (w.alloc (.cells #[.string ⟨#[]⟩, .int .i64 0, .int .i64 0] 49)).drewN m) (obj_new w _) (.string ⟨#[]⟩) (.int .i64 0) (.int .i64 0)
    have hQ := b_three (((B.refl w).alloc #[.string ⟨#[]⟩, .int .i64 0, .int .i64 0] 49).drewN m) (Nat.le_refl _) (.string ⟨#[]⟩) (.int .i64 0) (.int .i64 0)
    have cR0 := obj_cell oR 0
    have cR1 := obj_cell oR 1
    have cR2 := obj_cell oR 2
    exact bodyPost_ret (v := .tuple #[.agg #[.string ⟨#[]⟩, .int .i64 0, .int .i64 0], .bool false]) (by simp [results, Tryd.results72, go_sem, cR0, cR1, cR2]) rfl (wellRes_no hCW.out hQ)
  | cons r ds =>
    simp only at hc
    have hx : (strB (r :: ds)).toList.isEmpty = false := by rw [toList_empty]; exact decide_eq_false (by rw [strB_size]; simp)
    have hz : (strB (r :: ds)).size = ds.length + 1 := by rw [strB_size]; rfl
    have hsl : (strB (r :: ds)).extract 1 (ds.length + 1) = strB ds := by
      rw [strB_sub, List.take_of_length_le (by simp)]
      rfl
    have hby : ∀ h : 0 < (strB (r :: ds)).size, (strB (r :: ds))[0] = r := fun _ => rfl
    obtain ⟨OK, hOK⟩ : ∃ b, numOk (strB ds) = b := ⟨_, rfl⟩
    obtain ⟨V, hV⟩ : ∃ n, numV (strB ds) = n := ⟨_, rfl⟩
    have hVm : V ≤ 1000000000000 := by
      rw [← hV]
      cases ho : numOk (strB ds)
      · rw [(num_no (fun h => by have := numOk_iff.2 h; rw [ho] at this; cases this)).2]; omega
      · rw [(num_yes (numOk_iff.1 ho)).2]; exact (numOk_iff.1 ho).2.2.2
    have cn : ∀ w, Calls Tryd.prog 83 #[.string (strB ds)] w fun e w' => e = .returned (.tuple #[.int .i64 (V : Int), .bool OK]) ∧ B w w' := fun w => by rw [← hOK, ← hV]; exact number_any _ w
    have cw := fun w => written_any (strB N) ((r.toNat : Int) - 65) ((V : Int) - 1) w
    rw [hOK, hV] at hc
    clear hOK hV
    have hr256 : r.toNat < 256 := r.toNat_lt
    obtain ⟨WB, hWB⟩ : ∃ b, wrB (strB N) ((r.toNat : Int) - 65) ((V : Int) - 1) = b := ⟨_, rfl⟩
    rw [hWB] at cw hc
    have u1 : IntKind.i64.wrap (r.toNat : Int) = (r.toNat : Int) := by rw [IntKind.wrap_i64]; omega
    have u2 : IntKind.i64.wrap ((r.toNat : Int) - 65) = (r.toNat : Int) - 65 := by rw [IntKind.wrap_i64]; omega
    have u3 : IntKind.i64.wrap ((V : Int) - 1) = (V : Int) - 1 := by rw [IntKind.wrap_i64]; omega
    have v1 : wrap64 (r.toNat : Int) = (r.toNat : Int) := by unfold wrap64; omega
    have v2 : wrap64 ((r.toNat : Int) - 65) = (r.toNat : Int) - 65 := by unfold wrap64; omega
    have HW := Lib.hid hWB
    clear hWB
    go_enter Tryd.func72, Tryd.ntmps72
    go_wp2_with fail
    refine (c1 _).mono ?_
    rintro _ w1 ⟨rfl, ⟨m, rfl⟩⟩
    clear c1
    go_wp2_with fail
    refine (cn _).mono ?_
    rintro _ w2 ⟨rfl, q2⟩
    clear cn
    have oR := q2.obj (show ((w.alloc (.cells #[.string ⟨#[]⟩, .int .i64 0, .int .i64 0] 49)).drewN m).heap[w.heap.size]? = _ from obj_new w _)
    have hB : B w w2 := (((B.refl w).alloc _ _).drewN m).trans q2
    obtain ⟨H, hH⟩ : ∃ H, w.heap.size = H := ⟨_, rfl⟩
    have hHu : w.heap.size ≤ H := by rw [hH]; exact Nat.le_refl _
    rw [hH] at oR ⊢
    clear hH q2
    cases OK
    · obtain rfl : CW = none := by simpa using hc
      have hb0 : w2.cell? ⟨H, 0, none⟩ = some (.string ⟨#[]⟩) := obj_cell oR 0
      have hb1 : w2.cell? ⟨H, 1, none⟩ = some (.int .i64 0) := obj_cell oR 1
      have hb2 : w2.cell? ⟨H, 2, none⟩ = some (.int .i64 0) := obj_cell oR 2
      have hf0 := obj_free oR 0
      have hf1 := obj_free oR 1
      have hf2 := obj_free oR 2
      go_wp2
      have oR := obj_three oR (.string ⟨#[]⟩) (.int .i64 0) (.int .i64 0)
      have hQ := b_three hB hHu (.string ⟨#[]⟩) (.int .i64 0) (.int .i64 0)
      have cR0 := obj_cell oR 0
      have cR1 := obj_cell oR 1
      have cR2 := obj_cell oR 2
      exact bodyPost_ret (v := .tuple #[.agg #[.string ⟨#[]⟩, .int .i64 0, .int .i64 0], .bool false]) (by simp [results, Tryd.results72, go_sem, cR0, cR1, cR2]) rfl (wellRes_no hCW.out hQ)
    · go_wp2_with fail
      refine (cw _).mono ?_
      rintro _ w3 ⟨rfl, q3⟩
      clear cw
      replace oR := q3.obj oR
      replace hB := hB.trans q3
      have hb0 : w3.cell? ⟨H, 0, none⟩ = some (.string ⟨#[]⟩) := obj_cell oR 0
      have hb1 : w3.cell? ⟨H, 1, none⟩ = some (.int .i64 0) := obj_cell oR 1
      have hb2 : w3.cell? ⟨H, 2, none⟩ = some (.int .i64 0) := obj_cell oR 2
      have hf0 := obj_free oR 0
      have hf1 := obj_free oR 1
      have hf2 := obj_free oR 2
      clear q3
      cases WB
      · obtain rfl : CW = none := by simpa using hc
        go_wp2
        have oR := obj_three oR (.string ⟨#[]⟩) (.int .i64 0) (.int .i64 0)
        have hQ := b_three hB hHu (.string ⟨#[]⟩) (.int .i64 0) (.int .i64 0)
        have cR0 := obj_cell oR 0
        have cR1 := obj_cell oR 1
        have cR2 := obj_cell oR 2
        exact bodyPost_ret (v := .tuple #[.agg #[.string ⟨#[]⟩, .int .i64 0, .int .i64 0], .bool false]) (by simp [results, Tryd.results72, go_sem, cR0, cR1, cR2]) rfl (wellRes_no hCW.out hQ)
      · obtain rfl : CW = some (N, r.toNat - 65, V - 1) := by simpa using hc
        have hwi := wrB_iff.1 HW.out
        have e1 : ((r.toNat - 65 : Nat) : Int) = (r.toNat : Int) - 65 := by omega
        have e2 : ((V - 1 : Nat) : Int) = (V : Int) - 1 := by omega
        have HE := Lib.hid (And.intro e1 e2)
        clear hc hwi e1 e2
        go_wp2
        have oR := obj_three oR (.string (strB N)) (.int .i64 ((r.toNat : Int) - 65)) (.int .i64 ((V : Int) - 1))
        have hQ := b_three hB hHu (.string (strB N)) (.int .i64 ((r.toNat : Int) - 65)) (.int .i64 ((V : Int) - 1))
        have cR0 := obj_cell oR 0
        have cR1 := obj_cell oR 1
        have cR2 := obj_cell oR 2
        exact bodyPost_ret (v := .tuple #[.agg #[.string (strB N), .int .i64 ((r.toNat : Int) - 65), .int .i64 ((V : Int) - 1)], .bool true]) (by simp [results, Tryd.results72, go_sem, cR0, cR1, cR2]) rfl (wellRes_yes hCW.out HE.out.1 HE.out.2 hQ)
end Go.Proofs.YthlileddhgglnaaDoor
