/- Texts merged by program, in build order: Shelf, UriParse, UriPrint. -/
import Derived.Shelf.Small.Strs
import Derived.Shelf.LaysM
import Derived.Shelf.Strconv.Clone
import Derived.Shelf.Strings.Search1
import Derived.Shelf.Strings.Search2
import Derived.Shelf.Strings.Search3
import Derived.Shelf.Strings.Cut
import Derived.Shelf.Strings.Count
import Derived.Shelf.GgClosure.StringsIndexFunc
import Derived.Ground.GgwProg
import Derived.Shelf.GgClosure.StringsIndexFuncTop
import Derived.Shelf.GgClosure.StringsRunes
import Derived.Shelf.Strings.Split
import Derived.Shelf.Slices.Turned
import Derived.Ground.Names2Prog
import Derived.Shelf.Slices.Clone
import Derived.Test.YtiofgepfcacgjaaDoorProg
import Derived.Test.YtiofgepfcacgjaaDoorG04
import Derived.Laws.StructEq
set_option linter.unusedVariables false
set_option linter.unusedSimpArgs false
namespace Go.Proofs.YtiofgepfcacgjaaDoor
open Go.Shelf Go.RowKit Go.Lib
def Tryd.laysM316_ren : Go.Shelf.Ren := ⟨fun | 316 => 94 | n => n, fun | 9 => 9 | 3 => 3 | 4 => 4 | 37 => 106 | 0 => 0 | 127 => 107 | 5 => 5 | n => n, fun | n => n⟩
theorem Tryd.laysM316 : Go.Proofs.LaysM.n316 Tryd.prog Tryd.laysM316_ren := {
  mixed := by kernel_rfl
  f316 := Tryd.func94.trans (congrArg some (by kernel_rfl))
  t0 := Tryd.underlying0
  a0 := Tryd.isAgg0
  z0 := Tryd.sizeOf0
  v0 := Tryd.zeroValue0
  t3 := Tryd.underlying3
  a3 := Tryd.isAgg3
  z3 := Tryd.sizeOf3
  v3 := Tryd.zeroValue3
  t4 := Tryd.underlying4
  a4 := Tryd.isAgg4
  z4 := Tryd.sizeOf4
  v4 := Tryd.zeroValue4
  t9 := Tryd.underlying9
  a9 := Tryd.isAgg9
  z9 := Tryd.sizeOf9
  v9 := Tryd.zeroValue9
  t37 := Tryd.underlying106
  a37 := Tryd.isAgg106
  z37 := Tryd.sizeOf106
  v37 := Tryd.zeroValue106
  t127 := Tryd.underlying107
  a127 := Tryd.isAgg107
  z127 := Tryd.sizeOf107
  v127 := Tryd.zeroValue107
  t5 := Tryd.underlying5
  a5 := Tryd.isAgg5
  z5 := Tryd.sizeOf5
  v5 := Tryd.zeroValue5
  i0 := by kernel_rfl
  i3 := by kernel_rfl
  i4 := by kernel_rfl
  i5 := by kernel_rfl
  i9 := by kernel_rfl
  i37 := by kernel_rfl
  i127 := by kernel_rfl }
theorem Tryd.stringslite_Clone (s : ByteArray) (w : World) (hlim : s.size ≤ 281474976710656) :
    Calls Tryd.prog 94 #[.string s] w fun e w' => e = .returned (.string s) ∧ Below w.heap.size w w' := Any.stringslite_Clone Tryd.laysM316 s w hlim
def Tryd.lays143_ren : Go.Shelf.Ren := ⟨fun | 143 => 80 | 219 => 77 | 217 => 76 | 225 => 88 | 224 => 89 | 267 => 90 | 266 => 87 | 314 => 97 | n => n, fun | 9 => 9 | 3 => 3 | 4 => 4 | 5 => 5 | 46 => 96 | 146 => 103 | 51 => 102 | n => n, fun | 1 => 0 | n => n⟩
theorem Tryd.lays143 : Go.Proofs.Lays.n143 Tryd.prog Tryd.lays143_ren := {
  mixed := by kernel_rfl
  f143 := Tryd.func80.trans (congrArg some (by kernel_rfl))
  f217 := Tryd.func76.trans (congrArg some (by kernel_rfl))
  f219 := Tryd.func77.trans (congrArg some (by kernel_rfl))
  f224 := Tryd.func89.trans (congrArg some (by kernel_rfl))
  f225 := Tryd.func88.trans (congrArg some (by kernel_rfl))
  f266 := Tryd.func87.trans (congrArg some (by kernel_rfl))
  f267 := Tryd.func90.trans (congrArg some (by kernel_rfl))
  f314 := Tryd.func97.trans (congrArg some (by kernel_rfl))
  t3 := Tryd.underlying3
  a3 := Tryd.isAgg3
  z3 := Tryd.sizeOf3
  v3 := Tryd.zeroValue3
  t4 := Tryd.underlying4
  a4 := Tryd.isAgg4
  z4 := Tryd.sizeOf4
  v4 := Tryd.zeroValue4
  t5 := Tryd.underlying5
  a5 := Tryd.isAgg5
  z5 := Tryd.sizeOf5
  v5 := Tryd.zeroValue5
  t9 := Tryd.underlying9
  a9 := Tryd.isAgg9
  z9 := Tryd.sizeOf9
  v9 := Tryd.zeroValue9
  t46 := Tryd.underlying96
  a46 := Tryd.isAgg96
  z46 := Tryd.sizeOf96
  v46 := Tryd.zeroValue96
  t51 := Tryd.underlying102
  a51 := Tryd.isAgg102
  z51 := Tryd.sizeOf102
  v51 := Tryd.zeroValue102
  t146 := Tryd.underlying103
  a146 := Tryd.isAgg103
  z146 := Tryd.sizeOf103
  v146 := Tryd.zeroValue103
  g1 := by kernel_rfl }
theorem Tryd.strings_Index_one (s : ByteArray) (c : UInt8) (w : World) :
    Calls Tryd.prog 80 #[.string s, .string ⟨#[c]⟩] w fun e w' => e = .returned (.int .i64 (Lib.indexByte s.data.toList c)) ∧ w' = w := Any.strings_Index_one Tryd.lays143 s c w
def Tryd.lays145_ren : Go.Shelf.Ren := ⟨fun | 145 => 61 | 220 => 69 | 219 => 77 | 217 => 76 | 225 => 88 | 224 => 89 | 267 => 90 | 266 => 87 | 314 => 97 | n => n, fun | 9 => 9 | 4 => 4 | 59 => 76 | 3 => 3 | 5 => 5 | 46 => 96 | 146 => 103 | 51 => 102 | n => n, fun | 1 => 0 | n => n⟩
theorem Tryd.lays145 : Go.Proofs.Lays.n145 Tryd.prog Tryd.lays145_ren := {
  mixed := by kernel_rfl
  f145 := Tryd.func61.trans (congrArg some (by kernel_rfl))
  f217 := Tryd.func76.trans (congrArg some (by kernel_rfl))
  f219 := Tryd.func77.trans (congrArg some (by kernel_rfl))
  f220 := Tryd.func69.trans (congrArg some (by kernel_rfl))
  f224 := Tryd.func89.trans (congrArg some (by kernel_rfl))
  f225 := Tryd.func88.trans (congrArg some (by kernel_rfl))
  f266 := Tryd.func87.trans (congrArg some (by kernel_rfl))
  f267 := Tryd.func90.trans (congrArg some (by kernel_rfl))
  f314 := Tryd.func97.trans (congrArg some (by kernel_rfl))
  t3 := Tryd.underlying3
  a3 := Tryd.isAgg3
  z3 := Tryd.sizeOf3
  v3 := Tryd.zeroValue3
  t4 := Tryd.underlying4
  a4 := Tryd.isAgg4
  z4 := Tryd.sizeOf4
  v4 := Tryd.zeroValue4
  t5 := Tryd.underlying5
  a5 := Tryd.isAgg5
  z5 := Tryd.sizeOf5
  v5 := Tryd.zeroValue5
  t9 := Tryd.underlying9
  a9 := Tryd.isAgg9
  z9 := Tryd.sizeOf9
  v9 := Tryd.zeroValue9
  t46 := Tryd.underlying96
  a46 := Tryd.isAgg96
  z46 := Tryd.sizeOf96
  v46 := Tryd.zeroValue96
  t51 := Tryd.underlying102
  a51 := Tryd.isAgg102
  z51 := Tryd.sizeOf102
  v51 := Tryd.zeroValue102
  t59 := Tryd.underlying76
  a59 := Tryd.isAgg76
  z59 := Tryd.sizeOf76
  v59 := Tryd.zeroValue76
  t146 := Tryd.underlying103
  a146 := Tryd.isAgg103
  z146 := Tryd.sizeOf103
  v146 := Tryd.zeroValue103
  g1 := by kernel_rfl }
theorem Tryd.strings_Cut (s sep : ByteArray) (m : Int) (w : World) (hs : s.size < 4294967281) (hm : w.cell? ⟨0, 0, none⟩ = some (.int .i64 m)) :
    Calls Tryd.prog 61 #[.string s, .string sep] w fun e w' => e = .returned (.tuple #[.string ⟨(Lib.cut s.data.toList sep.data.toList).1.toArray⟩, .string ⟨(Lib.cut s.data.toList sep.data.toList).2.1.toArray⟩, .bool (Lib.cut s.data.toList sep.data.toList).2.2]) ∧ ∃ n, w' = w.drewN n := Any.strings_Cut Tryd.lays145 s sep m w hs hm
def Tryd.lays138_ren : Go.Shelf.Ren := ⟨fun | 138 => 72 | 195 => 78 | 218 => 79 | 143 => 80 | 219 => 77 | 217 => 76 | 225 => 88 | 224 => 89 | 267 => 90 | 266 => 87 | 314 => 97 | n => n, fun | 9 => 9 | 3 => 3 | 4 => 4 | 5 => 5 | 0 => 0 | 46 => 96 | 146 => 103 | 51 => 102 | n => n, fun | 1 => 0 | n => n⟩
theorem Tryd.lays138 : Go.Proofs.Lays.n138 Tryd.prog Tryd.lays138_ren := {
  mixed := by kernel_rfl
  f138 := Tryd.func72.trans (congrArg some (by kernel_rfl))
  f143 := Tryd.func80.trans (congrArg some (by kernel_rfl))
  f195 := Tryd.func78.trans (congrArg some (by kernel_rfl))
  f217 := Tryd.func76.trans (congrArg some (by kernel_rfl))
  f218 := Tryd.func79.trans (congrArg some (by kernel_rfl))
  f219 := Tryd.func77.trans (congrArg some (by kernel_rfl))
  f224 := Tryd.func89.trans (congrArg some (by kernel_rfl))
  f225 := Tryd.func88.trans (congrArg some (by kernel_rfl))
  f266 := Tryd.func87.trans (congrArg some (by kernel_rfl))
  f267 := Tryd.func90.trans (congrArg some (by kernel_rfl))
  f314 := Tryd.func97.trans (congrArg some (by kernel_rfl))
  t0 := Tryd.underlying0
  a0 := Tryd.isAgg0
  z0 := Tryd.sizeOf0
  v0 := Tryd.zeroValue0
  t3 := Tryd.underlying3
  a3 := Tryd.isAgg3
  z3 := Tryd.sizeOf3
  v3 := Tryd.zeroValue3
  t4 := Tryd.underlying4
  a4 := Tryd.isAgg4
  z4 := Tryd.sizeOf4
  v4 := Tryd.zeroValue4
  t5 := Tryd.underlying5
  a5 := Tryd.isAgg5
  z5 := Tryd.sizeOf5
  v5 := Tryd.zeroValue5
  t9 := Tryd.underlying9
  a9 := Tryd.isAgg9
  z9 := Tryd.sizeOf9
  v9 := Tryd.zeroValue9
  t46 := Tryd.underlying96
  a46 := Tryd.isAgg96
  z46 := Tryd.sizeOf96
  v46 := Tryd.zeroValue96
  t51 := Tryd.underlying102
  a51 := Tryd.isAgg102
  z51 := Tryd.sizeOf102
  v51 := Tryd.zeroValue102
  t146 := Tryd.underlying103
  a146 := Tryd.isAgg103
  z146 := Tryd.sizeOf103
  v146 := Tryd.zeroValue103
  g1 := by kernel_rfl }
theorem Tryd.strings_Count_one (s : ByteArray) (c : UInt8) (w : World) :
    Calls Tryd.prog 72 #[.string s, .string ⟨#[c]⟩] w fun e w' => e = .returned (.int .i64 (Lib.countByte s.data.toList c)) ∧ w' = w := Any.strings_Count_one Tryd.lays138 s c w
def Tryd.laysGw17_ren : Go.Shelf.Ren := ⟨fun | 17 => 96 | 15 => 100 | 20 => 101 | n => n, fun | 9 => 9 | 23 => 100 | 4 => 4 | 3 => 3 | 0 => 0 | 21 => 21 | n => n, fun | n => n⟩
theorem Tryd.laysGw17 : Go.Proofs.LaysGw.n17 Tryd.prog Tryd.laysGw17_ren := {
  mixed := by kernel_rfl
  f15 := Tryd.func100.trans (congrArg some (by kernel_rfl))
  f17 := Tryd.func96.trans (congrArg some (by kernel_rfl))
  f20 := Tryd.func101.trans (congrArg some (by kernel_rfl))
  t0 := Tryd.underlying0
  a0 := Tryd.isAgg0
  z0 := Tryd.sizeOf0
  v0 := Tryd.zeroValue0
  i0 := by kernel_rfl
  t3 := Tryd.underlying3
  a3 := Tryd.isAgg3
  z3 := Tryd.sizeOf3
  v3 := Tryd.zeroValue3
  i3 := by kernel_rfl
  t4 := Tryd.underlying4
  a4 := Tryd.isAgg4
  z4 := Tryd.sizeOf4
  v4 := Tryd.zeroValue4
  i4 := by kernel_rfl
  t9 := Tryd.underlying9
  a9 := Tryd.isAgg9
  z9 := Tryd.sizeOf9
  v9 := Tryd.zeroValue9
  i9 := by kernel_rfl
  t21 := Tryd.underlying21
  a21 := Tryd.isAgg21
  z21 := Tryd.sizeOf21
  v21 := Tryd.zeroValue21
  i21 := by kernel_rfl
  t23 := Tryd.underlying100
  a23 := Tryd.isAgg100
  z23 := Tryd.sizeOf100
  v23 := Tryd.zeroValue100
  i23 := by kernel_rfl }
theorem Tryd.strings_ContainsFunc_runes (g : Nat) (lb : Array Value) (eg : ∀ args w, (callFunc g args).run Tryd.prog w = .ok (.enter g args) w) (p : Nat → Bool) (s : ByteArray) (w : World) (hp : PredAtRunes Tryd.prog g lb p w) :
    Calls Tryd.prog 96 #[.string s, .func (.func g) #[] lb] w fun e w' => e = .returned (.bool (decide (0 ≤ Lib.idxFunc p true s))) ∧ Below w.heap.size w w' := Any.strings_ContainsFunc_runes Tryd.laysGw17 g lb eg p s w hp
def Tryd.lays147_ren : Go.Shelf.Ren := ⟨fun | 147 => 82 | 221 => 93 | 268 => 99 | 138 => 72 | 143 => 80 | 195 => 78 | 197 => 92 | 218 => 79 | 219 => 77 | 260 => 98 | 217 => 76 | 225 => 88 | 224 => 89 | 267 => 90 | 266 => 87 | 314 => 97 | n => n, fun | 9 => 9 | 3 => 3 | 31 => 30 | 4 => 4 | 0 => 0 | 105 => 97 | 21 => 21 | 5 => 5 | 46 => 96 | 119 => 109 | 139 => 112 | 138 => 111 | 146 => 103 | 51 => 102 | n => n, fun | 1 => 0 | 3 => 1 | 4 => 2 | n => n⟩
theorem Tryd.lays147 : Go.Proofs.Lays.n147 Tryd.prog Tryd.lays147_ren := {
  mixed := by kernel_rfl
  f138 := Tryd.func72.trans (congrArg some (by kernel_rfl))
  f143 := Tryd.func80.trans (congrArg some (by kernel_rfl))
  f147 := Tryd.func82.trans (congrArg some (by kernel_rfl))
  f195 := Tryd.func78.trans (congrArg some (by kernel_rfl))
  f197 := Tryd.func92.trans (congrArg some (by kernel_rfl))
  f217 := Tryd.func76.trans (congrArg some (by kernel_rfl))
  f218 := Tryd.func79.trans (congrArg some (by kernel_rfl))
  f219 := Tryd.func77.trans (congrArg some (by kernel_rfl))
  f221 := Tryd.func93.trans (congrArg some (by kernel_rfl))
  f224 := Tryd.func89.trans (congrArg some (by kernel_rfl))
  f225 := Tryd.func88.trans (congrArg some (by kernel_rfl))
  f260 := Tryd.func98.trans (congrArg some (by kernel_rfl))
  f266 := Tryd.func87.trans (congrArg some (by kernel_rfl))
  f267 := Tryd.func90.trans (congrArg some (by kernel_rfl))
  f268 := Tryd.func99.trans (congrArg some (by kernel_rfl))
  f314 := Tryd.func97.trans (congrArg some (by kernel_rfl))
  t0 := Tryd.underlying0
  a0 := Tryd.isAgg0
  z0 := Tryd.sizeOf0
  v0 := Tryd.zeroValue0
  t3 := Tryd.underlying3
  a3 := Tryd.isAgg3
  z3 := Tryd.sizeOf3
  v3 := Tryd.zeroValue3
  t4 := Tryd.underlying4
  a4 := Tryd.isAgg4
  z4 := Tryd.sizeOf4
  v4 := Tryd.zeroValue4
  t5 := Tryd.underlying5
  a5 := Tryd.isAgg5
  z5 := Tryd.sizeOf5
  v5 := Tryd.zeroValue5
  t9 := Tryd.underlying9
  a9 := Tryd.isAgg9
  z9 := Tryd.sizeOf9
  v9 := Tryd.zeroValue9
  t21 := Tryd.underlying21
  a21 := Tryd.isAgg21
  z21 := Tryd.sizeOf21
  v21 := Tryd.zeroValue21
  t31 := Tryd.underlying30
  a31 := Tryd.isAgg30
  z31 := Tryd.sizeOf30
  v31 := Tryd.zeroValue30
  t46 := Tryd.underlying96
  a46 := Tryd.isAgg96
  z46 := Tryd.sizeOf96
  v46 := Tryd.zeroValue96
  t51 := Tryd.underlying102
  a51 := Tryd.isAgg102
  z51 := Tryd.sizeOf102
  v51 := Tryd.zeroValue102
  t105 := Tryd.underlying97
  a105 := Tryd.isAgg97
  z105 := Tryd.sizeOf97
  v105 := Tryd.zeroValue97
  t119 := Tryd.underlying109
  a119 := Tryd.isAgg109
  z119 := Tryd.sizeOf109
  t138 := Tryd.underlying111
  a138 := Tryd.isAgg111
  z138 := Tryd.sizeOf111
  v138 := Tryd.zeroValue111
  t139 := Tryd.underlying112
  a139 := Tryd.isAgg112
  z139 := Tryd.sizeOf112
  v139 := Tryd.zeroValue112
  t146 := Tryd.underlying103
  a146 := Tryd.isAgg103
  z146 := Tryd.sizeOf103
  v146 := Tryd.zeroValue103
  g1 := by kernel_rfl
  g3 := by kernel_rfl
  g4 := by kernel_rfl }
theorem Tryd.strings_SplitN (s sep : ByteArray) (n : Nat) (m : Int) (w : World) (hs : s.size < 4294967281) (hm : w.cell? ⟨0, 0, none⟩ = some (.int .i64 m)) (h1 : 1 ≤ sep.size) (hn : 1 ≤ n) (hn63 : n ≤ 9223372036854775807) :
    Calls Tryd.prog 82 #[.string s, .string sep, .int .i64 n] w fun e w' =>
      e = .returned (.slice (some ⟨w.heap.size, 0, none⟩) (Lib.splitB sep 0 (min n (s.size + 1) - 1) s).length (min n (s.size + 1))) ∧ w' = w.alloc (.cells (Lib.cellsOf (Lib.splitB sep 0 (min n (s.size + 1) - 1) s) (min n (s.size + 1))) 9) := Any.strings_SplitN Tryd.lays147 (by kernel_rfl) s sep n m w hs hm h1 hn hn63
def Tryd.lays109_ren : Go.Shelf.Ren := ⟨fun | 109 => 59 | n => n, fun | 31 => 30 | 9 => 9 | 3 => 3 | 0 => 0 | 4 => 4 | n => n, fun | n => n⟩
theorem Tryd.lays109 : Go.Proofs.Lays.n109 Tryd.prog Tryd.lays109_ren := {
  mixed := by kernel_rfl
  f109 := Tryd.func59.trans (congrArg some (by kernel_rfl))
  t0 := Tryd.underlying0
  a0 := Tryd.isAgg0
  z0 := Tryd.sizeOf0
  v0 := Tryd.zeroValue0
  t3 := Tryd.underlying3
  a3 := Tryd.isAgg3
  z3 := Tryd.sizeOf3
  v3 := Tryd.zeroValue3
  t4 := Tryd.underlying4
  a4 := Tryd.isAgg4
  z4 := Tryd.sizeOf4
  v4 := Tryd.zeroValue4
  t9 := Tryd.underlying9
  a9 := Tryd.isAgg9
  z9 := Tryd.sizeOf9
  v9 := Tryd.zeroValue9
  t31 := Tryd.underlying30
  a31 := Tryd.isAgg30
  z31 := Tryd.sizeOf30
  v31 := Tryd.zeroValue30 }
open Go.Lib in
theorem Tryd.slices_Index_string (b off n c : Nat) (zs : List ByteArray) (x : ByteArray) (w : World) (hz : n ≤ zs.length) (hbig : n ≤ 9223372036854775807) (hc : ∀ j, j < zs.length → w.cell? ⟨b, off + j, none⟩ = some (.string (zs.getD j ByteArray.empty))) :
    Calls Tryd.prog 59 #[.slice (some ⟨b, off, none⟩) n c, .string x] w fun e w' => e = .returned (.int .i64 (Lib.idxOfS (zs.take n) x)) ∧ w' = w := Any.slices_Index_string Tryd.lays109 b off n c zs x w hz hbig hc
open Go.Lib in
theorem Tryd.slices_Index_string_empty (a : Option Addr) (c : Nat) (x : ByteArray) (w : World) :
    Calls Tryd.prog 59 #[.slice a 0 c, .string x] w fun e w' => e = .returned (.int .i64 (Lib.idxOfS [] x)) ∧ w' = w := Any.slices_Index_string_empty Tryd.lays109 a c x w
def Tryd.laysNm216_ren : Go.Shelf.Ren := ⟨fun | 16 => 35 | n => n, fun | 24 => 30 | 9 => 9 | 4 => 4 | n => n, fun | n => n⟩
theorem Tryd.laysNm216 : Go.Proofs.Lays2.n16 Tryd.prog Tryd.laysNm216_ren := {
  mixed := by kernel_rfl
  f16 := Tryd.func35.trans (congrArg some (by kernel_rfl))
  t4 := Tryd.underlying4
  a4 := Tryd.isAgg4
  z4 := Tryd.sizeOf4
  v4 := Tryd.zeroValue4
  t9 := Tryd.underlying9
  a9 := Tryd.isAgg9
  z9 := Tryd.sizeOf9
  v9 := Tryd.zeroValue9
  t24 := Tryd.underlying30
  a24 := Tryd.isAgg30
  z24 := Tryd.sizeOf30
  v24 := Tryd.zeroValue30
  i9 := by kernel_rfl }
theorem Tryd.slices_Clone_string (b off n c : Nat) (zs : List ByteArray) (w : World) (hz : n ≤ zs.length) (hbig : n * 16 ≤ 140737488355328) (hc : ∀ j, j < zs.length → w.cell? ⟨b, off + j, none⟩ = some (.string (zs.getD j ByteArray.empty))) :
    Calls Tryd.prog 35 #[.slice (some ⟨b, off, none⟩) n c] w fun e w' => ∃ v', e = .returned v' ∧ w'.ownsRow w.heap.size 9 1 v' n ((zs.take n).map (Value.string)) ∧ v' ≠ .slice none 0 0 ∧ Below w.heap.size w w' := Any.slices_Clone_string Tryd.laysNm216 b off n c zs w hz hbig hc
theorem Tryd.slices_Clone_string_nil (n c : Nat) (w : World) :
    Calls Tryd.prog 35 #[.slice none n c] w fun e w' => e = .returned (.slice none 0 0) ∧ w' = w := Any.slices_Clone_string_nil Tryd.laysNm216 n c w
theorem Tryd.slices_Clone_string_zero (a : Addr) (c : Nat) (w : World) :
    Calls Tryd.prog 35 #[.slice (some a) 0 c] w fun e w' => ∃ v', e = .returned v' ∧ w'.ownsRow w.heap.size 9 1 v' 0 [] ∧ v' ≠ .slice none 0 0 ∧ Below w.heap.size w w' := Any.slices_Clone_string_zero Tryd.laysNm216 a c w
end Go.Proofs.YtiofgepfcacgjaaDoor
namespace Go.Proofs.YtiofgepfcacgjaaDoor
open Go.RowKit

theorem Tryd.infoUri : (Tryd.prog.info? 54).map (fun i => (i.zero, i.size, i.bytes)) = some (some (.agg #[.string ⟨#[]⟩, .string ⟨#[]⟩, .string ⟨#[]⟩, .string ⟨#[]⟩]), 4, 64) := by kernel_rfl
/-- the library's own variable holds some number -/
def VarIn (w : World) : Prop := ∃ m, w.cell? ⟨0, 0, none⟩ = some (.int .i64 m)
theorem VarIn.lt {w : World} (h : VarIn w) : 0 < w.heap.size := by
  obtain ⟨m, h⟩ := h
  rcases Nat.eq_zero_or_pos w.heap.size with h0 | h0
  · exfalso
    have : w.heap[0]? = none := Array.getElem?_eq_none (by omega)
    simp [World.cell?, this] at h
  · exact h0
theorem VarIn.below {w w' : World} (h : VarIn w) (hb : Below w.heap.size w w') : VarIn w' := by
  have h0 := h.lt
  obtain ⟨m, h⟩ := h
  exact ⟨m, (hb.cell (p := ⟨0, 0, none⟩) h0).trans h⟩
def uval (q : Quad) : Value := .agg #[.string (str q.1), .string (str q.2.1), .string (str q.2.2.1), .string (str q.2.2.2)]
def uriSays (l : List UInt8) : Ending := .returned (.tuple #[uval (uriV l), .int .i64 (uriE l)])

/-- a world in which draws alone have been made -/
def Drawn (w w' : World) : Prop := w'.heap.size = w.heap.size ∧ Below w.heap.size w w'
theorem Drawn.of (w : World) (n : Nat) : Drawn w (w.drewN n) := ⟨rfl, belowDrewN (Below.refl _ _) n⟩
theorem Drawn.trans {w w' w'' : World} (h : Drawn w w') (h' : Drawn w' w'') : Drawn w w'' := ⟨h'.1.trans h.1, h.2.chain h'.2⟩
theorem cutFront_any (S : ByteArray) (hs : S.size ≤ maxLen) (w : World) (o : Obj) :
    Calls Tryd.prog 61 #[.string S, .string ⟨#[63]⟩] (w.alloc o) fun e w' => (∃ f, e = .returned (.tuple #[.string (str (frontL S.data.toList)), .string (str (queryL S.data.toList)), .bool f])) ∧ ∃ w1, w' = w1.alloc o ∧ Drawn w w1 :=
  (cut1_any S 63 hs _).mono fun _ _ ⟨he, n, hw⟩ => ⟨⟨_, he⟩, w.drewN n, hw, Drawn.of w n⟩
theorem cutScheme_any (S : ByteArray) (hs : S.size ≤ 4096) (w : World) (o : Obj) (hv : VarIn w) :
    Calls Tryd.prog 61 #[.string S, .string ⟨#[58, 47, 47]⟩] (w.alloc o) fun e w' => e = .returned (.tuple #[.string (str (Lib.cut S.data.toList [58, 47, 47]).1), .string (str (Lib.cut S.data.toList [58, 47, 47]).2.1), .bool (Lib.cut S.data.toList [58, 47, 47]).2.2]) ∧
      ∃ w1, w' = w1.alloc o ∧ Drawn w w1 := by
  obtain ⟨m, hm⟩ := hv.below ((Below.refl w.heap.size w).alloc (Nat.le_refl _) o)
  exact (Tryd.strings_Cut S ⟨#[58, 47, 47]⟩ m _ (by omega) hm).mono fun _ _ ⟨he, n, hw⟩ => ⟨he, w.drewN n, hw, Drawn.of w n⟩

set_option maxRecDepth 100000 in
set_option maxHeartbeats 2000000 in
theorem parse_any (s : ByteArray) (hs : s.size ≤ maxLen) (w : World) (hv : VarIn w) :
    Calls Tryd.prog 39 #[.string s] w fun e w' => e = uriSays s.data.toList ∧ Below w.heap.size w w' := by
  have hs' := hs
  unfold maxLen at hs
  have hsz : s.data.toList.length = s.size := rfl
  by_cases hl : 4096 < s.size
  · obtain ⟨hE, hV⟩ := uri_large (l := s.data.toList) hl
    have HE := Lib.hid hE; have HV := Lib.hid hV; clear hE hV
    go_enter Tryd.func39, Tryd.ntmps39
    go_wp2
    refine bodyPost_ret (v := .tuple #[uval noU, .int .i64 3]) (by simp [results, Tryd.results39, go_sem, uval, noU, str]) rfl ⟨?_, ?_⟩
    · unfold uriSays; rw [HE.out, HV.out]
    · exact (Below.refl _ _).alloc (Nat.le_refl _) _
  have hl4 : s.data.toList.length ≤ 4096 := by omega
  have hbadP : uriL s.data.toList = none → Ending.returned (.tuple #[uval noU, .int .i64 2]) = uriSays s.data.toList := fun h => by
    unfold uriSays; rw [(uri_bad hl4 h).1, (uri_bad hl4 h).2]
  have hgoodP : ∀ q, uriL s.data.toList = some q → Ending.returned (.tuple #[uval q, .int .i64 0]) = uriSays s.data.toList := fun q h => by
    unfold uriSays; rw [(uri_good hl4 h).1, (uri_good hl4 h).2]
  have hall := allowed_any s hs'
  cases hok : okL s.data.toList with
  | false =>
    rw [hok] at hall
    have HB := Lib.hid (hbadP (uri_char hok)); clear hbadP hgoodP hok
    go_enter Tryd.func39, Tryd.ntmps39
    go_wp2_with fail
    refine (hall _).mono ?_
    rintro e w' ⟨rfl, rfl⟩
    go_wp2
    refine bodyPost_ret (v := .tuple #[uval noU, .int .i64 2]) (by simp [results, Tryd.results39, go_sem, uval, noU, str]) rfl ⟨HB.out, ?_⟩
    exact (Below.refl _ _).alloc (Nat.le_refl _) _
  | true =>
    rw [hok] at hall
    have hcutc := cutScheme_any s (by omega)
    have hother := @uri_other s.data.toList
    have hh := fun a r => @uri_http s.data.toList a r hok
    have hhs := fun a r => @uri_https s.data.toList a r hok
    have hfound := @cut_found s.data.toList [58, 47, 47]
    obtain ⟨a, r, f, hcr⟩ : ∃ a r f, Lib.cut s.data.toList [58, 47, 47] = (a, r, f) := ⟨_, _, _, rfl⟩
    rw [hcr] at hcutc hfound
    dsimp only at hcutc hfound
    cases f with
    | false =>
      have HB := Lib.hid (hbadP (hother hcr (Or.inl rfl))); clear hbadP hgoodP hok hcr hh hhs hother hfound
      go_enter Tryd.func39, Tryd.ntmps39
      go_wp2_with fail
      refine (hall _).mono ?_
      rintro e w' ⟨rfl, rfl⟩
      go_wp2_with fail
      refine (hcutc w _ hv).mono ?_
      rintro e w' ⟨rfl, w1, rfl, hd1⟩
      rw [← hd1.1]
      go_wp2
      refine bodyPost_ret (v := .tuple #[uval noU, .int .i64 2]) (by simp [results, Tryd.results39, go_sem, uval, noU, str]) rfl ⟨HB.out, ?_⟩
      exact hd1.2.alloc (by rw [hd1.1]; exact Nat.le_refl _) _
    | true =>
      have hlen := congrArg List.length (hfound rfl)
      rw [List.length_append, List.length_append] at hlen
      have hr : r.length ≤ 4096 := by omega
      have ha : a.length ≤ 4096 := by omega
      by_cases hsch : a = httpL ∨ a = httpsL
      · have hu : uriL s.data.toList = restU a r := by
          rcases hsch with h | h
          · rw [h]; exact hh a r hcr h
          · rw [h]; exact hhs a r hcr h
        have hcutr := cutFront_any (str r) (by rw [str_size]; unfold maxLen; omega)
        rw [str_list] at hcutr
        have hF : (frontL r).length ≤ 4096 := by unfold frontL; rw [List.length_take]; omega
        have hend := hostEnd_any (str (frontL r)) (by rw [str_size]; unfold maxLen; omega)
        rw [str_list] at hend
        have hrn := @restU_none r a
        have hrs := @restU_some r a
        rw [← hu] at hrn hrs
        have hle := endL_le (frontL r)
        have H2 := Lib.hid hbadP; have H3 := Lib.hid hgoodP; have H4 := Lib.hid hrn; have H5 := Lib.hid hrs; clear hbadP hgoodP hrn hrs hok hcr hh hhs hother hfound hu
        have h12 : (!a == [104, 116, 116, 112]) = false ∨ ((!a == [104, 116, 116, 112]) = true ∧ (!a == [104, 116, 116, 112, 115]) = false) := by
          rcases hsch with h | h
          · left; rw [h]; rfl
          · right; rw [h]; exact ⟨rfl, rfl⟩
        clear hsch
        generalize frontL r = F at *
        generalize queryL r = Q at *
        obtain ⟨S, rfl⟩ : ∃ S : ByteArray, F = S.data.toList := ⟨str F, rfl⟩
        have heta : str S.data.toList = S := (str_eta S).symm
        rw [heta] at hcutr hend
        obtain ⟨k, hk⟩ : ∃ k, endL S.data.toList = k := ⟨_, rfl⟩
        rw [hk] at hend hle
        have hFs : S.data.toList.length = S.size := rfl
        rw [hFs] at hF hle
        have HK := Lib.hid hk; clear hk hFs heta
        rcases h12 with h1 | ⟨h1, h2⟩
        all_goals
          by_cases hk0 : k = 0
          · have HB := Lib.hid (H2.out (H4.out (Or.inl (HK.out.trans hk0)))); clear H2 H3 H4 H5 HK
            subst hk0
            go_enter Tryd.func39, Tryd.ntmps39
            go_wp2_with fail
            refine (hall _).mono ?_
            rintro e w' ⟨rfl, rfl⟩
            go_wp2_with fail
            refine (hcutc w _ hv).mono ?_
            rintro e w' ⟨rfl, w1, rfl, hd1⟩
            rw [← hd1.1]
            go_wp2_with fail
            refine (hcutr w1 _).mono ?_
            rintro e w' ⟨⟨f, rfl⟩, w2, rfl, hd2⟩
            rw [← hd2.1]
            go_wp2_with fail
            refine (hend _).mono ?_
            rintro e w' ⟨rfl, rfl⟩
            go_wp2
            refine bodyPost_ret (v := .tuple #[uval noU, .int .i64 2]) (by simp [results, Tryd.results39, go_sem, uval, noU, str]) rfl ⟨HB.out, ?_⟩
            exact (hd1.trans hd2).2.alloc (by rw [(hd1.trans hd2).1]; exact Nat.le_refl _) _
          · have hk1 : ((k : Int) == 0) = false := by simp; omega
            by_cases hlt : k < S.size
            · have hk2 : decide ((k : Int) < (S.size : Int)) = true := by simp; omega
              by_cases h47 : S[k] = 47
              · have h48 : ((S[k].toNat : Int) != 47) = false := by rw [h47]; rfl
                have HB := Lib.hid (H3.out _ (H5.out (fun h => hk0 (HK.out.symm.trans h)) (Or.inr (by rw [HK.out]; exact ⟨hlt, h47⟩)))); rw [HK.out] at HB; clear H2 H3 H4 H5 HK
                go_enter Tryd.func39, Tryd.ntmps39
                go_wp2_with fail
                refine (hall _).mono ?_
                rintro e w' ⟨rfl, rfl⟩
                go_wp2_with fail
                refine (hcutc w _ hv).mono ?_
                rintro e w' ⟨rfl, w1, rfl, hd1⟩
                rw [← hd1.1]
                go_wp2_with fail
                refine (hcutr w1 _).mono ?_
                rintro e w' ⟨⟨f, rfl⟩, w2, rfl, hd2⟩
                rw [← hd2.1]
                go_wp2_with fail
                refine (hend _).mono ?_
                rintro e w' ⟨rfl, rfl⟩
                go_wp2
                go_region
                go_wp2
                refine bodyPost_ret (v := .tuple #[.agg #[.string (str a), .string (S.extract 0 k), .string (S.extract k S.size), .string (str Q)], .int .i64 0]) (by simp [results, Tryd.results39, go_sem, str]) rfl ⟨?_, ?_⟩
                · rw [← HB.out]; unfold uval; rw [ext_pre, ext_suf]
                · exact ((hd1.trans hd2).2.alloc (by rw [(hd1.trans hd2).1]; exact Nat.le_refl _) _).drew
              · have h48 : ((S[k].toNat : Int) != 47) = true := by
                  have : S[k].toNat ≠ 47 := fun e => h47 (UInt8.toNat_inj.1 e)
                  simp; omega
                have HB := Lib.hid (H2.out (H4.out (Or.inr (by rw [HK.out]; exact ⟨hlt, h47⟩)))); clear H2 H3 H4 H5 HK h47
                go_enter Tryd.func39, Tryd.ntmps39
                go_wp2_with fail
                refine (hall _).mono ?_
                rintro e w' ⟨rfl, rfl⟩
                go_wp2_with fail
                refine (hcutc w _ hv).mono ?_
                rintro e w' ⟨rfl, w1, rfl, hd1⟩
                rw [← hd1.1]
                go_wp2_with fail
                refine (hcutr w1 _).mono ?_
                rintro e w' ⟨⟨f, rfl⟩, w2, rfl, hd2⟩
                rw [← hd2.1]
                go_wp2_with fail
                refine (hend _).mono ?_
                rintro e w' ⟨rfl, rfl⟩
                go_wp2
                refine bodyPost_ret (v := .tuple #[uval noU, .int .i64 2]) (by simp [results, Tryd.results39, go_sem, uval, noU, str]) rfl ⟨HB.out, ?_⟩
                exact (hd1.trans hd2).2.alloc (by rw [(hd1.trans hd2).1]; exact Nat.le_refl _) _
            · have hk2 : decide ((k : Int) < (S.size : Int)) = false := by simp; omega
              have HB := Lib.hid (H3.out _ (H5.out (fun h => hk0 (HK.out.symm.trans h)) (Or.inl (HK.out.trans (by show k = S.size; omega))))); rw [HK.out] at HB; clear H2 H3 H4 H5 HK
              go_enter Tryd.func39, Tryd.ntmps39
              go_wp2_with fail
              refine (hall _).mono ?_
              rintro e w' ⟨rfl, rfl⟩
              go_wp2_with fail
              refine (hcutc w _ hv).mono ?_
              rintro e w' ⟨rfl, w1, rfl, hd1⟩
              rw [← hd1.1]
              go_wp2_with fail
              refine (hcutr w1 _).mono ?_
              rintro e w' ⟨⟨f, rfl⟩, w2, rfl, hd2⟩
              rw [← hd2.1]
              go_wp2_with fail
              refine (hend _).mono ?_
              rintro e w' ⟨rfl, rfl⟩
              go_wp2
              go_region
              go_wp2
              refine bodyPost_ret (v := .tuple #[.agg #[.string (str a), .string (S.extract 0 k), .string (S.extract k S.size), .string (str Q)], .int .i64 0]) (by simp [results, Tryd.results39, go_sem, str]) rfl ⟨?_, ?_⟩
              · rw [← HB.out]; unfold uval; rw [ext_pre, ext_suf]
              · exact ((hd1.trans hd2).2.alloc (by rw [(hd1.trans hd2).1]; exact Nat.le_refl _) _).drew
      · have hsch' : a ≠ httpL ∧ a ≠ httpsL := ⟨fun h => hsch (Or.inl h), fun h => hsch (Or.inr h)⟩
        have h1 : (!a == [104, 116, 116, 112]) = true := by have := hsch'.1; unfold httpL at this; simpa using this
        have h2 : (!a == [104, 116, 116, 112, 115]) = true := by have := hsch'.2; unfold httpsL at this; simpa using this
        have HB := Lib.hid (hbadP (hother hcr (Or.inr hsch'))); clear hbadP hgoodP hok hcr hh hhs hother hfound hsch hsch'
        go_enter Tryd.func39, Tryd.ntmps39
        go_wp2_with fail
        refine (hall _).mono ?_
        rintro e w' ⟨rfl, rfl⟩
        go_wp2_with fail
        refine (hcutc w _ hv).mono ?_
        rintro e w' ⟨rfl, w1, rfl, hd1⟩
        rw [← hd1.1]
        go_wp2
        refine bodyPost_ret (v := .tuple #[uval noU, .int .i64 2]) (by simp [results, Tryd.results39, go_sem, uval, noU, str]) rfl ⟨HB.out, ?_⟩
        exact hd1.2.alloc (by rw [hd1.1]; exact Nat.le_refl _) _
end Go.Proofs.YtiofgepfcacgjaaDoor
namespace Go.Proofs.YtiofgepfcacgjaaDoor
open Go.RowKit

theorem str_app (a b : List UInt8) : str a ++ str b = str (a ++ b) := by
  apply ByteArray.ext; apply Array.ext'; simp [ByteArray.data_append]
/-- no part is longer than what can be reached -/
def SizedU (q : Quad) : Prop := q.1.length ≤ 140737488355328 ∧ q.2.1.length ≤ 140737488355328 ∧ q.2.2.1.length ≤ 140737488355328 ∧ q.2.2.2.length ≤ 140737488355328
theorem print_none {q : Quad} (h : q.2.2.2 = []) : str q.1 ++ ⟨#[58, 47, 47]⟩ ++ str q.2.1 ++ str q.2.2.1 = str (printL q) := by
  have e : (⟨#[58, 47, 47]⟩ : ByteArray) = str [58, 47, 47] := rfl
  rw [e, str_app, str_app, str_app]; unfold printL; rw [if_pos h, List.append_nil]
theorem print_some {q : Quad} (h : q.2.2.2 ≠ []) : str q.1 ++ ⟨#[58, 47, 47]⟩ ++ str q.2.1 ++ str q.2.2.1 ++ (⟨#[63]⟩ ++ str q.2.2.2) = str (printL q) := by
  have e : (⟨#[58, 47, 47]⟩ : ByteArray) = str [58, 47, 47] := rfl
  have e' : (⟨#[63]⟩ : ByteArray) = str [63] := rfl
  rw [e, e', str_app, str_app, str_app, str_app, str_app]; unfold printL; rw [if_neg h]; rfl
theorem print_some' {q : Quad} (h : q.2.2.2 ≠ []) : str q.1 ++ ⟨#[58, 47, 47]⟩ ++ str q.2.1 ++ str q.2.2.1 ++ ⟨#[63]⟩ ++ str q.2.2.2 = str (printL q) := by
  have e : (⟨#[58, 47, 47]⟩ : ByteArray) = str [58, 47, 47] := rfl
  have e' : (⟨#[63]⟩ : ByteArray) = str [63] := rfl
  rw [e, e', str_app, str_app, str_app, str_app, str_app]; unfold printL; rw [if_neg h, List.append_assoc]; rfl
theorem ret_s {a b : ByteArray} (h : a = b) : Ending.returned (.string a) = .returned (.string b) := by rw [h]

set_option maxRecDepth 100000 in
set_option maxHeartbeats 1000000 in
theorem print_any (q : Quad) (hz : SizedU q) (w : World) :
    Calls Tryd.prog 41 #[uval q] w fun e w' => e = .returned (.string (str (printL q))) ∧ Below w.heap.size w w' := by
  have hn := @print_none q
  have hs := @print_some q
  obtain ⟨a, b, c, d⟩ := q
  unfold uval
  unfold SizedU at hz
  dsimp only at hz hn hs ⊢
  generalize str (printL (a, b, c, d)) = R at *
  have hA : (str a).size = a.length := rfl
  have hB : (str b).size = b.length := rfl
  have hC : (str c).size = c.length := rfl
  have hD : (str d).size = d.length := rfl
  have HN := Lib.hid hn; have HS := Lib.hid hs; clear hn hs
  by_cases hd : d = []
  · have HE := Lib.hid hd
    have hd' : (!d == []) = false := by simp [hd]
    go_enter Tryd.func41, Tryd.ntmps41
    go_wp2
    go_ret
    exact ⟨ret_s (HN.out HE.out), (Below.refl _ _).alloc (Nat.le_refl _) _⟩
  · have HE := Lib.hid hd
    have hd' : (!d.isEmpty) = true := by simpa using hd
    clear hd
    go_enter Tryd.func41, Tryd.ntmps41
    go_wp2
    go_ret
    exact ⟨ret_s (HS.out HE.out), (Below.refl _ _).alloc (Nat.le_refl _) _⟩
end Go.Proofs.YtiofgepfcacgjaaDoor
