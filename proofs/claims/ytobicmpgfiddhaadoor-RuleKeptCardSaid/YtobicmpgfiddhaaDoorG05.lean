/- Texts merged by program, in build order: Shelf, RuleWord, HeldMore, RuleName, RuleRef, RuleIs, StrClone. -/
import Derived.Shelf.LaysM
import Derived.Shelf.Strconv.Clone
import Derived.Shelf.Strings.Search1
import Derived.Shelf.Strings.Search2
import Derived.Shelf.Strings.Search3
import Derived.Shelf.Strings.Count
import Derived.Shelf.GgClosure.StringsIndexFunc
import Derived.Ground.GgwProg
import Derived.Shelf.GgClosure.StringsIndexFuncTop
import Derived.Shelf.GgClosure.StringsRunes
import Derived.Shelf.Strings.Prefix
import Derived.Shelf.Strings.Split
import Derived.Shelf.Slices.Turned
import Derived.Ground.Names2Prog
import Derived.Shelf.Slices.Clone
import Derived.Test.YtobicmpgfiddhaaDoorProg
import Derived.Test.YtobicmpgfiddhaaDoorG04
import Derived.Test.YtobicmpgfiddhaaDoorG02
import Derived.Deep.RegionHeld3
import Derived.Deep.RegionLaw
import Derived.Deep.RegionWith
import Derived.Deep.Cut
import Derived.Deep.CutBlock
namespace Go.Proofs.YtobicmpgfiddhaaDoor
open Go.Shelf Go.RowKit Go.Lib
def Tryd.laysM316_ren : Go.Shelf.Ren := ⟨fun | 316 => 53 | n => n, fun | 9 => 9 | 3 => 3 | 4 => 4 | 37 => 46 | 0 => 0 | 127 => 84 | 5 => 5 | n => n, fun | n => n⟩
theorem Tryd.laysM316 : Go.Proofs.LaysM.n316 Tryd.prog Tryd.laysM316_ren := {
  mixed := by kernel_rfl
  f316 := Tryd.func53.trans (congrArg some (by kernel_rfl))
  t0 := Tryd.underlying0
  a0 := Tryd.isAgg0
  z0 := Tryd.sizeOf0
  v0 := Tryd.zeroValue0
  t3 := Tryd.underlying3
  a3 := Tryd.isAgg3
  z3 := Tryd.sizeOf3
  v3 := Tryd.zeroValue3
  t4 := Tryd.underlying4
  a4 := Tryd.isAgg4
  z4 := Tryd.sizeOf4
  v4 := Tryd.zeroValue4
  t9 := Tryd.underlying9
  a9 := Tryd.isAgg9
  z9 := Tryd.sizeOf9
  v9 := Tryd.zeroValue9
  t37 := Tryd.underlying46
  a37 := Tryd.isAgg46
  z37 := Tryd.sizeOf46
  v37 := Tryd.zeroValue46
  t127 := Tryd.underlying84
  a127 := Tryd.isAgg84
  z127 := Tryd.sizeOf84
  v127 := Tryd.zeroValue84
  t5 := Tryd.underlying5
  a5 := Tryd.isAgg5
  z5 := Tryd.sizeOf5
  v5 := Tryd.zeroValue5
  i0 := by kernel_rfl
  i3 := by kernel_rfl
  i4 := by kernel_rfl
  i5 := by kernel_rfl
  i9 := by kernel_rfl
  i37 := by kernel_rfl
  i127 := by kernel_rfl }
theorem Tryd.stringslite_Clone (s : ByteArray) (w : World) (hlim : s.size ≤ 281474976710656) :
    Calls Tryd.prog 53 #[.string s] w fun e w' => e = .returned (.string s) ∧ Below w.heap.size w w' := Any.stringslite_Clone Tryd.laysM316 s w hlim
def Tryd.lays143_ren : Go.Shelf.Ren := ⟨fun | 143 => 29 | 219 => 49 | 217 => 63 | 225 => 64 | 224 => 65 | 267 => 66 | 266 => 75 | 314 => 76 | n => n, fun | 9 => 9 | 3 => 3 | 4 => 4 | 5 => 5 | 46 => 82 | 146 => 90 | 51 => 89 | n => n, fun | 1 => 0 | n => n⟩
theorem Tryd.lays143 : Go.Proofs.Lays.n143 Tryd.prog Tryd.lays143_ren := {
  mixed := by kernel_rfl
  f143 := Tryd.func29.trans (congrArg some (by kernel_rfl))
  f217 := Tryd.func63.trans (congrArg some (by kernel_rfl))
  f219 := Tryd.func49.trans (congrArg some (by kernel_rfl))
  f224 := Tryd.func65.trans (congrArg some (by kernel_rfl))
  f225 := Tryd.func64.trans (congrArg some (by kernel_rfl))
  f266 := Tryd.func75.trans (congrArg some (by kernel_rfl))
  f267 := Tryd.func66.trans (congrArg some (by kernel_rfl))
  f314 := Tryd.func76.trans (congrArg some (by kernel_rfl))
  t3 := Tryd.underlying3
  a3 := Tryd.isAgg3
  z3 := Tryd.sizeOf3
  v3 := Tryd.zeroValue3
  t4 := Tryd.underlying4
  a4 := Tryd.isAgg4
  z4 := Tryd.sizeOf4
  v4 := Tryd.zeroValue4
  t5 := Tryd.underlying5
  a5 := Tryd.isAgg5
  z5 := Tryd.sizeOf5
  v5 := Tryd.zeroValue5
  t9 := Tryd.underlying9
  a9 := Tryd.isAgg9
  z9 := Tryd.sizeOf9
  v9 := Tryd.zeroValue9
  t46 := Tryd.underlying82
  a46 := Tryd.isAgg82
  z46 := Tryd.sizeOf82
  v46 := Tryd.zeroValue82
  t51 := Tryd.underlying89
  a51 := Tryd.isAgg89
  z51 := Tryd.sizeOf89
  v51 := Tryd.zeroValue89
  t146 := Tryd.underlying90
  a146 := Tryd.isAgg90
  z146 := Tryd.sizeOf90
  v146 := Tryd.zeroValue90
  g1 := by kernel_rfl }
theorem Tryd.strings_Index_one (s : ByteArray) (c : UInt8) (w : World) :
    Calls Tryd.prog 29 #[.string s, .string ⟨#[c]⟩] w fun e w' => e = .returned (.int .i64 (Lib.indexByte s.data.toList c)) ∧ w' = w := Any.strings_Index_one Tryd.lays143 s c w
def Tryd.lays138_ren : Go.Shelf.Ren := ⟨fun | 138 => 18 | 195 => 27 | 218 => 28 | 143 => 29 | 219 => 49 | 217 => 63 | 225 => 64 | 224 => 65 | 267 => 66 | 266 => 75 | 314 => 76 | n => n, fun | 9 => 9 | 3 => 3 | 4 => 4 | 5 => 5 | 0 => 0 | 46 => 82 | 146 => 90 | 51 => 89 | n => n, fun | 1 => 0 | n => n⟩
theorem Tryd.lays138 : Go.Proofs.Lays.n138 Tryd.prog Tryd.lays138_ren := {
  mixed := by kernel_rfl
  f138 := Tryd.func18.trans (congrArg some (by kernel_rfl))
  f143 := Tryd.func29.trans (congrArg some (by kernel_rfl))
  f195 := Tryd.func27.trans (congrArg some (by kernel_rfl))
  f217 := Tryd.func63.trans (congrArg some (by kernel_rfl))
  f218 := Tryd.func28.trans (congrArg some (by kernel_rfl))
  f219 := Tryd.func49.trans (congrArg some (by kernel_rfl))
  f224 := Tryd.func65.trans (congrArg some (by kernel_rfl))
  f225 := Tryd.func64.trans (congrArg some (by kernel_rfl))
  f266 := Tryd.func75.trans (congrArg some (by kernel_rfl))
  f267 := Tryd.func66.trans (congrArg some (by kernel_rfl))
  f314 := Tryd.func76.trans (congrArg some (by kernel_rfl))
  t0 := Tryd.underlying0
  a0 := Tryd.isAgg0
  z0 := Tryd.sizeOf0
  v0 := Tryd.zeroValue0
  t3 := Tryd.underlying3
  a3 := Tryd.isAgg3
  z3 := Tryd.sizeOf3
  v3 := Tryd.zeroValue3
  t4 := Tryd.underlying4
  a4 := Tryd.isAgg4
  z4 := Tryd.sizeOf4
  v4 := Tryd.zeroValue4
  t5 := Tryd.underlying5
  a5 := Tryd.isAgg5
  z5 := Tryd.sizeOf5
  v5 := Tryd.zeroValue5
  t9 := Tryd.underlying9
  a9 := Tryd.isAgg9
  z9 := Tryd.sizeOf9
  v9 := Tryd.zeroValue9
  t46 := Tryd.underlying82
  a46 := Tryd.isAgg82
  z46 := Tryd.sizeOf82
  v46 := Tryd.zeroValue82
  t51 := Tryd.underlying89
  a51 := Tryd.isAgg89
  z51 := Tryd.sizeOf89
  v51 := Tryd.zeroValue89
  t146 := Tryd.underlying90
  a146 := Tryd.isAgg90
  z146 := Tryd.sizeOf90
  v146 := Tryd.zeroValue90
  g1 := by kernel_rfl }
theorem Tryd.strings_Count_one (s : ByteArray) (c : UInt8) (w : World) :
    Calls Tryd.prog 18 #[.string s, .string ⟨#[c]⟩] w fun e w' => e = .returned (.int .i64 (Lib.countByte s.data.toList c)) ∧ w' = w := Any.strings_Count_one Tryd.lays138 s c w
def Tryd.laysGw17_ren : Go.Shelf.Ren := ⟨fun | 17 => 56 | 15 => 69 | 20 => 77 | n => n, fun | 9 => 9 | 23 => 75 | 4 => 4 | 3 => 3 | 0 => 0 | 21 => 21 | n => n, fun | n => n⟩
theorem Tryd.laysGw17 : Go.Proofs.LaysGw.n17 Tryd.prog Tryd.laysGw17_ren := {
  mixed := by kernel_rfl
  f15 := Tryd.func69.trans (congrArg some (by kernel_rfl))
  f17 := Tryd.func56.trans (congrArg some (by kernel_rfl))
  f20 := Tryd.func77.trans (congrArg some (by kernel_rfl))
  t0 := Tryd.underlying0
  a0 := Tryd.isAgg0
  z0 := Tryd.sizeOf0
  v0 := Tryd.zeroValue0
  i0 := by kernel_rfl
  t3 := Tryd.underlying3
  a3 := Tryd.isAgg3
  z3 := Tryd.sizeOf3
  v3 := Tryd.zeroValue3
  i3 := by kernel_rfl
  t4 := Tryd.underlying4
  a4 := Tryd.isAgg4
  z4 := Tryd.sizeOf4
  v4 := Tryd.zeroValue4
  i4 := by kernel_rfl
  t9 := Tryd.underlying9
  a9 := Tryd.isAgg9
  z9 := Tryd.sizeOf9
  v9 := Tryd.zeroValue9
  i9 := by kernel_rfl
  t21 := Tryd.underlying21
  a21 := Tryd.isAgg21
  z21 := Tryd.sizeOf21
  v21 := Tryd.zeroValue21
  i21 := by kernel_rfl
  t23 := Tryd.underlying75
  a23 := Tryd.isAgg75
  z23 := Tryd.sizeOf75
  v23 := Tryd.zeroValue75
  i23 := by kernel_rfl }
theorem Tryd.strings_ContainsFunc_runes (g : Nat) (lb : Array Value) (eg : ∀ args w, (callFunc g args).run Tryd.prog w = .ok (.enter g args) w) (p : Nat → Bool) (s : ByteArray) (w : World) (hp : PredAtRunes Tryd.prog g lb p w) :
    Calls Tryd.prog 56 #[.string s, .func (.func g) #[] lb] w fun e w' => e = .returned (.bool (decide (0 ≤ Lib.idxFunc p true s))) ∧ Below w.heap.size w w' := Any.strings_ContainsFunc_runes Tryd.laysGw17 g lb eg p s w hp
def Tryd.lays99_ren : Go.Shelf.Ren := ⟨fun | 99 => 62 | 206 => 74 | n => n, fun | 9 => 9 | 4 => 4 | 3 => 3 | n => n, fun | n => n⟩
theorem Tryd.lays99 : Go.Proofs.Lays.n99 Tryd.prog Tryd.lays99_ren := {
  mixed := by kernel_rfl
  f99 := Tryd.func62.trans (congrArg some (by kernel_rfl))
  f206 := Tryd.func74.trans (congrArg some (by kernel_rfl))
  t3 := Tryd.underlying3
  a3 := Tryd.isAgg3
  z3 := Tryd.sizeOf3
  v3 := Tryd.zeroValue3
  t4 := Tryd.underlying4
  a4 := Tryd.isAgg4
  z4 := Tryd.sizeOf4
  v4 := Tryd.zeroValue4
  t9 := Tryd.underlying9
  a9 := Tryd.isAgg9
  z9 := Tryd.sizeOf9
  v9 := Tryd.zeroValue9 }
theorem Tryd.strings_HasPrefix (s p : ByteArray) (w : World) :
    Calls Tryd.prog 62 #[.string s, .string p] w fun e w' => e = .returned (.bool (Lib.hasPrefix s.data.toList p.data.toList)) ∧ w' = w := Any.strings_HasPrefix Tryd.lays99 s p w
def Tryd.lays147_ren : Go.Shelf.Ren := ⟨fun | 147 => 31 | 221 => 52 | 268 => 68 | 138 => 18 | 143 => 29 | 195 => 27 | 197 => 51 | 218 => 28 | 219 => 49 | 260 => 67 | 217 => 63 | 225 => 64 | 224 => 65 | 267 => 66 | 266 => 75 | 314 => 76 | n => n, fun | 9 => 9 | 3 => 3 | 31 => 23 | 4 => 4 | 0 => 0 | 105 => 71 | 21 => 21 | 5 => 5 | 46 => 82 | 119 => 92 | 139 => 95 | 138 => 94 | 146 => 90 | 51 => 89 | n => n, fun | 1 => 0 | 3 => 1 | 4 => 2 | n => n⟩
theorem Tryd.lays147 : Go.Proofs.Lays.n147 Tryd.prog Tryd.lays147_ren := {
  mixed := by kernel_rfl
  f138 := Tryd.func18.trans (congrArg some (by kernel_rfl))
  f143 := Tryd.func29.trans (congrArg some (by kernel_rfl))
  f147 := Tryd.func31.trans (congrArg some (by kernel_rfl))
  f195 := Tryd.func27.trans (congrArg some (by kernel_rfl))
  f197 := Tryd.func51.trans (congrArg some (by kernel_rfl))
  f217 := Tryd.func63.trans (congrArg some (by kernel_rfl))
  f218 := Tryd.func28.trans (congrArg some (by kernel_rfl))
  f219 := Tryd.func49.trans (congrArg some (by kernel_rfl))
  f221 := Tryd.func52.trans (congrArg some (by kernel_rfl))
  f224 := Tryd.func65.trans (congrArg some (by kernel_rfl))
  f225 := Tryd.func64.trans (congrArg some (by kernel_rfl))
  f260 := Tryd.func67.trans (congrArg some (by kernel_rfl))
  f266 := Tryd.func75.trans (congrArg some (by kernel_rfl))
  f267 := Tryd.func66.trans (congrArg some (by kernel_rfl))
  f268 := Tryd.func68.trans (congrArg some (by kernel_rfl))
  f314 := Tryd.func76.trans (congrArg some (by kernel_rfl))
  t0 := Tryd.underlying0
  a0 := Tryd.isAgg0
  z0 := Tryd.sizeOf0
  v0 := Tryd.zeroValue0
  t3 := Tryd.underlying3
  a3 := Tryd.isAgg3
  z3 := Tryd.sizeOf3
  v3 := Tryd.zeroValue3
  t4 := Tryd.underlying4
  a4 := Tryd.isAgg4
  z4 := Tryd.sizeOf4
  v4 := Tryd.zeroValue4
  t5 := Tryd.underlying5
  a5 := Tryd.isAgg5
  z5 := Tryd.sizeOf5
  v5 := Tryd.zeroValue5
  t9 := Tryd.underlying9
  a9 := Tryd.isAgg9
  z9 := Tryd.sizeOf9
  v9 := Tryd.zeroValue9
  t21 := Tryd.underlying21
  a21 := Tryd.isAgg21
  z21 := Tryd.sizeOf21
  v21 := Tryd.zeroValue21
  t31 := Tryd.underlying23
  a31 := Tryd.isAgg23
  z31 := Tryd.sizeOf23
  v31 := Tryd.zeroValue23
  t46 := Tryd.underlying82
  a46 := Tryd.isAgg82
  z46 := Tryd.sizeOf82
  v46 := Tryd.zeroValue82
  t51 := Tryd.underlying89
  a51 := Tryd.isAgg89
  z51 := Tryd.sizeOf89
  v51 := Tryd.zeroValue89
  t105 := Tryd.underlying71
  a105 := Tryd.isAgg71
  z105 := Tryd.sizeOf71
  v105 := Tryd.zeroValue71
  t119 := Tryd.underlying92
  a119 := Tryd.isAgg92
  z119 := Tryd.sizeOf92
  t138 := Tryd.underlying94
  a138 := Tryd.isAgg94
  z138 := Tryd.sizeOf94
  v138 := Tryd.zeroValue94
  t139 := Tryd.underlying95
  a139 := Tryd.isAgg95
  z139 := Tryd.sizeOf95
  v139 := Tryd.zeroValue95
  t146 := Tryd.underlying90
  a146 := Tryd.isAgg90
  z146 := Tryd.sizeOf90
  v146 := Tryd.zeroValue90
  g1 := by kernel_rfl
  g3 := by kernel_rfl
  g4 := by kernel_rfl }
theorem Tryd.strings_SplitN (s sep : ByteArray) (n : Nat) (m : Int) (w : World) (hs : s.size < 4294967281) (hm : w.cell? ⟨0, 0, none⟩ = some (.int .i64 m)) (h1 : 1 ≤ sep.size) (hn : 1 ≤ n) (hn63 : n ≤ 9223372036854775807) :
    Calls Tryd.prog 31 #[.string s, .string sep, .int .i64 n] w fun e w' =>
      e = .returned (.slice (some ⟨w.heap.size, 0, none⟩) (Lib.splitB sep 0 (min n (s.size + 1) - 1) s).length (min n (s.size + 1))) ∧ w' = w.alloc (.cells (Lib.cellsOf (Lib.splitB sep 0 (min n (s.size + 1) - 1) s) (min n (s.size + 1))) 9) := Any.strings_SplitN Tryd.lays147 (by kernel_rfl) s sep n m w hs hm h1 hn hn63
def Tryd.lays109_ren : Go.Shelf.Ren := ⟨fun | 109 => 58 | n => n, fun | 31 => 23 | 9 => 9 | 3 => 3 | 0 => 0 | 4 => 4 | n => n, fun | n => n⟩
theorem Tryd.lays109 : Go.Proofs.Lays.n109 Tryd.prog Tryd.lays109_ren := {
  mixed := by kernel_rfl
  f109 := Tryd.func58.trans (congrArg some (by kernel_rfl))
  t0 := Tryd.underlying0
  a0 := Tryd.isAgg0
  z0 := Tryd.sizeOf0
  v0 := Tryd.zeroValue0
  t3 := Tryd.underlying3
  a3 := Tryd.isAgg3
  z3 := Tryd.sizeOf3
  v3 := Tryd.zeroValue3
  t4 := Tryd.underlying4
  a4 := Tryd.isAgg4
  z4 := Tryd.sizeOf4
  v4 := Tryd.zeroValue4
  t9 := Tryd.underlying9
  a9 := Tryd.isAgg9
  z9 := Tryd.sizeOf9
  v9 := Tryd.zeroValue9
  t31 := Tryd.underlying23
  a31 := Tryd.isAgg23
  z31 := Tryd.sizeOf23
  v31 := Tryd.zeroValue23 }
open Go.Lib in
theorem Tryd.slices_Index_string (b off n c : Nat) (zs : List ByteArray) (x : ByteArray) (w : World) (hz : n ≤ zs.length) (hbig : n ≤ 9223372036854775807) (hc : ∀ j, j < zs.length → w.cell? ⟨b, off + j, none⟩ = some (.string (zs.getD j ByteArray.empty))) :
    Calls Tryd.prog 58 #[.slice (some ⟨b, off, none⟩) n c, .string x] w fun e w' => e = .returned (.int .i64 (Lib.idxOfS (zs.take n) x)) ∧ w' = w := Any.slices_Index_string Tryd.lays109 b off n c zs x w hz hbig hc
open Go.Lib in
theorem Tryd.slices_Index_string_empty (a : Option Addr) (c : Nat) (x : ByteArray) (w : World) :
    Calls Tryd.prog 58 #[.slice a 0 c, .string x] w fun e w' => e = .returned (.int .i64 (Lib.idxOfS [] x)) ∧ w' = w := Any.slices_Index_string_empty Tryd.lays109 a c x w
def Tryd.laysNm216_ren : Go.Shelf.Ren := ⟨fun | 16 => 71 | n => n, fun | 24 => 23 | 9 => 9 | 4 => 4 | n => n, fun | n => n⟩
theorem Tryd.laysNm216 : Go.Proofs.Lays2.n16 Tryd.prog Tryd.laysNm216_ren := {
  mixed := by kernel_rfl
  f16 := Tryd.func71.trans (congrArg some (by kernel_rfl))
  t4 := Tryd.underlying4
  a4 := Tryd.isAgg4
  z4 := Tryd.sizeOf4
  v4 := Tryd.zeroValue4
  t9 := Tryd.underlying9
  a9 := Tryd.isAgg9
  z9 := Tryd.sizeOf9
  v9 := Tryd.zeroValue9
  t24 := Tryd.underlying23
  a24 := Tryd.isAgg23
  z24 := Tryd.sizeOf23
  v24 := Tryd.zeroValue23
  i9 := by kernel_rfl }
theorem Tryd.slices_Clone_string (b off n c : Nat) (zs : List ByteArray) (w : World) (hz : n ≤ zs.length) (hbig : n * 16 ≤ 140737488355328) (hc : ∀ j, j < zs.length → w.cell? ⟨b, off + j, none⟩ = some (.string (zs.getD j ByteArray.empty))) :
    Calls Tryd.prog 71 #[.slice (some ⟨b, off, none⟩) n c] w fun e w' => ∃ v', e = .returned v' ∧ w'.ownsRow w.heap.size 9 1 v' n ((zs.take n).map (Value.string)) ∧ v' ≠ .slice none 0 0 ∧ Below w.heap.size w w' := Any.slices_Clone_string Tryd.laysNm216 b off n c zs w hz hbig hc
theorem Tryd.slices_Clone_string_nil (n c : Nat) (w : World) :
    Calls Tryd.prog 71 #[.slice none n c] w fun e w' => e = .returned (.slice none 0 0) ∧ w' = w := Any.slices_Clone_string_nil Tryd.laysNm216 n c w
theorem Tryd.slices_Clone_string_zero (a : Addr) (c : Nat) (w : World) :
    Calls Tryd.prog 71 #[.slice (some a) 0 c] w fun e w' => ∃ v', e = .returned v' ∧ w'.ownsRow w.heap.size 9 1 v' 0 [] ∧ v' ≠ .slice none 0 0 ∧ Below w.heap.size w w' := Any.slices_Clone_string_zero Tryd.laysNm216 a c w
end Go.Proofs.YtobicmpgfiddhaaDoor
namespace Go.Proofs.YtobicmpgfiddhaaDoor
open Go.RowKit Go.Shelf
set_option linter.unusedVariables false
set_option linter.unusedSimpArgs false

/-- a letter of a word, as a rune -/
def lp (n : Nat) : Bool := decide (97 ≤ n ∧ n ≤ 122) || decide (65 ≤ n ∧ n ≤ 90) || decide (48 ≤ n ∧ n ≤ 57) || decide (n = 95) || decide (n = 45)
theorem lp_letter (c : UInt8) : lp c.toNat = letterR c := by
  unfold lp letterR
  simp only [UInt8.le_iff_toNat_le, ← UInt8.toNat_inj]
  rfl
theorem lp_small {n : Nat} (h : lp n = true) : n < 128 := by
  unfold lp at h
  simp only [Bool.or_eq_true, decide_eq_true_eq] at h
  omega
theorem decode_high (s : ByteArray) (i : Nat) (h : ¬ (s.get! (i + 0)).toNat < 128) : 128 ≤ (Utf8.decode s i).1 := by
  unfold Utf8.decode
  dsimp only
  rw [if_neg h]
  split
  · split
    · assumption
    · decide
  · split
    · split
      · rename_i h1
        simp only [ge_iff_le, Bool.and_eq_true, decide_eq_true_eq] at h1
        omega
      · decide
    · split
      · split
        · rename_i h1
          simp only [ge_iff_le, Bool.and_eq_true, decide_eq_true_eq] at h1
          omega
        · decide
      · decide
theorem idx_word (s : ByteArray) : ∀ (f pos : Nat), s.size ≤ f + pos → decide (0 ≤ Lib.idxFuncFrom (fun n => !lp n) true s f pos) = !(s.data.toList.drop pos).all letterR
  | 0, pos, h => by
    have hsz : s.data.toList.length = s.size := rfl
    have : s.data.toList.drop pos = [] := List.drop_eq_nil_of_le (by omega)
    rw [this]; rfl
  | f + 1, pos, h => by
    have hsz : s.data.toList.length = s.size := rfl
    unfold Lib.idxFuncFrom
    by_cases hp : pos < s.size
    · rw [if_pos hp]
      have hl : pos < s.data.toList.length := by omega
      have hd : s.data.toList.drop pos = s.data.toList[pos] :: s.data.toList.drop (pos + 1) := List.drop_eq_getElem_cons hl
      have hg : s.get! (pos + 0) = s.data.toList[pos] := by
        show s.data[pos + 0]! = _
        rw [Nat.add_zero, getElem!_pos s.data pos (show pos < s.data.size from hp)]
        simp
      rw [hd, List.all_cons]
      by_cases ha : (s.data.toList[pos]).toNat < 128
      · have hdec : Utf8.decode s pos = ((s.data.toList[pos]).toNat, 1) := by
          have he : s[pos] = s.data.toList[pos] := by show s.data[pos] = _; simp
          have := decode_ascii s pos hp (by rw [he]; exact ha)
          rw [this, he]
        rw [hdec]
        dsimp only
        rw [lp_letter]
        cases hlet : letterR s.data.toList[pos] with
        | true =>
          rw [if_neg (by simp)]
          rw [idx_word s f (pos + 1) (by omega)]
          simp
        | false =>
          rw [if_pos (by simp)]
          simp
      · have hhi := decode_high s pos (by rw [hg]; exact ha)
        have h1 : lp (Utf8.decode s pos).1 = false := by
          cases hc : lp (Utf8.decode s pos).1 with
          | false => rfl
          | true => have := lp_small hc; omega
        have h2 : letterR s.data.toList[pos] = false := by
          rw [← lp_letter]
          cases hc : lp (s.data.toList[pos]).toNat with
          | false => rfl
          | true => have := lp_small hc; omega
        rw [if_pos (by rw [h1]; rfl), h2]
        simp
    · rw [if_neg hp]
      have : s.data.toList.drop pos = [] := List.drop_eq_nil_of_le (by omega)
      rw [this]; rfl
set_option maxRecDepth 100000 in
set_option maxHeartbeats 4000000 in
theorem other_any (x : Nat) (hx : x ≤ 1114111) (w : World) : Calls Tryd.prog 55 #[.int .i32 (x : Int)] w fun e w' => e = .returned (.bool (!lp x)) ∧ w' = w := by
  obtain ⟨y, hy⟩ : ∃ y : Int, (x : Int) = y := ⟨_, rfl⟩
  obtain ⟨L, hL⟩ : ∃ L, lp x = L := ⟨_, rfl⟩
  have hL2 : L = (decide (97 ≤ y ∧ y ≤ 122) || decide (65 ≤ y ∧ y ≤ 90) || decide (48 ≤ y ∧ y ≤ 57) || decide (y = 95) || decide (y = 45)) := by
    rw [← hL, ← hy]
    unfold lp
    congr 1
    · congr 1
      · congr 1
        · congr 1
          · exact decide_eq_decide.2 (by omega)
          · exact decide_eq_decide.2 (by omega)
        · exact decide_eq_decide.2 (by omega)
      · exact decide_eq_decide.2 (by omega)
    · exact decide_eq_decide.2 (by omega)
  rw [hL, hy]
  have H := Lib.hid hL2
  clear hL hL2 hy hx
  go_enter Tryd.func55, Tryd.ntmps55
  go_wp2
  all_goals
    go_ret
    refine ⟨ret_bool ?_, rfl⟩
    rw [H.out, Bool.eq_iff_iff]
    simp only [decide_eq_true_eq, decide_eq_false_iff_not, Bool.and_eq_true, Bool.or_eq_true, Bool.not_eq_true', beq_iff_eq, beq_eq_false_iff_ne, Bool.or_eq_false_iff, Bool.true_eq_false, Bool.false_eq_true, ne_eq] at *
    first | omega | (refine ⟨False.elim, fun h => ?_⟩; omega)
theorem contains_any (s : List UInt8) (S : ByteArray) (hS : S = ⟨s.toArray⟩) (w : World) : Calls Tryd.prog 56 #[.string S, .func (.func 55) #[] #[]] w fun e w' => e = .returned (.bool (!s.all letterR)) ∧ Below w.heap.size w w' := by
  refine (Tryd.strings_ContainsFunc_runes 55 #[] (enters_of Tryd.func55 (by kernel_rfl) rfl) (fun n => !lp n) S w ?_).mono ?_
  · intro W x hx _
    exact (other_any x hx W).mono fun e w' ⟨h1, h2⟩ => ⟨h1, 0, h2⟩
  · rintro e w' ⟨rfl, h⟩
    refine ⟨ret_bool ?_, h⟩
    subst hS
    unfold Lib.idxFunc
    rw [idx_word _ _ 0 (by omega)]
    rfl
theorem str_nil (s : List UInt8) : (!(⟨s.toArray⟩ : ByteArray).toList == []) = decide (s ≠ []) := by
  rw [ByteArray.toList_eq]
  show (!s == []) = _
  cases s <;> simp
set_option maxRecDepth 100000 in
set_option maxHeartbeats 4000000 in
theorem isWord_any (s : List UInt8) (hs : s.length ≤ 1000000000000) (S : ByteArray) (hS : S = ⟨s.toArray⟩) (w : World) : Calls Tryd.prog 36 #[.string S] w fun e w' => e = .returned (.bool (nameR s)) ∧ Below w.heap.size w w' := by
  have hc := fun W => contains_any s S hS W
  have hsz : S.size = s.length := by rw [hS]; rfl
  obtain ⟨AL, hAL⟩ : ∃ z, s.all letterR = z := ⟨_, rfl⟩
  rw [hAL] at hc
  obtain ⟨R, hR⟩ : ∃ z, nameR s = z := ⟨_, rfl⟩
  have hRR : R = (AL && decide (1 ≤ s.length ∧ s.length ≤ 32)) := by rw [← hR, ← hAL]; rfl
  rw [hR]
  have HC := Lib.hid hc
  clear hc hR hAL
  by_cases h0 : s = []
  · subst h0
    have hRf : R = false := by rw [hRR]; simp
    subst hRf
    have t1 : S.toList = [] := by rw [hS, ByteArray.toList_eq]
    have t0 : S.toList.isEmpty = true := by rw [t1]; rfl
    clear hRR hsz hS
    go_enter Tryd.func36, Tryd.ntmps36
    go_wp2
    go_ret
    exact ⟨rfl, Below.refl _ _⟩
  · have t1 : ¬ S.toList = [] := by rw [hS, ByteArray.toList_eq]; exact h0
    have t0 : S.toList.isEmpty = false := by simpa using t1
    have hp : 1 ≤ s.length := by cases s with | nil => exact absurd rfl h0 | cons a b => simp
    by_cases h32 : s.length ≤ 32
    · have hRA : R = AL := by rw [hRR, decide_eq_true ⟨hp, h32⟩, Bool.and_true]
      subst hRA
      have t2 : decide ((S.size : Int) ≤ 32) = true := by simp; omega
      clear hRR hsz hS
      go_enter Tryd.func36, Tryd.ntmps36
      go_wp2_with (go_at_call 56; (with_reducible refine (HC.out _).mono ?_); rintro e1 w1 ⟨rfl, hb1⟩; have HB1 := Lib.hid hb1; clear hb1; dsimp only)
      go_ret
      exact ⟨ret_bool (by simp), HB1.out⟩
    · have hRf : R = false := by rw [hRR, decide_eq_false (fun h => h32 h.2), Bool.and_false]
      subst hRf
      have t2 : decide ((S.size : Int) ≤ 32) = false := by simp; omega
      clear hRR hsz hS
      go_enter Tryd.func36, Tryd.ntmps36
      go_wp2
      go_ret
      exact ⟨rfl, Below.refl _ _⟩
end Go.Proofs.YtobicmpgfiddhaaDoor
namespace Go.Proofs.YtobicmpgfiddhaaDoor
variable {P : Program} {ops : Array Oper} {Q : Exit → Act → World → Prop} {md : Region.Mode} {S S' : World → Prop}
theorem wpAnyH_more (h : ∀ w, S' w → S w) : ∀ (fuel : Nat) (listed : Array Bool) (a : Act) (w : World), wpAnyH P md ops Q S' fuel listed a w → wpAnyH P md ops Q S fuel listed a w
  | 0, _, _, _, hw => hw
  | fuel + 1, _, _, _, hw => ⟨hw.1, fun i hi => wpOp_mono (fun a' w' h' => ⟨h w' h'.1, wpAnyH_more h fuel _ a' w' h'.2⟩) (hw.2 i hi)⟩
end Go.Proofs.YtobicmpgfiddhaaDoor
namespace Go.Proofs.YtobicmpgfiddhaaDoor
open Go.RowKit
set_option linter.unusedVariables false
set_option linter.unusedSimpArgs false

theorem letters_take (l : List UInt8) (k : Nat) (hk : k < l.length) (h : ∀ i (hi : i < l.length), i < k → letterR l[i] = true) (hp : letterR l[k] = true) : ∀ i (hi : i < l.length), i < k + 1 → letterR l[i] = true := fun i hi hlt => by
  rcases Nat.lt_or_ge i k with h1 | h1
  · exact h i hi h1
  · obtain rfl : i = k := by omega
    exact hp
theorem letters_all (l : List UInt8) (h : ∀ i (hi : i < l.length), letterR l[i] = true) : l.all letterR = true := by
  rw [List.all_eq_true]
  intro x hx
  obtain ⟨i, hi, rfl⟩ := List.mem_iff_getElem.1 hx
  exact h i hi
theorem letters_not (l : List UInt8) (k : Nat) (hk : k < l.length) (h : letterR l[k] = false) : l.all letterR = false := by
  rw [Bool.eq_false_iff]
  intro he
  have := List.all_eq_true.1 he _ (List.getElem_mem hk)
  rw [h] at this; cases this
/-- a letter of a word, over whole numbers -/
theorem letterR_int (c : UInt8) : letterR c = decide (((97 : Int) ≤ c.toNat ∧ (c.toNat : Int) ≤ 122) ∨ ((65 : Int) ≤ c.toNat ∧ (c.toNat : Int) ≤ 90) ∨ ((48 : Int) ≤ c.toNat ∧ (c.toNat : Int) ≤ 57) ∨ (c.toNat : Int) = 95 ∨ (c.toNat : Int) = 45) := by
  rw [Bool.eq_iff_iff]
  unfold letterR
  simp only [Bool.or_eq_true, decide_eq_true_eq, UInt8.le_iff_toNat_le, ← UInt8.toNat_inj]
  have e1 : (97 : UInt8).toNat = 97 := rfl
  have e2 : (122 : UInt8).toNat = 122 := rfl
  have e3 : (65 : UInt8).toNat = 65 := rfl
  have e4 : (90 : UInt8).toNat = 90 := rfl
  have e5 : (48 : UInt8).toNat = 48 := rfl
  have e6 : (57 : UInt8).toNat = 57 := rfl
  have e7 : (95 : UInt8).toNat = 95 := rfl
  have e8 : (45 : UInt8).toNat = 45 := rfl
  omega
set_option maxRecDepth 100000 in
set_option maxHeartbeats 4000000 in
theorem refName_any (v : ByteArray) (hv : v.size ≤ 1000000000000) (w : World) :
    Calls Tryd.prog 25 #[.string v] w fun e w' => e = .returned (.bool (nameR v.data.toList)) ∧ w = w' := by
  have hz : v.data.toList.length = v.size := rfl
  obtain ⟨RB, hRB⟩ : ∃ b, nameR v.data.toList = b := ⟨_, rfl⟩
  have hr : (∀ i (hi : i < v.data.toList.length), letterR v.data.toList[i] = true) → RB = decide (1 ≤ v.size ∧ v.size ≤ 32) := fun h => by
    rw [← hRB]; unfold nameR; rw [letters_all _ h, hz, Bool.true_and]
  have hnp : ∀ k (hk : k < v.data.toList.length), letterR v.data.toList[k] = false → RB = false := fun k hk h => by
    rw [← hRB]; unfold nameR; rw [letters_not _ k hk h]; rfl
  rw [hRB]
  have HR := Lib.hid hr; have HNP := Lib.hid hnp; have HAT := Lib.hid (@letters_take v.data.toList)
  clear hr hnp hRB
  go_enter Tryd.func25, Tryd.ntmps25
  go_wp2
  go_loopw [3] (fun i W => ∃ k : Nat, k ≤ v.size ∧ i = .int .i64 k ∧ (∀ i (hi : i < v.data.toList.length), i < k → letterR v.data.toList[i] = true) ∧ w = W) (fun i _ => v.size - (intOf i).toNat)
  case atStart => exact ⟨0, Nat.zero_le _, rfl, fun _ _ h => absurd h (Nat.not_lt_zero _), rfl⟩
  case round =>
    obtain ⟨k, hk, rfl, hp, rfl⟩ := hrel
    have HP := Lib.hid hp; clear hp
    by_cases hlt : k < v.size
    · have hkl : k < v.data.toList.length := hlt
      have hge : v[k] = v.data.toList[k] := by rw [Array.getElem_toList]; rfl
      obtain ⟨c, hc⟩ : ∃ c, v[k] = c := ⟨_, rfl⟩
      by_cases hpk : letterR c = true
      · have hn := HAT.out k hkl HP.out (by rw [← hge, hc]; exact hpk)
        have HN := Lib.hid hn; clear hn
        rw [letterR_int, decide_eq_true_eq] at hpk
        clear hge
        go_wp2_with fail
        all_goals first
          | (exfalso; omega)
          | (refine ⟨⟨k + 1, by omega, by go_num, HN.out, trivial⟩, ?_⟩
             simp [intOf]; omega)
          | (exfalso; simp only [Bool.and_eq_true, Bool.or_eq_true, Bool.not_eq_true', Bool.not_eq_false', beq_eq_false_iff_ne, beq_iff_eq, decide_eq_true_eq, decide_eq_false_iff_not, ne_eq] at *; omega)
      · have hpk' : letterR c = false := by simpa using hpk
        have hn := HNP.out k hkl (by rw [← hge, hc]; exact hpk')
        have HN := Lib.hid hn; clear hn hpk
        rw [letterR_int, decide_eq_false_iff_not] at hpk'
        clear hge
        go_wp2_with fail
        all_goals first
          | (exfalso; omega)
          | (go_ret
             exact ⟨ret_bool HN.out.symm, rfl⟩)
          | (exfalso; simp only [Bool.and_eq_true, Bool.or_eq_true, Bool.not_eq_true', Bool.not_eq_false', beq_eq_false_iff_ne, beq_iff_eq, decide_eq_true_eq, decide_eq_false_iff_not, ne_eq] at *; omega)
    · obtain rfl : k = v.size := by omega
      have hall := HR.out (fun i hi => HP.out i hi hi)
      have HL := Lib.hid hall; clear hall
      go_wp2_with fail
      all_goals
        go_ret
        exact ⟨ret_bool (by rw [HL.out, Bool.eq_iff_iff]; simp; omega), rfl⟩
theorem argsN_b (o : List UInt8) : (argsN o : Int) = if (o == [115, 101, 116]) = true ∨ (o == [116, 101, 120, 116]) = true ∨ (o == [110, 101, 101, 100]) = true then 2 else if (o == [106, 111, 105, 110]) = true ∨ (o == [111, 110, 108, 121]) = true then 3 else 0 := by
  unfold argsN opSet opText opNeed opJoin opOnly
  simp only [beq_iff_eq]
  split
  · rfl
  · split <;> rfl
set_option maxRecDepth 100000 in
set_option maxHeartbeats 4000000 in
theorem refArgs_any (o : List UInt8) (w : World) :
    Calls Tryd.prog 24 #[tv o] w fun e w' => e = .returned (.int .i64 (argsN o)) ∧ w = w' := by
  unfold tv
  rw [argsN_b]
  go_enter Tryd.func24, Tryd.ntmps24
  go_wp2_with fail
  all_goals first
    | (exfalso; simp_all; done)
    | (go_ret
       exact ⟨ret_int (by simp [*]), rfl⟩)
end Go.Proofs.YtobicmpgfiddhaaDoor
namespace Go.Proofs.YtobicmpgfiddhaaDoor
open Go.RowKit
set_option linter.unusedVariables false
set_option linter.unusedSimpArgs false

theorem good_no {o : List UInt8} {l : List (List UInt8)} (h : argsN o = 0 ∨ l.length ≠ argsN o) : (RU.mk o l).good = false := by
  unfold RU.good
  rcases h with h | h <;> simp [h]
theorem good_word {o : List UInt8} {l : List (List UInt8)} (k : Nat) (hk : k < l.length) (h : nameR l[k] = false) : (RU.mk o l).good = false := by
  unfold RU.good
  have : l.all nameR = false := by
    rw [Bool.eq_false_iff]
    intro he
    have := List.all_eq_true.1 he _ (List.getElem_mem hk)
    rw [h] at this; cases this
  simp [this]
theorem good_kept {o : List UInt8} {l : List (List UInt8)} (hl : 0 < l.length) (hn : o ≠ opNeed) (j : Nat) (hj : j < keptR.length) (h : l[0] = keptR[j]) : (RU.mk o l).good = false := by
  unfold RU.good
  have e : l.headD [] = l[0] := by rw [List.headD_eq_head?_getD, List.head?_eq_getElem?, List.getElem?_eq_getElem hl]; rfl
  have : keptR.contains (l.headD []) = true := by rw [e, h, List.contains_iff_mem]; exact List.getElem_mem hj
  simp only [this, decide_eq_false hn]
  simp
theorem good_yes {o : List UInt8} {l : List (List UInt8)} (h0 : argsN o ≠ 0) (hl : l.length = argsN o) (ha : ∀ i (hi : i < l.length), nameR l[i] = true) (hk : o = opNeed ∨ ∀ h : 0 < l.length, ∀ j (hj : j < keptR.length), l[0] ≠ keptR[j]) : (RU.mk o l).good = true := by
  unfold RU.good
  have h1 : l.all nameR = true := List.all_eq_true.2 fun x hx => by
    obtain ⟨i, hi, rfl⟩ := List.mem_iff_getElem.1 hx
    exact ha i hi
  have hp : 0 < l.length := by omega
  have e : l.headD [] = l[0] := by rw [List.headD_eq_head?_getD, List.head?_eq_getElem?, List.getElem?_eq_getElem hp]; rfl
  have h2 : o = opNeed ∨ keptR.contains (l.headD []) = false := by
    rcases hk with h | h
    · exact .inl h
    · refine .inr ?_
      rw [Bool.eq_false_iff]
      intro hc
      rw [e, List.contains_iff_mem] at hc
      obtain ⟨j, hj, he⟩ := List.mem_iff_getElem.1 hc
      exact h hp j hj he.symm
  simp only [h1, hl, decide_eq_true h0, Bool.and_true, Bool.true_and, decide_true]
  rcases h2 with h2 | h2
  · rw [decide_eq_true h2]; rfl
  · rw [h2]; simp
theorem str_need {O : ByteArray} {o : List UInt8} (h : tv o = .string O) : (!O.toList == [110, 101, 101, 100]) = !decide (o = opNeed) := by
  unfold tv at h
  injection h with h
  rw [← h, ByteArray.toList_eq]
  show (!o == _) = _
  unfold opNeed
  by_cases e : o = [110, 101, 101, 100] <;> simp [e]
set_option maxRecDepth 100000 in
set_option maxHeartbeats 4000000 in
theorem refRule_any (o : List UInt8) (A : Option Addr) (c : Nat) (l : List (List UInt8)) (hl : l.length ≤ 1000000) (hs : ∀ x ∈ l, x.length ≤ 1000000000000) (w : World) (h : RdT w (.slice A l.length c) l) :
    Calls Tryd.prog 12 #[tv o, .slice A l.length c] w fun e w' => e = .returned (.bool (RU.mk o l).good) ∧ Below w.heap.size w w' := by
  obtain ⟨n, hn⟩ : ∃ n, l.length = n := ⟨_, rfl⟩
  obtain ⟨m, hm⟩ : ∃ m, argsN o = m := ⟨_, rfl⟩
  have hm3 : m ≤ 3 := by
    rw [← hm]; unfold argsN; split
    · omega
    · split <;> omega
  have hargs := fun W => refArgs_any o W
  rw [hm] at hargs
  obtain ⟨RB, hRB⟩ : ∃ b, (RU.mk o l).good = b := ⟨_, rfl⟩
  rw [hRB]
  obtain ⟨O, hO⟩ : ∃ O : ByteArray, tv o = .string O := ⟨_, rfl⟩
  rw [hO] at hargs ⊢
  have HA := Lib.hid hargs; have HRD := Lib.hid h
  by_cases h0 : m = 0
  · have hno := good_no (o := o) (l := l) (.inl (hm.trans h0))
    rw [hRB] at hno
    subst hno
    rw [hn]
    have d1 : ((m : Int) == 0) = true := by simp; omega
    clear h hargs hRB hs HRD
    go_enter Tryd.func12, Tryd.ntmps12
    go_wp2_with (go_at_call 24; refine (HA.out _).mono ?_; rintro e w' ⟨rfl, rfl⟩)
    all_goals first
      | (exfalso; omega)
      | (go_ret
         exact ⟨rfl, Below.refl _ _⟩)
  by_cases h1 : n = m
  · subst h1
    have d1 : ((n : Int) == 0) = false := by simp; omega
    have d2 : ((n : Int) != (n : Int)) = false := by simp
    have hyes : (∀ i (hi : i < l.length), nameR l[i] = true) → (o = opNeed ∨ ∀ h : 0 < l.length, ∀ j (hj : j < keptR.length), l[0] ≠ keptR[j]) → RB = true := fun ha hk => by
      rw [← hRB]; exact good_yes (by omega) (by omega) ha hk
    have hnp : ∀ k (hk : k < l.length), nameR l[k] = false → RB = false := fun k hk h => by
      rw [← hRB]; exact good_word k hk h
    have hkp : o ≠ opNeed → ∀ (h : 0 < l.length) j (hj : j < keptR.length), l[0] = keptR[j] → RB = false := fun ho hl j hj h => by
      rw [← hRB]; exact good_kept hl ho j hj h
    have HY := Lib.hid hyes; have HNP := Lib.hid hnp; have HKP := Lib.hid hkp; have HS := Lib.hid hs; have HN := Lib.hid hn; have HO := Lib.hid hO
    clear h hargs hRB hs hyes hnp hkp
    rw [hn]
    go_enter Tryd.func12, Tryd.ntmps12
    go_wp2_with (go_at_call 24; refine (HA.out _).mono ?_; rintro e w' ⟨rfl, rfl⟩)
    go_loopw [5] (fun i W => ∃ k : Nat, k ≤ n ∧ i = .int .i64 k ∧ (∀ i (hi : i < l.length), i < k → nameR l[i] = true) ∧ w = W) (fun i _ => n - (intOf i).toNat)
    case atStart => exact ⟨0, Nat.zero_le _, rfl, fun _ _ h => absurd h (Nat.not_lt_zero _), rfl⟩
    case round =>
      obtain ⟨k, hk, rfl, hp, rfl⟩ := hrel
      have HP := Lib.hid hp; clear hp
      by_cases hlt : k < n
      · have hkr : decide ((k : Int) < n) = true := by simp; omega
        have hk0 : (0 : Int) ≤ k := by omega
        have hk1 : (k : Int) < n := by omega
        have hkl : k < l.length := by rw [HN.out]; exact hlt
        obtain ⟨g, o', rfl, hg, c1⟩ := HRD.out.at k hkl
        obtain ⟨X, hX⟩ : ∃ X : ByteArray, X = ⟨l[k].toArray⟩ := ⟨_, rfl⟩
        unfold tv at c1
        rw [← hX] at c1
        have hXl : X.data.toList = l[k] := by rw [hX]
        have hXs : X.size ≤ 1000000000000 := by
          have := HS.out _ (List.getElem_mem hkl)
          rw [hX]; show Array.size _ ≤ _; simpa using this
        have hname := fun W => refName_any X hXs W
        rw [hXl] at hname
        have HNM := Lib.hid hname
        by_cases hw : nameR l[k] = true
        · have hmore : ∀ i (hi : i < l.length), i < k + 1 → nameR l[i] = true := fun i hi hlt => by
            rcases Nat.lt_or_ge i k with h1 | h1
            · exact HP.out i hi h1
            · obtain rfl : i = k := by omega
              exact hw
          have HM := Lib.hid hmore
          rw [hw] at HNM
          clear hname hmore hX hXl
          go_wp2_with (go_at_call 25; refine (HNM.out _).mono ?_; rintro e w' ⟨rfl, rfl⟩)
          go_roundw
          case rel => exact ⟨k + 1, by omega, by go_num, HM.out, by trivial⟩
          case measure => simp [intOf]; omega
        · have hw' : nameR l[k] = false := by simpa using hw
          have hfin := HNP.out k hkl hw'
          have HF := Lib.hid hfin
          rw [hw'] at HNM
          clear hname hfin hX hXl hw hw'
          go_wp2_with (go_at_call 25; refine (HNM.out _).mono ?_; rintro e w' ⟨rfl, rfl⟩)
          go_ret
          exact ⟨ret_bool HF.out.symm, Below.refl _ _⟩
      · obtain rfl : k = n := by omega
        have hkr : decide ((k : Int) < k) = false := by simp
        go_wp2_with fail
        have hK : RdT (w.alloc (.cells #[.string ⟨#[105, 115, 115]⟩, .string ⟨#[115, 117, 98]⟩, .string ⟨#[97, 117, 100]⟩, .string ⟨#[101, 120, 112]⟩, .string ⟨#[105, 97, 116]⟩, .string ⟨#[110, 111, 110, 99, 101]⟩, .string ⟨#[117, 115, 101]⟩, .string ⟨#[102, 97, 109]⟩] 9)) (.slice (some ⟨w.heap.size, 0, none⟩) 8 8) keptR := rdt_new (l := keptR) (heap_alloc_last w _) rfl
        have hb1 : Below w.heap.size w (w.alloc (.cells #[.string ⟨#[105, 115, 115]⟩, .string ⟨#[115, 117, 98]⟩, .string ⟨#[97, 117, 100]⟩, .string ⟨#[101, 120, 112]⟩, .string ⟨#[105, 97, 116]⟩, .string ⟨#[110, 111, 110, 99, 101]⟩, .string ⟨#[117, 115, 101]⟩, .string ⟨#[102, 97, 109]⟩] 9)) := (Below.refl _ _).alloc (Nat.le_refl _) _
        obtain ⟨R, hR⟩ : ∃ R, w.heap.size = R := ⟨_, rfl⟩
        have hRD1 := HRD.out.below hb1
        obtain ⟨W1, hW1⟩ : ∃ W1, w.alloc (.cells #[.string ⟨#[105, 115, 115]⟩, .string ⟨#[115, 117, 98]⟩, .string ⟨#[97, 117, 100]⟩, .string ⟨#[101, 120, 112]⟩, .string ⟨#[105, 97, 116]⟩, .string ⟨#[110, 111, 110, 99, 101]⟩, .string ⟨#[117, 115, 101]⟩, .string ⟨#[102, 97, 109]⟩] 9) = W1 := ⟨_, rfl⟩
        rw [hW1] at hK hb1 hRD1 ⊢
        have HB1 := Lib.hid hb1
        rw [hR] at hK ⊢
        have hpos : 0 < l.length := by rw [HN.out]; omega
        have HK := Lib.hid hK; have HRD1 := Lib.hid hRD1; have HALL := Lib.hid (fun i (hi : i < l.length) => HP.out i hi (by rw [← HN.out]; exact hi))
        clear hK hb1 hRD1 hW1 hR
        by_cases ho : o = opNeed
        · have hx0 : (!O.toList == [110, 101, 101, 100]) = false := by rw [str_need HO.out, decide_eq_true ho]; rfl
          have hfin := HY.out HALL.out (.inl ho)
          have HF := Lib.hid hfin
          clear hfin ho hpos
          go_loopw [7] (fun i W => ∃ j : Nat, j ≤ 8 ∧ i = .int .i64 j ∧ Hid (Below W1.heap.size W1 W)) (fun i _ => 8 - (intOf i).toNat)
          case atStart => exact ⟨0, Nat.zero_le _, rfl, Lib.hid (Below.refl _ _)⟩
          case round =>
            obtain ⟨j, hj, rfl, hT⟩ := hrel
            by_cases hlt : j < 8
            · have hkr : decide ((j : Int) < 8) = true := by simp; omega
              go_upto_region 12 with fail
              go_quiet (fail)
              go_wp2
              go_roundw
              case rel => exact ⟨j + 1, by omega, by go_num, Lib.hid (belowDrewN hT.out _)⟩
              case measure => simp [intOf]; omega
            · obtain rfl : j = 8 := by omega
              have hkr : decide (((8 : Nat) : Int) < 8) = false := by simp
              go_wp2_with fail
              go_ret
              exact ⟨ret_bool HF.out.symm, HB1.out.chain hT.out⟩
        · have hx0 : (!O.toList == [110, 101, 101, 100]) = true := by rw [str_need HO.out, decide_eq_false ho]; rfl
          go_loopw [7] (fun i W => ∃ j : Nat, j ≤ 8 ∧ i = .int .i64 j ∧ Hid (∀ i (hi : i < keptR.length), i < j → l[0] ≠ keptR[i]) ∧ Hid (Below W1.heap.size W1 W)) (fun i _ => 8 - (intOf i).toNat)
          case atStart => exact ⟨0, Nat.zero_le _, rfl, Lib.hid (fun _ _ h => absurd h (Nat.not_lt_zero _)), Lib.hid (Below.refl _ _)⟩
          case round =>
            obtain ⟨j, hj, rfl, HNE, hT⟩ := hrel
            by_cases hlt : j < 8
            · have hkr : decide ((j : Int) < 8) = true := by simp; omega
              have hj0 : (0 : Int) ≤ j := by omega
              have hj1 : (j : Int) < 8 := by omega
              have hk0 : (0 : Int) < k := by omega
              have hjl : j < keptR.length := hlt
              obtain ⟨g, o', rfl, hg, c1⟩ := (HRD1.out.below hT.out).at 0 hpos
              obtain ⟨g', o2, e2, hg', c2⟩ := (HK.out.below hT.out).at j hjl
              cases e2
              obtain ⟨S1, hS1⟩ : ∃ S : ByteArray, S = ⟨l[0].toArray⟩ := ⟨_, rfl⟩
              obtain ⟨S2, hS2⟩ : ∃ S : ByteArray, S = ⟨keptR[j].toArray⟩ := ⟨_, rfl⟩
              unfold tv at c1 c2
              rw [← hS1] at c1
              rw [← hS2] at c2
              have c3 := c1
              have c4 := c2
              rw [Nat.add_zero] at c3
              rw [Nat.zero_add] at c4
              have hne := str_neq S1 S2 l[0] keptR[j] hS1 hS2
              by_cases heq : l[0] = keptR[j]
              · have hx : (S1.toList == S2.toList) = true := by rw [← Bool.not_inj_iff, hne, decide_eq_true heq]
                have hfin := HKP.out ho hpos j hjl heq
                have HF := Lib.hid hfin
                clear hne hfin hS1 hS2 heq ho hg hg'
                go_upto_region 12 with fail
                go_quiet (fail)
                go_wp2
                go_ret
                exact ⟨ret_bool HF.out.symm, HB1.out.chain (belowDrewN hT.out _)⟩
              · have hx : (S1.toList == S2.toList) = false := by rw [← Bool.not_inj_iff, hne, decide_eq_false heq]
                have hmore : ∀ i (hi : i < keptR.length), i < j + 1 → l[0] ≠ keptR[i] := fun i hi hlt => by
                  rcases Nat.lt_or_ge i j with h1 | h1
                  · exact HNE.out i hi h1
                  · obtain rfl : i = j := by omega
                    exact heq
                have HM := Lib.hid hmore
                clear hne hmore hS1 hS2 heq ho hg hg'
                go_upto_region 12 with fail
                go_quiet (fail)
                go_wp2
                go_roundw
                case rel => exact ⟨j + 1, by omega, by go_num, HM, Lib.hid (belowDrewN hT.out _)⟩
                case measure => simp [intOf]; omega
            · obtain rfl : j = 8 := by omega
              have hkr : decide (((8 : Nat) : Int) < 8) = false := by simp
              have hfin := HY.out HALL.out (.inr fun _ i hi => HNE.out i hi hi)
              have HF := Lib.hid hfin
              clear hfin ho
              go_wp2_with fail
              go_ret
              exact ⟨ret_bool HF.out.symm, HB1.out.chain hT.out⟩
  · have hno := good_no (o := o) (l := l) (.inr (by rw [hm, hn]; exact h1))
    rw [hRB] at hno
    subst hno
    rw [hn]
    have d1 : ((m : Int) == 0) = false := by simp; omega
    have d2 : ((n : Int) != (m : Int)) = true := by simp; omega
    clear h hargs hRB hs HRD
    go_enter Tryd.func12, Tryd.ntmps12
    go_wp2_with (go_at_call 24; refine (HA.out _).mono ?_; rintro e w' ⟨rfl, rfl⟩)
    all_goals first
      | (exfalso; omega)
      | (go_ret
         exact ⟨rfl, Below.refl _ _⟩)
end Go.Proofs.YtobicmpgfiddhaaDoor
namespace Go.Proofs.YtobicmpgfiddhaaDoor
open Go.RowKit Go.Shelf
set_option linter.unusedVariables false
set_option linter.unusedSimpArgs false

set_option maxRecDepth 100000 in
set_option maxHeartbeats 4000000 in
theorem isOwn_any (s : List UInt8) (S : ByteArray) (hS : S = ⟨s.toArray⟩) (w : World) : Calls Tryd.prog 33 #[.string S] w fun e w' => e = .returned (.bool (keptR.contains s)) ∧ w' = w := by
  have hl : S.toList = s := by rw [hS, ByteArray.toList_eq]
  obtain ⟨R, hR⟩ : ∃ R, keptR.contains s = R := ⟨_, rfl⟩
  rw [← hl] at hR
  rw [← hl, hR]
  have H := Lib.hid hR
  clear hR hl hS
  go_enter Tryd.func33, Tryd.ntmps33
  go_wp2
  all_goals
    go_ret
    refine ⟨ret_bool ?_, rfl⟩
    rw [← H.out]
    simp_all [keptR]
set_option maxRecDepth 100000 in
theorem noWord_any (s : List UInt8) (hs : s.length ≤ 1000000000000) (S : ByteArray) (hS : S = ⟨s.toArray⟩) (w : World) : Calls Tryd.prog 35 #[.string S] w fun e w' => e = .returned (.bool (!nameR s)) ∧ Below w.heap.size w w' := by
  have h := fun W => isWord_any s hs S hS W
  obtain ⟨R, hR⟩ : ∃ R, nameR s = R := ⟨_, rfl⟩
  rw [hR] at h ⊢
  have H := Lib.hid h
  clear h hR hS
  go_enter Tryd.func35, Tryd.ntmps35
  go_wp2_with (go_at_call 36; (with_reducible refine (H.out _).mono ?_); rintro e1 w1 ⟨rfl, hb1⟩; have HB1 := Lib.hid hb1; clear hb1; dsimp only)
  go_ret
  exact ⟨rfl, HB1.out⟩
set_option maxRecDepth 100000 in
set_option maxHeartbeats 4000000 in
theorem indexFuncS_any (l : List (List UInt8)) (A : Option Addr) (c : Nat) (w : World) (hl : l.length ≤ 1000000) (hs : ∀ x ∈ l, x.length ≤ 1000000000000) (h : RdT w (.slice A l.length c) l) :
    Calls Tryd.prog 54 #[.slice A l.length c, .func (.func 35) #[] #[]] w fun e w' => (∃ i : Int, e = .returned (.int .i64 i) ∧ decide (0 ≤ i) = !l.all nameR) ∧ Below w.heap.size w w' := by
  obtain ⟨n, hn⟩ : ∃ n, l.length = n := ⟨_, rfl⟩
  have hcl := fun (x : List UInt8) (hx : x ∈ l) (W : World) (S : ByteArray) (hS : S = ⟨x.toArray⟩) => noWord_any x (hs x hx) S hS W
  rw [hn] at h ⊢
  have H := Lib.hid h; have HC := Lib.hid hcl; have HN := Lib.hid hn
  clear h hcl
  go_enter Tryd.func54, Tryd.ntmps54
  go_wp2_with fail
  go_loopw [8] (fun i wr => ∃ k : Nat, k ≤ n ∧ i = .int .i64 k ∧ (l.take k).all nameR = true ∧ Below w.heap.size w wr) (fun i _ => n - (intOf i).toNat)
  case atStart => exact ⟨0, Nat.zero_le _, rfl, rfl, Below.refl _ _⟩
  case round =>
    obtain ⟨k, hkn, rfl, hp, hbw⟩ := hrel
    have HP := Lib.hid hp; clear hp
    by_cases hlt : k < n
    · have hkl : k < l.length := by rw [HN.out]; exact hlt
      obtain ⟨g, o, rfl, hg, c1⟩ := (H.out.below hbw).at k hkl
      have hc := HC.out l[k] (List.getElem_mem hkl)
      have hat : (l.take (k + 1)).all nameR = ((l.take k).all nameR && nameR l[k]) := by
        rw [List.take_succ_eq_append_getElem hkl, List.all_append]; simp
      have hno : nameR l[k] = false → l.all nameR = false := fun h => by
        rw [Bool.eq_false_iff]; intro ha
        have := List.all_eq_true.1 ha _ (List.getElem_mem hkl)
        rw [h] at this; cases this
      obtain ⟨S, hS⟩ : ∃ S : ByteArray, S = ⟨l[k].toArray⟩ := ⟨_, rfl⟩
      unfold tv at c1
      rw [← hS] at c1
      have hcc := hc wr S hS
      obtain ⟨Z, hZ⟩ : ∃ z, nameR l[k] = z := ⟨_, rfl⟩
      rw [hZ] at hcc hat hno
      have HCC := Lib.hid hcc; have HAT := Lib.hid hat; have HH := Lib.hid hno; have HBW := Lib.hid hbw
      have hk0 : (0 : Int) ≤ k := by omega
      have hk1 : (k : Int) < n := by omega
      clear hc hat hno hZ hbw hcc hS
      cases Z with
      | false =>
        go_wp2_with (go_at_call 35; (with_reducible refine HCC.out.mono ?_); rintro e1 w1 ⟨rfl, hb1⟩; have HB1 := Lib.hid (HBW.out.chain hb1); clear hb1; dsimp only)
        go_ret
        exact ⟨⟨k, rfl, by rw [HH.out trivial]; simp⟩, HB1.out⟩
      | true =>
        go_wp2_with (go_at_call 35; (with_reducible refine HCC.out.mono ?_); rintro e1 w1 ⟨rfl, hb1⟩; have HB1 := Lib.hid (HBW.out.chain hb1); clear hb1; dsimp only)
        go_roundw
        case rel => exact ⟨k + 1, by omega, by go_num, by rw [HAT.out, HP.out]; rfl, HB1.out⟩
        case measure => simp [intOf]; omega
    · obtain rfl : k = n := by omega
      have hall : l.take k = l := by rw [← HN.out, List.take_length]
      have HA := Lib.hid hall; have HBW := Lib.hid hbw
      clear hall hbw
      go_wp2
      go_ret
      exact ⟨⟨-1, rfl, by rw [← HA.out, HP.out]; rfl⟩, HBW.out⟩
set_option maxRecDepth 100000 in
theorem containsFuncS_any (l : List (List UInt8)) (A : Option Addr) (c : Nat) (w : World) (hl : l.length ≤ 1000000) (hs : ∀ x ∈ l, x.length ≤ 1000000000000) (h : RdT w (.slice A l.length c) l) :
    Calls Tryd.prog 34 #[.slice A l.length c, .func (.func 35) #[] #[]] w fun e w' => e = .returned (.bool (!l.all nameR)) ∧ Below w.heap.size w w' := by
  have h := indexFuncS_any l A c w hl hs h
  obtain ⟨B, hB⟩ : ∃ B, (!l.all nameR) = B := ⟨_, rfl⟩
  rw [hB] at h ⊢
  have H := Lib.hid h
  clear h hB
  go_enter Tryd.func34, Tryd.ntmps34
  go_wp2_with (go_at_call 54; (with_reducible refine H.out.mono ?_); rintro e1 w1 ⟨⟨i, rfl, hi⟩, hb1⟩; have HB1 := Lib.hid hb1; have HI := Lib.hid hi; clear hb1 hi; dsimp only)
  go_ret
  exact ⟨ret_bool HI.out, HB1.out⟩
theorem good_of {o : List UInt8} {l : List (List UInt8)} {m : Nat} {sets : Bool} (hm : argsN o = m) (h0 : m ≠ 0) (hs : sets = !decide (o = opNeed)) : (RU.mk o l).good = (decide (l.length = m) && (!(sets && keptR.contains (l.headD [])) && l.all nameR)) := by
  unfold RU.good
  dsimp only
  rw [hm, decide_eq_true h0, hs]
  by_cases hn : o = opNeed
  · simp [hn]
  · simp [hn]; cases l.all nameR <;> simp
set_option maxRecDepth 100000 in
set_option maxHeartbeats 8000000 in
theorem isRule_any (o : List UInt8) (A : Option Addr) (c : Nat) (l : List (List UInt8)) (hl : l.length ≤ 1000000) (hs : ∀ x ∈ l, x.length ≤ 1000000000000) (w : World) (h : RdT w (.slice A l.length c) l) :
    Calls Tryd.prog 21 #[.agg #[tv o, .slice A l.length c]] w fun e w' => e = .returned (.bool (RU.mk o l).good) ∧ Below w.heap.size w w' := by
  obtain ⟨n, hn⟩ : ∃ n, l.length = n := ⟨_, rfl⟩
  obtain ⟨O, hO⟩ : ∃ O : ByteArray, O = ⟨o.toArray⟩ := ⟨_, rfl⟩
  have hol : O.toList = o := by rw [hO, ByteArray.toList_eq]
  have htv : tv o = .string O := by rw [hO]; rfl
  rw [htv, hn]
  have hcf := fun W (hW : Below w.heap.size w W) => containsFuncS_any l A c W hl hs (h.below hW)
  rw [hn] at hcf
  have hk := fun (x : List UInt8) S hS W => isOwn_any x S hS W
  obtain ⟨G, hG⟩ : ∃ G, (RU.mk o l).good = G := ⟨_, rfl⟩
  have hgo := fun m sets => @good_of o l m sets
  rw [hG] at hgo ⊢
  have hno : argsN o = 0 → G = false := fun h => by rw [← hG]; exact good_no (.inl h)
  rw [← hol] at hgo hno
  obtain ⟨W1, hW1⟩ : ∃ W1, W1 = w.alloc (.cells #[.string O, .slice A n c] 37) := ⟨_, rfl⟩
  have b1 : Below w.heap.size w W1 := by rw [hW1]; exact (Below.refl _ _).alloc (Nat.le_refl _) _
  have q1 : W1.heap[w.heap.size]? = some (.cells #[.string O, .slice A n c] 37 (0, 0)) := by rw [hW1]; exact heap_alloc_last w _
  have HCF := Lib.hid hcf; have HK := Lib.hid hk; have HGO := Lib.hid hgo; have HNO := Lib.hid hno; have HW1 := Lib.hid hW1; have B1 := Lib.hid b1; have H := Lib.hid h; have HN := Lib.hid hn; have Q1 := Lib.hid q1
  clear hcf hk hgo hno hW1 b1 h hn htv hol hO hG
  go_enter Tryd.func21, Tryd.ntmps21
  go_upto_block 0 with fail
  rw [← HW1.out]
  go_cut [3, 4] from 5 (fun s3 s4 wx => ∃ (m : Nat) (sets : Bool), s3 = .int .i64 m ∧ s4 = .bool sets ∧ argsN O.toList = m ∧ m ≠ 0 ∧ sets = (!decide (O.toList = opNeed)) ∧ wx = W1)
  case first =>
    go_wp2
    all_goals first
      | (go_meet
         case rel => first
           | exact ⟨2, true, rfl, rfl, by simp_all [argsN, opSet, opText, opNeed, opJoin, opOnly], by decide, by simp_all [opNeed], rfl⟩
           | exact ⟨3, true, rfl, rfl, by simp_all [argsN, opSet, opText, opNeed, opJoin, opOnly], by decide, by simp_all [opNeed], rfl⟩
           | exact ⟨2, false, rfl, rfl, by simp_all [argsN, opSet, opText, opNeed, opJoin, opOnly], by decide, by simp_all [opNeed], rfl⟩)
      | (obtain rfl := HNO.out (by simp_all [argsN, opSet, opText, opNeed, opJoin, opOnly])
         go_ret
         exact ⟨rfl, B1.out⟩)
  case rest =>
    obtain ⟨m, sets, rfl, rfl, hm, h0, hsets, hwc⟩ := hcut
    subst hwc
    have hG := HGO.out m sets hm h0 hsets
    have q1 := Q1.out
    have e0 : wc.cell? ⟨w.heap.size, 0, none⟩ = some (.string O) := by rw [cell_here q1]; rfl
    have e1 : wc.cell? ⟨w.heap.size, 1, none⟩ = some (.slice A n c) := by rw [cell_here q1]; rfl
    have hcf := HCF.out wc B1.out
    rw [HN.out] at hG
    clear HGO HNO hm hsets q1
    by_cases hnm : n = m
    · subst hnm
      have t1 : ((n : Int) != (n : Int)) = false := by simp
      rw [decide_eq_true rfl, Bool.true_and] at hG
      obtain ⟨AL, hAL⟩ : ∃ z, l.all nameR = z := ⟨_, rfl⟩
      rw [hAL] at hG hcf
      have HCC := Lib.hid hcf
      clear hcf hAL
      cases sets with
      | false =>
        have hGA : G = AL := by rw [hG]; rfl
        subst hGA
        clear hG
        go_wp2_with (go_at_call 34; (with_reducible refine HCC.out.mono ?_); rintro e2 w2 ⟨rfl, hb2⟩; have HB2 := Lib.hid (B1.out.chain hb2); clear hb2; dsimp only)
        go_ret
        exact ⟨ret_bool (by simp), HB2.out⟩
      | true =>
        have hlp : 0 < l.length := by rw [HN.out]; omega
        obtain ⟨g, o', rfl, hg, c0⟩ := (H.out.below B1.out).at 0 hlp
        obtain ⟨S, hS⟩ : ∃ S : ByteArray, S = ⟨l[0].toArray⟩ := ⟨_, rfl⟩
        unfold tv at c0
        rw [← hS, Nat.add_zero] at c0
        have hh : l.headD [] = l[0] := by rw [List.headD_eq_head?_getD, List.head?_eq_getElem?, List.getElem?_eq_getElem hlp]; rfl
        have hko := HK.out l[0] S hS wc
        rw [hh] at hG
        obtain ⟨KO, hKO⟩ : ∃ z, keptR.contains l[0] = z := ⟨_, rfl⟩
        rw [hKO] at hG hko
        have HKK := Lib.hid hko
        have hn0 : (0 : Int) < n := by omega
        clear hko hKO hh hS
        cases KO with
        | true =>
          have hGf : G = false := by rw [hG]; rfl
          subst hGf
          clear hG
          go_wp2_with (go_at_call 33; (with_reducible refine HKK.out.mono ?_); rintro e2 w2 ⟨rfl, rfl⟩; dsimp only)
          go_ret
          exact ⟨rfl, B1.out⟩
        | false =>
          have hGA : G = AL := by rw [hG]; rfl
          subst hGA
          clear hG
          go_wp2_with (first
            | (go_at_call 33; (with_reducible refine HKK.out.mono ?_); rintro e2 w2 ⟨rfl, rfl⟩; dsimp only)
            | (go_at_call 34; (with_reducible refine HCC.out.mono ?_); rintro e3 w3 ⟨rfl, hb2⟩; have HB2 := Lib.hid (B1.out.chain hb2); clear hb2; dsimp only))
          go_ret
          exact ⟨ret_bool (by simp), HB2.out⟩
    · have t1 : ((n : Int) != (m : Int)) = true := by simp; omega
      rw [decide_eq_false hnm, Bool.false_and] at hG
      subst hG
      clear hcf
      go_wp2
      go_ret
      exact ⟨rfl, B1.out⟩
end Go.Proofs.YtobicmpgfiddhaaDoor
namespace Go.Proofs.YtobicmpgfiddhaaDoor
open Go.RowKit

set_option maxRecDepth 100000 in
theorem sclone_any (s : ByteArray) (hs : s.size ≤ 281474976710656) (w : World) :
    Calls Tryd.prog 32 #[.string s] w fun e w' => e = .returned (.string s) ∧ Below w.heap.size w w' := by
  have h := Lib.hid (Tryd.stringslite_Clone s w hs)
  go_enter Tryd.func32, Tryd.ntmps32
  go_wp2_with fail
  refine h.out.mono ?_
  rintro e w1 ⟨rfl, hb1⟩
  have B1 := Lib.hid hb1
  clear hb1
  dsimp only
  go_wp2
  go_ret
  exact ⟨rfl, B1.out⟩
end Go.Proofs.YtobicmpgfiddhaaDoor
