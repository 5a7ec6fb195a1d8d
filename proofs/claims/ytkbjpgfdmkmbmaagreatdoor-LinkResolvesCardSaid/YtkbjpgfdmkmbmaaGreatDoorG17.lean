/- Texts merged by program, in build order: Shelf, StrClone, StoreMap, StoreTurn, StoreCopy. -/
import Derived.Shelf.Strconv.Itoa0
import Derived.Shelf.Strconv.Itoa1
import Derived.Shelf.LaysM
import Derived.Shelf.Strconv.Itoa2
import Derived.Shelf.Strconv.Itoa3
import Derived.Shelf.Strconv.Clone
import Derived.Shelf.Sort.Plain
import Derived.Shelf.Strings.Prefix
import Derived.Shelf.Slices.In.SortNone
import Derived.Test.YtkbjpgfdmkmbmaaGreatDoorProg
import Derived.Test.YtkbjpgfdmkmbmaaGreatDoorG01
import Derived.Maps.Ext
import Derived.Maps.OwnSet
import Derived.Sort.KeysCollected
import Derived.Test.YtkbjpgfdmkmbmaaGreatDoorG08
import Derived.Test.YtkbjpgfdmkmbmaaGreatDoorG03
import Derived.Test.YtkbjpgfdmkmbmaaGreatDoorG09
import Derived.Maps.RangeWalk
import Derived.Laws.IdiomRangeMap
set_option linter.unusedVariables false
set_option linter.unusedSimpArgs false
namespace Go.Proofs.YtkbjpgfdmkmbmaaGreatDoor
open Go.Shelf Go.RowKit Go.Lib
def Tryz.laysM171_ren : Go.Shelf.Ren := ⟨fun | 171 => 35 | 243 => 56 | 246 => 66 | 283 => 71 | 284 => 72 | 285 => 73 | 286 => 74 | 129 => 85 | 317 => 89 | 318 => 90 | 319 => 91 | 320 => 92 | 337 => 101 | 338 => 102 | n => n, fun | 3 => 3 | 9 => 9 | 2 => 2 | 4 => 4 | 171 => 124 | 0 => 0 | 53 => 107 | 37 => 60 | 5 => 5 | 173 => 127 | 212 => 142 | 51 => 94 | 20 => 20 | 213 => 143 | 46 => 114 | 232 => 156 | 233 => 161 | n => n, fun | 17 => 0 | 18 => 2 | 19 => 3 | n => n⟩
theorem Tryz.laysM171 : Go.Proofs.LaysM.n171 Tryz.prog Tryz.laysM171_ren := {
  mixed := by kernel_rfl
  f129 := Tryz.func85.trans (congrArg some (by kernel_rfl))
  f171 := Tryz.func35.trans (congrArg some (by kernel_rfl))
  f243 := Tryz.func56.trans (congrArg some (by kernel_rfl))
  f246 := Tryz.func66.trans (congrArg some (by kernel_rfl))
  f283 := Tryz.func71.trans (congrArg some (by kernel_rfl))
  f284 := Tryz.func72.trans (congrArg some (by kernel_rfl))
  f285 := Tryz.func73.trans (congrArg some (by kernel_rfl))
  f286 := Tryz.func74.trans (congrArg some (by kernel_rfl))
  f317 := Tryz.func89.trans (congrArg some (by kernel_rfl))
  f318 := Tryz.func90.trans (congrArg some (by kernel_rfl))
  f319 := Tryz.func91.trans (congrArg some (by kernel_rfl))
  f320 := Tryz.func92.trans (congrArg some (by kernel_rfl))
  f337 := Tryz.func101.trans (congrArg some (by kernel_rfl))
  f338 := Tryz.func102.trans (congrArg some (by kernel_rfl))
  t0 := Tryz.underlying0
  a0 := Tryz.isAgg0
  z0 := Tryz.sizeOf0
  v0 := Tryz.zeroValue0
  t2 := Tryz.underlying2
  a2 := Tryz.isAgg2
  z2 := Tryz.sizeOf2
  v2 := Tryz.zeroValue2
  t3 := Tryz.underlying3
  a3 := Tryz.isAgg3
  z3 := Tryz.sizeOf3
  v3 := Tryz.zeroValue3
  t4 := Tryz.underlying4
  a4 := Tryz.isAgg4
  z4 := Tryz.sizeOf4
  v4 := Tryz.zeroValue4
  t5 := Tryz.underlying5
  a5 := Tryz.isAgg5
  z5 := Tryz.sizeOf5
  v5 := Tryz.zeroValue5
  t9 := Tryz.underlying9
  a9 := Tryz.isAgg9
  z9 := Tryz.sizeOf9
  v9 := Tryz.zeroValue9
  t20 := Tryz.underlying20
  a20 := Tryz.isAgg20
  z20 := Tryz.sizeOf20
  v20 := Tryz.zeroValue20
  t37 := Tryz.underlying60
  a37 := Tryz.isAgg60
  z37 := Tryz.sizeOf60
  v37 := Tryz.zeroValue60
  t46 := Tryz.underlying114
  a46 := Tryz.isAgg114
  z46 := Tryz.sizeOf114
  v46 := Tryz.zeroValue114
  t51 := Tryz.underlying94
  a51 := Tryz.isAgg94
  z51 := Tryz.sizeOf94
  v51 := Tryz.zeroValue94
  t53 := Tryz.underlying107
  a53 := Tryz.isAgg107
  z53 := Tryz.sizeOf107
  v53 := Tryz.zeroValue107
  t171 := Tryz.underlying124
  a171 := Tryz.isAgg124
  z171 := Tryz.sizeOf124
  v171 := Tryz.zeroValue124
  t173 := Tryz.underlying127
  a173 := Tryz.isAgg127
  z173 := Tryz.sizeOf127
  v173 := Tryz.zeroValue127
  t212 := Tryz.underlying142
  a212 := Tryz.isAgg142
  z212 := Tryz.sizeOf142
  v212 := Tryz.zeroValue142
  t213 := Tryz.underlying143
  a213 := Tryz.isAgg143
  z213 := Tryz.sizeOf143
  t232 := Tryz.underlying156
  a232 := Tryz.isAgg156
  z232 := Tryz.sizeOf156
  v232 := Tryz.zeroValue156
  t233 := Tryz.underlying161
  a233 := Tryz.isAgg161
  z233 := Tryz.sizeOf161
  v233 := Tryz.zeroValue161
  g17 := by kernel_rfl
  g18 := by kernel_rfl
  g19 := by kernel_rfl
  i0 := by kernel_rfl
  i2 := by kernel_rfl
  i3 := by kernel_rfl
  i4 := by kernel_rfl
  i5 := by kernel_rfl
  i9 := by kernel_rfl
  i20 := by kernel_rfl
  i37 := by kernel_rfl
  i46 := by kernel_rfl
  i51 := by kernel_rfl
  i53 := by kernel_rfl
  i171 := by kernel_rfl
  i173 := by kernel_rfl
  i212 := by kernel_rfl
  i232 := by kernel_rfl
  i233 := by kernel_rfl
  m17 := by kernel_rfl
  m18 := by kernel_rfl
  m19 := by kernel_rfl }
open Go.RowKit Go.Sort Go.Lib in
theorem Tryz.strconv_Itoa (n : Int) (h0 : -9223372036854775808 ≤ n) (h1 : n ≤ 9223372036854775807) (w : World) (htab : Lib.TabIs Tryz.prog w "internal/strconv.uint64pow10" .u64 Lib.pow10Tab) :
    Calls Tryz.prog 35 #[.int .i64 n] w fun e w' => e = .returned (.string ⟨(Lib.itoa n).toArray⟩) ∧ ∃ k os, w' = grow (w.drewN k) os := Any.strconv_Itoa Tryz.laysM171 n h0 h1 w htab
def Tryz.laysM316_ren : Go.Shelf.Ren := ⟨fun | 316 => 62 | n => n, fun | 9 => 9 | 3 => 3 | 4 => 4 | 37 => 60 | 0 => 0 | 127 => 108 | 5 => 5 | n => n, fun | n => n⟩
theorem Tryz.laysM316 : Go.Proofs.LaysM.n316 Tryz.prog Tryz.laysM316_ren := {
  mixed := by kernel_rfl
  f316 := Tryz.func62.trans (congrArg some (by kernel_rfl))
  t0 := Tryz.underlying0
  a0 := Tryz.isAgg0
  z0 := Tryz.sizeOf0
  v0 := Tryz.zeroValue0
  t3 := Tryz.underlying3
  a3 := Tryz.isAgg3
  z3 := Tryz.sizeOf3
  v3 := Tryz.zeroValue3
  t4 := Tryz.underlying4
  a4 := Tryz.isAgg4
  z4 := Tryz.sizeOf4
  v4 := Tryz.zeroValue4
  t9 := Tryz.underlying9
  a9 := Tryz.isAgg9
  z9 := Tryz.sizeOf9
  v9 := Tryz.zeroValue9
  t37 := Tryz.underlying60
  a37 := Tryz.isAgg60
  z37 := Tryz.sizeOf60
  v37 := Tryz.zeroValue60
  t127 := Tryz.underlying108
  a127 := Tryz.isAgg108
  z127 := Tryz.sizeOf108
  v127 := Tryz.zeroValue108
  t5 := Tryz.underlying5
  a5 := Tryz.isAgg5
  z5 := Tryz.sizeOf5
  v5 := Tryz.zeroValue5
  i0 := by kernel_rfl
  i3 := by kernel_rfl
  i4 := by kernel_rfl
  i5 := by kernel_rfl
  i9 := by kernel_rfl
  i37 := by kernel_rfl
  i127 := by kernel_rfl }
theorem Tryz.stringslite_Clone (s : ByteArray) (w : World) (hlim : s.size ≤ 281474976710656) :
    Calls Tryz.prog 62 #[.string s] w fun e w' => e = .returned (.string s) ∧ Below w.heap.size w w' := Any.stringslite_Clone Tryz.laysM316 s w hlim
def Tryz.lays190_ren : Go.Shelf.Ren := ⟨fun | 190 => 58 | 125 => 69 | 258 => 68 | 128 => 84 | 129 => 85 | 302 => 75 | 303 => 76 | 304 => 77 | 305 => 78 | 306 => 79 | 307 => 80 | 308 => 81 | 309 => 82 | 310 => 83 | 333 => 93 | 329 => 94 | 330 => 95 | 334 => 96 | 335 => 97 | 336 => 98 | 344 => 103 | n => n, fun | 31 => 57 | 9 => 9 | 3 => 3 | 46 => 114 | 0 => 0 | 51 => 94 | 53 => 107 | 4 => 4 | 183 => 131 | 182 => 130 | 131 => 52 | 5 => 5 | 218 => 145 | 222 => 149 | 228 => 157 | 229 => 158 | n => n, fun | n => n⟩
theorem Tryz.lays190 : Go.Proofs.Lays.n190 Tryz.prog Tryz.lays190_ren := {
  mixed := by kernel_rfl
  f125 := Tryz.func69.trans (congrArg some (by kernel_rfl))
  f128 := Tryz.func84.trans (congrArg some (by kernel_rfl))
  f129 := Tryz.func85.trans (congrArg some (by kernel_rfl))
  f190 := Tryz.func58.trans (congrArg some (by kernel_rfl))
  f258 := Tryz.func68.trans (congrArg some (by kernel_rfl))
  f302 := Tryz.func75.trans (congrArg some (by kernel_rfl))
  f303 := Tryz.func76.trans (congrArg some (by kernel_rfl))
  f304 := Tryz.func77.trans (congrArg some (by kernel_rfl))
  f305 := Tryz.func78.trans (congrArg some (by kernel_rfl))
  f306 := Tryz.func79.trans (congrArg some (by kernel_rfl))
  f307 := Tryz.func80.trans (congrArg some (by kernel_rfl))
  f308 := Tryz.func81.trans (congrArg some (by kernel_rfl))
  f309 := Tryz.func82.trans (congrArg some (by kernel_rfl))
  f310 := Tryz.func83.trans (congrArg some (by kernel_rfl))
  f329 := Tryz.func94.trans (congrArg some (by kernel_rfl))
  f330 := Tryz.func95.trans (congrArg some (by kernel_rfl))
  f333 := Tryz.func93.trans (congrArg some (by kernel_rfl))
  f334 := Tryz.func96.trans (congrArg some (by kernel_rfl))
  f335 := Tryz.func97.trans (congrArg some (by kernel_rfl))
  f336 := Tryz.func98.trans (congrArg some (by kernel_rfl))
  f344 := Tryz.func103.trans (congrArg some (by kernel_rfl))
  t0 := Tryz.underlying0
  a0 := Tryz.isAgg0
  z0 := Tryz.sizeOf0
  v0 := Tryz.zeroValue0
  t3 := Tryz.underlying3
  a3 := Tryz.isAgg3
  z3 := Tryz.sizeOf3
  v3 := Tryz.zeroValue3
  t4 := Tryz.underlying4
  a4 := Tryz.isAgg4
  z4 := Tryz.sizeOf4
  v4 := Tryz.zeroValue4
  t5 := Tryz.underlying5
  a5 := Tryz.isAgg5
  z5 := Tryz.sizeOf5
  v5 := Tryz.zeroValue5
  t9 := Tryz.underlying9
  a9 := Tryz.isAgg9
  z9 := Tryz.sizeOf9
  v9 := Tryz.zeroValue9
  t31 := Tryz.underlying57
  a31 := Tryz.isAgg57
  z31 := Tryz.sizeOf57
  v31 := Tryz.zeroValue57
  t46 := Tryz.underlying114
  a46 := Tryz.isAgg114
  z46 := Tryz.sizeOf114
  v46 := Tryz.zeroValue114
  t51 := Tryz.underlying94
  a51 := Tryz.isAgg94
  z51 := Tryz.sizeOf94
  v51 := Tryz.zeroValue94
  t53 := Tryz.underlying107
  a53 := Tryz.isAgg107
  z53 := Tryz.sizeOf107
  v53 := Tryz.zeroValue107
  t131 := Tryz.underlying52
  a131 := Tryz.isAgg52
  z131 := Tryz.sizeOf52
  v131 := Tryz.zeroValue52
  t182 := Tryz.underlying130
  a182 := Tryz.isAgg130
  z182 := Tryz.sizeOf130
  v182 := Tryz.zeroValue130
  t183 := Tryz.underlying131
  a183 := Tryz.isAgg131
  z183 := Tryz.sizeOf131
  v183 := Tryz.zeroValue131
  t218 := Tryz.underlying145
  a218 := Tryz.isAgg145
  z218 := Tryz.sizeOf145
  v218 := Tryz.zeroValue145
  t222 := Tryz.underlying149
  a222 := Tryz.isAgg149
  z222 := Tryz.sizeOf149
  v222 := Tryz.zeroValue149
  t228 := Tryz.underlying157
  a228 := Tryz.isAgg157
  z228 := Tryz.sizeOf157
  v228 := Tryz.zeroValue157
  t229 := Tryz.underlying158
  a229 := Tryz.isAgg158
  z229 := Tryz.sizeOf158
  v229 := Tryz.zeroValue158 }
open Go.Sort Go.RowKit in
theorem Tryz.slices_Sort_string (blk off cap : Nat) (ss : List (List UInt8)) (w : World) (hH : Holds encStr w blk off ss.toArray) (hblk : blk < w.heap.size) (hsz : ss.length < 4611686018427387904) :
    Calls Tryz.prog 58 #[.slice (some ⟨blk, off, none⟩) ss.length cap] w fun e w' =>
      e = .returned (.tuple #[]) ∧ ∃ n os, w' = grow (putRow encStr (Sort.ahead w n) blk off (ss.mergeSort fun x y => decide (x ≤ y)).toArray) os := Any.slices_Sort_string Tryz.lays190 blk off cap ss w hH hblk hsz
def Tryz.lays99_ren : Go.Shelf.Ren := ⟨fun | 99 => 57 | 206 => 67 | n => n, fun | 9 => 9 | 4 => 4 | 3 => 3 | n => n, fun | n => n⟩
theorem Tryz.lays99 : Go.Proofs.Lays.n99 Tryz.prog Tryz.lays99_ren := {
  mixed := by kernel_rfl
  f99 := Tryz.func57.trans (congrArg some (by kernel_rfl))
  f206 := Tryz.func67.trans (congrArg some (by kernel_rfl))
  t3 := Tryz.underlying3
  a3 := Tryz.isAgg3
  z3 := Tryz.sizeOf3
  v3 := Tryz.zeroValue3
  t4 := Tryz.underlying4
  a4 := Tryz.isAgg4
  z4 := Tryz.sizeOf4
  v4 := Tryz.zeroValue4
  t9 := Tryz.underlying9
  a9 := Tryz.isAgg9
  z9 := Tryz.sizeOf9
  v9 := Tryz.zeroValue9 }
theorem Tryz.strings_HasPrefix (s p : ByteArray) (w : World) :
    Calls Tryz.prog 57 #[.string s, .string p] w fun e w' => e = .returned (.bool (Lib.hasPrefix s.data.toList p.data.toList)) ∧ w' = w := Any.strings_HasPrefix Tryz.lays99 s p w
open Go.RowKit Go.Sort in
theorem Tryz.slices_Sort_string_none (p : Option Addr) (cap : Nat) (w : World) :
    Calls Tryz.prog 58 #[.slice p 0 cap] w fun e w' => e = .returned (.tuple #[]) ∧ w' = w := Any.slices_Sort_string_none Tryz.lays190 p cap w
end Go.Proofs.YtkbjpgfdmkmbmaaGreatDoor
namespace Go.Proofs.YtkbjpgfdmkmbmaaGreatDoor
open Go.RowKit

set_option maxRecDepth 100000 in
theorem sclone_any (s : ByteArray) (hs : s.size ≤ 281474976710656) (w : World) :
    Calls Tryz.prog 44 #[.string s] w fun e w' => e = .returned (.string s) ∧ Below w.heap.size w w' := by
  have h := Lib.hid (Tryz.stringslite_Clone s w hs)
  go_enter Tryz.func44, Tryz.ntmps44
  go_wp2_with fail
  refine h.out.mono ?_
  rintro e w1 ⟨rfl, hb1⟩
  have B1 := Lib.hid hb1
  clear hb1
  dsimp only
  go_wp2
  go_ret
  exact ⟨rfl, B1.out⟩
end Go.Proofs.YtkbjpgfdmkmbmaaGreatDoor
namespace Go.Proofs.YtkbjpgfdmkmbmaaGreatDoor
open Go.RowKit Go.Maps
open Go.Op (bytesLess)
set_option linter.unusedVariables false
set_option linter.unusedSimpArgs false

/-- rows as a map's datum -/
def rowsD (rows : RowL) : DataW Unit := .map (rows.map fun r => (Lit.string r.1, DataW.lit (.string r.2)))
/-- a struct of one text, as the element of a map -/
def rowE : Value → Option (DataW Unit × List MemPlace)
  | .agg cs => match cs.toList with
    | [.string s] => some (.lit (.string s.data.toList), [])
    | _ => none
  | _ => none
def rowV (v : List UInt8) : Value := .agg #[.string ⟨v.toArray⟩]
theorem rowE_mk (v : List UInt8) : rowE (rowV v) = some (.lit (.string v), []) := by simp [rowE, rowV]
theorem rowE_inv {v : Value} {y : DataW Unit × List MemPlace} (h : rowE v = some y) : ∃ x : List UInt8, v = rowV x ∧ y = (.lit (.string x), []) := by
  unfold rowE at h
  split at h
  · rename_i cs
    split at h
    · rename_i s hs
      injection h with h
      refine ⟨s.data.toList, ?_, h.symm⟩
      have e : cs = #[.string s] := by
        apply Array.ext'
        rw [hs]
      rw [e]
      simp [rowV]
    · cases h
  · cases h
theorem before_less : ∀ a b : List UInt8, bytesBefore a b = bytesLess a b
  | [], [] => rfl
  | [], _ :: _ => rfl
  | _ :: _, [] => rfl
  | x :: a, y :: b => by
    show (decide (x < y) || (x == y && bytesBefore a b)) = (decide (x < y) || (x == y && bytesLess a b))
    rw [before_less a b]
theorem insert_front (k v : List UInt8) : ∀ rows : RowL, (∀ r ∈ rows, bytesLess k r.1 = true) → DataW.insert (Lit.string k, (DataW.lit (.string v) : DataW Unit)) (rows.map fun r => (Lit.string r.1, DataW.lit (.string r.2))) = (Lit.string k, DataW.lit (.string v)) :: rows.map fun r => (Lit.string r.1, DataW.lit (.string r.2))
  | [], _ => rfl
  | r :: rs, h => by
    show (if (Lit.string k).before (Lit.string r.1) = true then _ else _) = _
    rw [if_pos (by show bytesBefore k r.1 = true; rw [before_less]; exact h r (List.mem_cons_self ..))]
    rfl
theorem same_key (a b : List UInt8) : (Lit.string a).sameKey (.string b) = decide (a = b) := by
  show (a == b) = _
  by_cases h : a = b
  · subst h; simp
  · simp [h]
theorem filter_rows (k : List UInt8) (rows : RowL) : (rows.map fun r => (Lit.string r.1, (DataW.lit (.string r.2) : DataW Unit))).filter (fun p => !p.1.sameKey (.string k)) = (rows.filter fun r => decide (r.1 ≠ k)).map fun r => (Lit.string r.1, DataW.lit (.string r.2)) := by
  rw [List.filter_map]
  congr 1
  refine List.filter_congr fun r _ => ?_
  show (!(Lit.string r.1).sameKey (.string k)) = _
  rw [same_key]
  by_cases h : r.1 = k <;> simp [h]
theorem filter_above {k : List UInt8} {rows : RowL} (h : ∀ r ∈ rows, bytesLess k r.1 = true) : rows.filter (fun r => decide (r.1 ≠ k)) = rows :=
  List.filter_eq_self.2 fun r hr => by
    have := less_ne (h r hr)
    simp [Ne.symm this]
theorem insert_rows (k v : List UInt8) : ∀ rows : RowL, Rising rows → DataW.insert (Lit.string k, (DataW.lit (.string v) : DataW Unit)) ((rows.filter fun r => decide (r.1 ≠ k)).map fun r => (Lit.string r.1, DataW.lit (.string r.2))) = (insL k v false rows).map fun r => (Lit.string r.1, DataW.lit (.string r.2))
  | [], _ => rfl
  | r :: rs, h => by
    unfold insL
    cases hl : bytesLess r.1 k with
    | true =>
      have hne := less_ne hl
      rw [if_neg (fun e => by cases e.2), if_neg hne, List.nil_append, List.filter_cons, if_pos (by simp [hne])]
      show (if (Lit.string k).before (Lit.string r.1) = true then _ else _) = _
      rw [if_neg (by show ¬ bytesBefore k r.1 = true; rw [before_less, less_asym _ _ hl]; exact Bool.false_ne_true)]
      have ih := insert_rows k v rs h.2
      show (Lit.string r.1, DataW.lit (.string r.2)) :: DataW.insert _ _ = _
      rw [ih]
      rfl
    | false =>
      rw [if_pos ⟨rfl, rfl⟩]
      show _ = List.map _ ((k, v) :: ((if r.1 = k then [] else [r]) ++ insL k v (false || !false) rs))
      rw [show (false || !false) = true from rfl, insL_placed]
      by_cases hk : r.1 = k
      · rw [if_pos hk, List.nil_append, List.filter_cons, if_neg (by simp [hk])]
        rw [insert_front k v]
        · rfl
        · intro x hx
          rw [← hk]; exact h.1 x (List.mem_filter.1 hx).1
      · have hkr : bytesLess k r.1 = true := by
          rcases less_total r.1 k with h' | h' | h'
          · rw [hl] at h'; cases h'
          · exact absurd h' hk
          · exact h'
        rw [if_neg hk, List.filter_cons, if_pos (by simp [hk])]
        rw [insert_front k v]
        · rfl
        · intro x hx
          rcases List.mem_cons.1 hx with rfl | hx
          · exact hkr
          · exact less_trans _ _ _ hkr (h.1 x (List.mem_filter.1 hx).1)
theorem put_rows {rows : RowL} (h : Rising rows) (k v : List UInt8) : (rowsD rows).put (.string k) (.lit (.string v)) = rowsD (insL k v false rows) := by
  show DataW.map (DataW.insert _ (List.filter _ _)) = _
  rw [filter_rows, insert_rows k v rows h]
  rfl
theorem del_rows (rows : RowL) (k v : List UInt8) : (rowsD rows).del (.string k) = rowsD (insL k v true rows) := by
  show DataW.map (List.filter _ _) = _
  rw [filter_rows, insL_placed]
  rfl
theorem has_rows (k : List UInt8) : ∀ rows : RowL, Maps.has (rowsD rows) (.string k) = (getR rows k).isSome
  | [] => rfl
  | r :: rs => by
    have ih := has_rows k rs
    show ((Lit.string r.1).sameKey (.string k) || Maps.has (rowsD rs) (.string k)) = (if r.1 = k then some r.2 else getR rs k).isSome
    rw [ih, same_key]
    by_cases h : r.1 = k <;> simp [h]
theorem at_rows (k : List UInt8) (z : DataW Unit) : ∀ rows : RowL, (rowsD rows).atKey (.string k) z = (match getR rows k with | some v => .lit (.string v) | none => z)
  | [] => rfl
  | r :: rs => by
    have ih := at_rows k z rs
    unfold rowsD DataW.atKey at ih ⊢
    simp only [List.map_cons, List.find?_cons] at ih ⊢
    show _ = (match (if r.1 = k then some r.2 else getR rs k) with | some v => DataW.lit (.string v) | none => z)
    by_cases h : r.1 = k
    · rw [if_pos h]
      simp [same_key, h]
    · rw [if_neg h]
      simp only [same_key, h, decide_false]
      exact ih
theorem size_rows (rows : RowL) : Maps.size (rowsD rows) = rows.length := by show (List.map _ rows).length = _; simp
theorem keys_rows (rows : RowL) : strKeys (rowsD rows) = rows.map (·.1) := by
  show List.map _ (List.map _ rows) = _
  rw [List.map_map]
  rfl

theorem keyedS : Keyed Tryz.prog 9 := string_keyed Tryz.underlying9
/-- block b is a map of texts to structs of one text, and has just these rows, that rise -/
structure MapAt (w : World) (b : Nat) (rows : RowL) : Prop where
  own : w.ownsMap Tryz.prog 9 rowE b rows.length (rowsD rows)
  rising : Rising rows
theorem mapAt_of {w : World} {b n : Nat} {rows : RowL} (h : w.ownsMap Tryz.prog 9 rowE b n (rowsD rows)) (hr : Rising rows) : MapAt w b rows := by
  obtain ⟨es, clock, hb, F, hs, hD⟩ := h
  refine ⟨⟨es, clock, hb, F, ?_, hD⟩, hr⟩
  have e := congrArg Maps.size hD
  rw [size_rows] at e
  rw [e]
  simp [Maps.size, length_sorted]
theorem MapAt.lt {w : World} {b : Nat} {rows : RowL} (h : MapAt w b rows) : b < w.heap.size := h.own.lt
theorem MapAt.keep {w w' : World} {b : Nat} {rows : RowL} (h : MapAt w b rows) (hb : w'.heap[b]? = w.heap[b]?) : MapAt w' b rows := by
  obtain ⟨⟨es, clock, h1, r⟩, hr⟩ := h
  exact ⟨⟨es, clock, hb.trans h1, r⟩, hr⟩
theorem MapAt.below {w w' : World} {b : Nat} {rows : RowL} (h : MapAt w b rows) (hb : Below w.heap.size w w') : MapAt w' b rows := h.keep (hb.block b h.lt)
theorem mapAt_made (w : World) : MapAt (w.alloc (.map #[] 0)) w.heap.size [] := ⟨World.ownsMap_made _ _ _ _, trivial⟩
theorem keyOf_text (k : List UInt8) (h : k.length ≤ 1000000000000000) : keyOf Tryz.prog 9 (.string ⟨k.toArray⟩) = some (.string k) := by
  have := Go.WideMaps.keyOf_string_mk (P := Tryz.prog) (k := 9) Tryz.underlying9 (s := ⟨k.toArray⟩) (by unfold maxLen; simp [ByteArray.size]; omega)
  simpa using this
/-- every key of such a map is one that the reader reads -/
theorem MapAt.keys_le {w : World} {b : Nat} {rows : RowL} (h : MapAt w b rows) : ∀ r ∈ rows, r.1.length ≤ maxLen := fun r hr =>
  strKeys_le h.own Tryz.underlying9 r.1 (by rw [keys_rows]; exact List.mem_map.2 ⟨r, hr, rfl⟩)
end Go.Proofs.YtkbjpgfdmkmbmaaGreatDoor
namespace Go.Proofs.YtkbjpgfdmkmbmaaGreatDoor
open Go.RowKit
set_option linter.unusedVariables false
set_option linter.unusedSimpArgs false

theorem Tryz.underMap : Tryz.prog.underlying 65 = some (.map 9 78) := Tryz.underlying65
theorem Only.turned {w w' : World} {b : Nat} (h : w.mapTurned w' b) : Only (fun x => x = b) w w' := Only.of_grown h.grown fun i e => (Option.some.inj e).symm
/-- 'm[k] = row', by its run -/
theorem MapAt.put {w : World} {b : Nat} {rows : RowL} (h : MapAt w b rows) (k v : List UInt8) (hk : k.length ≤ 1000000000000000) (hr : rows.length ≤ 1000000000000000) :
    ∃ w', (Instr.mapUpdate 65 (.map (some b)) (.string ⟨k.toArray⟩) (rowV v)).run Tryz.prog w = .ok () w' ∧ MapAt w' b (insL k v false rows) ∧ Only (fun x => x = b) w w' := by
  obtain ⟨w', h1, h2, h3⟩ := h.own.store keyedS Tryz.underMap (by unfold maxLen; omega) (keyOf_text k hk) (rowE_mk v)
  rw [put_rows h.rising] at h2
  exact ⟨w', h1, mapAt_of h2 (insL_rising k v false rows h.rising fun _ => trivial), Only.turned h3⟩
theorem MapAt.del {w : World} {b : Nat} {rows : RowL} (h : MapAt w b rows) (k v : List UInt8) (hk : k.length ≤ 1000000000000000) (ty : TypeId) :
    ∃ w', (Builtin.delete_ #[65, 9] ty #[.map (some b), .string ⟨k.toArray⟩]).run Tryz.prog w = .ok (.tuple #[]) w' ∧ MapAt w' b (insL k v true rows) ∧ Only (fun x => x = b) w w' := by
  obtain ⟨w', h1, h2, h3⟩ := h.own.drop keyedS Tryz.underMap (keyOf_text k hk) ty
  rw [del_rows rows k v] at h2
  exact ⟨w', h1, mapAt_of h2 (insL_rising k v true rows h.rising fun _ => trivial), Only.turned h3⟩
theorem step_mapUpdate {P : Program} {ops : Array Oper} {o : Oper} {a : Act} {w w' : World} {K : Act → World → Prop} {Q : Exit → Act → World → Prop} {E : Prop}
    (hg : o.guard = none) (m x v : Operand) (t : TypeId) (hop : o.op = Op.mapUpdate t m x v) (mv kv vv : Value) (hm : a.eval m = mv) (hx : a.eval x = kv) (hv : a.eval v = vv) (hrun : (Instr.mapUpdate t mv kv vv).run P w = .ok () w')
    (hK : K (a.put o.dst undef) w') : if Region.wanted o (yielded ops a.tmps) = true then Oper.wp P o a w K Q else E := by
  have hw : Region.wanted o (yielded ops a.tmps) = true := by simp [Region.wanted, hg]
  rw [if_pos hw]
  unfold Oper.wp
  simp [execOp, hop, hm, hx, hv, hrun, Result.andThen]
  exact hK
theorem wpList_delete_run {P : Program} {ops : Array Oper} {rest : List Oper} {o : Oper} {a : Act} {w w' : World} {Q : Exit → Act → World → Prop}
    (hg : o.guard = none) (m x : Operand) (t k : TypeId) (hop : o.op = Op.call { callee := Callee.builtin Builtin.delete, args := #[m, x], argTypes := #[t, k] }) (mv kv : Value) (hm : a.eval m = mv) (hx : a.eval x = kv)
    (hrun : (Builtin.delete_ #[t, k] o.type #[mv, kv]).run P w = .ok (.tuple #[]) w') (hK : wpList P ops Q rest (a.put o.dst (.tuple #[])) w') : wpList P ops Q (o :: rest) a w := by
  refine wpList_plain hg fun K' hK' => ?_
  unfold Oper.wp
  simp [execOp, hop, resolve, invoke, builtin, hm, hx, hrun, Result.andThen]
  exact hK' _ _ hK
/-- changes read stay while a map alone is written -/
theorem RdC.turned {w w' : World} {b : Nat} {rows : RowL} {v : Value} {l : List Ch} (h : RdC w v l) (hm : MapAt w b rows) (ho : Only (fun x => x = b) w w') : RdC w' v l := by
  obtain ⟨A, c, rfl, hc, h⟩ := h
  refine ⟨A, c, rfl, hc, fun k r hk => ?_⟩
  obtain ⟨g, o, rfl, hg, h1, h2, h3⟩ := h k r hk
  have hne : g ≠ b := fun e => by
    subst e
    obtain ⟨⟨es, clock, hb, _⟩, _⟩ := hm
    unfold World.cell? at h1
    simp [hb] at h1
  have he := ho.block g hg hne
  exact ⟨g, o, rfl, Nat.lt_of_lt_of_le hg ho.size, (World.cell?_of_block he).trans h1, (World.cell?_of_block he).trans h2, (World.cell?_of_block he).trans h3⟩
theorem turnL_le : ∀ (l : List Ch) (rows : RowL), (turnL rows l).length ≤ rows.length + l.length
  | [], rows => by simp [turnL]
  | c :: l, rows => by
    have h1 := turnL_le l (turn1 rows c)
    have h2 : (turn1 rows c).length ≤ rows.length + 1 := insL_len _ _ _ _
    rw [turnL_cons, List.length_cons]
    omega
set_option maxRecDepth 100000 in
set_option maxHeartbeats 4000000 in
theorem schange_any (b : Nat) (rows : RowL) (A : Option Addr) (n c : Nat) (l : List Ch) (hn : l.length = n) (hl : n ≤ 1000000000) (hz : ∀ x ∈ l, x.key.length ≤ 10000000 ∧ x.val.length ≤ 10000000) (hr : rows.length ≤ 1000000000) (w : World) (hm : MapAt w b rows) (h : RdC w (.slice A n c) l) :
    Calls Tryz.prog 28 #[.map (some b), .slice A n c] w fun e w' => e = .returned (.tuple #[]) ∧ MapAt w' b (turnL rows l) ∧ Only (fun x => x = b) w w' := by
  have HRC := Lib.hid h; have HN := Lib.hid hn; have HZ := Lib.hid hz; have HM := Lib.hid hm
  clear h hn hz hm
  go_enter Tryz.func28, Tryz.ntmps28
  go_wp2
  go_loopw [5, 8] (fun x i W => ∃ k : Nat, k ≤ n ∧ i = .int .i64 k ∧ Hid (MapAt W b (turnL rows (l.take k)) ∧ Only (fun x => x = b) w W)) (fun _ i _ => n - (intOf i).toNat)
  case atStart => exact ⟨0, Nat.zero_le _, rfl, Lib.hid ⟨by rw [List.take_zero]; exact HM.out, Only.refl _ _⟩⟩
  case round =>
    obtain ⟨k, hk, rfl, hT⟩ := hrel
    by_cases hlt : k < n
    · have hkr : decide ((k : Int) < n) = true := by simp; omega
      have hkl : k < l.length := by rw [HN.out]; exact hlt
      have hk0 : (0 : Int) ≤ k := by omega
      have hk1 : (k : Int) < n := by omega
      obtain ⟨g, o, rfl, hg, e0, e1, e2⟩ := (HRC.out.turned HM.out hT.out.2).at k hkl
      obtain ⟨x, hx⟩ : ∃ x, l[k] = x := ⟨_, rfl⟩
      have htk : l.take (k + 1) = l.take k ++ [x] := by rw [List.take_succ_eq_append_getElem hkl, hx]
      have hstep : turnL rows (l.take (k + 1)) = insL x.key x.value x.gone (turnL rows (l.take k)) := by rw [htk, turnL_snoc]; rfl
      have hz := HZ.out x (by rw [← hx]; exact List.getElem_mem hkl)
      have hrl : (turnL rows (l.take k)).length ≤ 1000000000000000 := by
        have := turnL_le (l.take k) rows
        rw [List.length_take] at this
        omega
      obtain ⟨S1, hS1⟩ : ∃ X : ByteArray, X = ⟨x.key.toArray⟩ := ⟨_, rfl⟩
      obtain ⟨S2, hS2⟩ : ∃ X : ByteArray, X = ⟨x.value.toArray⟩ := ⟨_, rfl⟩
      obtain ⟨G, hG⟩ : ∃ X, x.gone = X := ⟨_, rfl⟩
      rw [hx] at e0 e1 e2
      unfold tv at e0 e1
      rw [← hS1] at e0
      rw [← hS2] at e1
      rw [hG] at e2 hstep
      have hs1 : S1.size ≤ 281474976710656 := by rw [hS1]; show x.key.toArray.size ≤ _; simp; omega
      have hs2 : G = false → S2.size ≤ 281474976710656 := fun hg => by
        have h2 := hz.2
        unfold Ch.val at h2
        rw [hG, hg, if_neg Bool.false_ne_true] at h2
        rw [hS2]; show x.value.toArray.size ≤ _; simp; omega
      obtain ⟨W1, hW1⟩ : ∃ W, W = wr.alloc (.cells #[.string S1, .string S2, .bool G] 37 (0, 0)) := ⟨_, rfl⟩
      have hb1 : Below wr.heap.size wr W1 := by rw [hW1]; exact (Below.refl _ _).alloc (Nat.le_refl _) _
      have k1 : W1.heap[wr.heap.size]? = some (.cells #[.string S1, .string S2, .bool G] 37 (0, 0)) := by rw [hW1]; exact heap_alloc_last wr _
      have hm1 := fun W (hb : Below W1.heap.size W1 W) => (hT.out.1.below hb1).below hb
      have c1 := fun W (hb : Below W1.heap.size W1 W) => sclone_any S1 hs1 W
      have c2 := fun (hg : G = false) W (hb : Below W1.heap.size W1 W) => sclone_any S2 (hs2 hg) W
      have hput := fun W (hb : Below W1.heap.size W1 W) => (hm1 W hb).put x.key x.value (by omega) hrl
      have hdel := fun W (hb : Below W1.heap.size W1 W) => (hm1 W hb).del x.key x.value (by omega)
      rw [← hS1] at hput hdel
      have hrv : rowV x.value = .agg #[.string S2] := by rw [hS2]; rfl
      rw [hrv] at hput
      have hcl : ∀ W, Below W1.heap.size W1 W → W.cell? ⟨wr.heap.size, 0, none⟩ = some (.string S1) ∧ W.cell? ⟨wr.heap.size, 1, none⟩ = some (.string S2) := fun W hb => ⟨(cell_here (blk_below k1 hb)).trans rfl, (cell_here (blk_below k1 hb)).trans rfl⟩
      have hbn : wr.heap.size ≠ b := fun e => by have := hT.out.1.lt; omega
      have hkeep : ∀ W W', Below W1.heap.size W1 W → Only (fun x => x = b) W W' → W'.cell? ⟨wr.heap.size, 0, none⟩ = some (.string S1) ∧ W'.cell? ⟨wr.heap.size, 1, none⟩ = some (.string S2) := fun W W' hb ho => by
        have h1 := blk_below k1 hb
        have h2 := (ho.block _ (Array.getElem?_eq_some_iff.1 h1).1 hbn).trans h1
        exact ⟨(cell_here h2).trans rfl, (cell_here h2).trans rfl⟩
      have hfin : ∀ W W', Below W1.heap.size W1 W → Only (fun x => x = b) W W' → Only (fun x => x = b) w W' := fun W W' hb ho => hT.out.2.trans ((Only.of_below (hb1.chain hb)).trans ho)
      have HFIN := Lib.hid hfin; have HKEEP := Lib.hid hkeep; have C1 := Lib.hid c1; have C2 := Lib.hid c2; have PUT := Lib.hid hput; have DEL := Lib.hid hdel; have CL := Lib.hid hcl; have STEP := Lib.hid hstep; have HW1 := Lib.hid hW1; have K1 := Lib.hid k1
      obtain ⟨⟨-, -, c3⟩, -⟩ := box3_of k1
      clear hfin hkeep hbn c1 c2 hput hdel hcl hstep hW1 k1 hm1 hb1 hrl hz htk hx hg hkl hS1 hS2 hG hs1 hs2 hrv
      cases G with
      | true =>
        go_upto_region 3 with fail
        rw [← HW1.out]
        have c4 := (CL.out W1 (Below.refl _ _)).1
        obtain ⟨W2, hrun, hm2, ho2⟩ := DEL.out W1 (Below.refl _ _) 0
        have hend : MapAt W2 b (turnL rows (l.take (k + 1))) ∧ Only (fun x => x = b) w W2 := ⟨by rw [STEP.out]; exact hm2, HFIN.out _ _ (Below.refl _ _) ho2⟩
        have HEND := Lib.hid hend
        clear hend hm2 ho2
        go_wp2_with (at_delete; refine wpList_delete_run rfl _ _ _ _ rfl _ _ rfl rfl hrun ?_)
        go_roundw
        case rel => exact ⟨k + 1, by omega, by go_num, HEND⟩
        case measure => simp [intOf]; omega
      | false =>
        go_upto_region 3 with fail
        rw [← HW1.out]
        go_upto_region 5 with fail
        refine wp_region_held_drew (S := (fun W => W.cell? ⟨wr.heap.size, 0, none⟩ = some (.string S1) ∧ W.cell? ⟨wr.heap.size, 1, none⟩ = some (.string S2))) (by kernel_rfl) (CL.out _ (Below.refl _ _).drew) (fun hHeld => ?_)
        refine wpAnyH_take (i := 0) (oi := _) (v := ?v1) (by simp only [List.getElem?_toArray, List.getElem?_cons_succ, List.getElem?_cons_zero]; rfl) (by kernel_rfl) (by kernel_rfl) (by kernel_rfl) (by exact fun _ _ _ h => h) (Or.inl ⟨by rfl, ?hy1⟩) (by assumption) ?rest1
        case hy1 => (intro w hSw; (try dsimp only at hSw); go_simp; try with_reducible rfl)
        try simp only [Act.put, List.setIfInBounds_toArray, List.set_cons_zero, List.set_cons_succ]
        refine wpAnyH_take (i := 1) (oi := _) (v := ?v2) (by simp only [List.getElem?_toArray, List.getElem?_cons_succ, List.getElem?_cons_zero]; rfl) (by kernel_rfl) (by kernel_rfl) (by kernel_rfl) (by exact fun _ _ _ h => h) (Or.inl ⟨by rfl, ?hy2⟩) (by assumption) ?rest2
        case hy2 => (intro w hSw; (try dsimp only at hSw); go_simp; try with_reducible rfl)
        try simp only [Act.put, List.setIfInBounds_toArray, List.set_cons_zero, List.set_cons_succ]
        refine wpAnyH_take (i := 2) (oi := _) (v := ?v3) (by simp only [List.getElem?_toArray, List.getElem?_cons_succ, List.getElem?_cons_zero]; rfl) (by kernel_rfl) (by kernel_rfl) (by kernel_rfl) (by exact fun _ _ _ h => h) (Or.inl ⟨by rfl, ?hy3⟩) (by assumption) ?rest3
        case hy3 => (intro w hSw; (try dsimp only at hSw); go_simp; try with_reducible rfl)
        try simp only [Act.put, List.setIfInBounds_toArray, List.set_cons_zero, List.set_cons_succ]
        refine wpAnyH_take (i := 4) (oi := _) (v := ?v4) (by simp only [List.getElem?_toArray, List.getElem?_cons_succ, List.getElem?_cons_zero]; rfl) (by kernel_rfl) (by kernel_rfl) (by kernel_rfl) (by exact fun _ _ _ h => h) (Or.inl ⟨by rfl, ?hy4⟩) (by assumption) ?rest4
        case hy4 => (intro w hSw; (try dsimp only at hSw); go_simp; try with_reducible rfl)
        try simp only [Act.put, List.setIfInBounds_toArray, List.set_cons_zero, List.set_cons_succ]
        refine wpAnyH_take (i := 5) (oi := _) (v := ?v5) (by simp only [List.getElem?_toArray, List.getElem?_cons_succ, List.getElem?_cons_zero]; rfl) (by kernel_rfl) (by kernel_rfl) (by kernel_rfl) (by exact fun _ _ _ h => h) (Or.inl ⟨by rfl, ?hy5⟩) (by assumption) ?rest5
        case hy5 => (intro w hSw; (try dsimp only at hSw); go_simp; try with_reducible rfl)
        try simp only [Act.put, List.setIfInBounds_toArray, List.set_cons_zero, List.set_cons_succ]
        refine wpAnyH_ready (rs := [3]) (by kernel_rfl) (by simp) ?_
        refine AllReadyH.cons (o := _) (by simp only [List.getElem?_toArray, List.getElem?_cons_succ, List.getElem?_cons_zero]; rfl) (fun K hK => ?_) AllReadyH.nil
        go_simp
        go_at_call 44
        refine (C1.out _ (Below.refl _ _).drew).mono ?_
        rintro e w2 ⟨rfl, hb2⟩
        have BA := Lib.hid ((Below.refl W1.heap.size W1).drew.chain hb2); clear hb2
        dsimp only
        refine hK.out _ _ (CL.out _ BA.out) (fun hHeld => ?_)
        clear hK K
        try simp only [Act.put, List.setIfInBounds_toArray, List.set_cons_zero, List.set_cons_succ]
        refine wpAnyH_ready (rs := [6]) (by kernel_rfl) (by simp) ?_
        refine AllReadyH.cons (o := _) (by simp only [List.getElem?_toArray, List.getElem?_cons_succ, List.getElem?_cons_zero]; rfl) (fun K hK => ?_) AllReadyH.nil
        go_simp
        go_at_call 44
        refine (C2.out rfl _ BA.out).mono ?_
        rintro e w3 ⟨rfl, hb3⟩
        have BB := Lib.hid (BA.out.chain hb3); clear hb3
        dsimp only
        refine hK.out _ _ (CL.out _ BB.out) (fun hHeld => ?_)
        clear hK K
        try simp only [Act.put, List.setIfInBounds_toArray, List.set_cons_zero, List.set_cons_succ]
        refine wpAnyH_take (i := 7) (oi := _) (v := ?v8) (by simp only [List.getElem?_toArray, List.getElem?_cons_succ, List.getElem?_cons_zero]; rfl) (by kernel_rfl) (by kernel_rfl) (by kernel_rfl) (by exact fun _ _ _ h => h) (Or.inl ⟨by rfl, ?hy8⟩) (by assumption) ?rest8
        case hy8 => (intro w hSw; (try dsimp only at hSw); go_simp; try with_reducible rfl)
        try simp only [Act.put, List.setIfInBounds_toArray, List.set_cons_zero, List.set_cons_succ]
        refine wpAnyH_ready (rs := [8]) (by kernel_rfl) (by simp) ?_
        refine AllReadyH.cons (o := _) (by simp only [List.getElem?_toArray, List.getElem?_cons_succ, List.getElem?_cons_zero]; rfl) (fun K hK => ?_) AllReadyH.nil
        obtain ⟨W4, hrun, hm4, ho4⟩ := PUT.out _ BB.out
        refine step_mapUpdate rfl (.tmp 17) (.tmp 20) (.tmp 24) 65 rfl _ _ _ rfl rfl rfl hrun ?_
        refine hK.out _ _ (HKEEP.out _ _ BB.out ho4) (fun hHeld => ?_)
        clear hK K
        try simp only [Act.put, List.setIfInBounds_toArray, List.set_cons_zero, List.set_cons_succ]
        refine wpAnyH_done (by kernel_rfl) ?_ _
        have hend : MapAt W4 b (turnL rows (l.take (k + 1))) ∧ Only (fun x => x = b) w W4 := ⟨by rw [STEP.out]; exact hm4, HFIN.out _ _ BB.out ho4⟩
        have HEND := Lib.hid hend
        clear hend hm4 ho4 hrun
        go_wp2
        go_roundw
        case rel => exact ⟨k + 1, by omega, by go_num, HEND⟩
        case measure => simp [intOf]; omega
    · obtain rfl : k = n := by omega
      have hkr : decide ((k : Int) < k) = false := by simp
      have he : l.take k = l := by rw [← HN.out]; exact List.take_length
      have hp := hT.out
      rw [he] at hp
      have HP := Lib.hid hp
      clear hp he
      go_wp2
      go_end0
      exact ⟨rfl, HP.out⟩
end Go.Proofs.YtkbjpgfdmkmbmaaGreatDoor
namespace Go.Proofs.YtkbjpgfdmkmbmaaGreatDoor
open Go.RowKit Go.Maps
set_option linter.unusedVariables false
set_option linter.unusedSimpArgs false

set_option maxRecDepth 100000 in
set_option maxHeartbeats 4000000 in
theorem scopy_any (bd bs : Nat) (rows : RowL) (hl : rows.length ≤ 1000000000) (w : World) (hd : MapAt w bd []) (hs : MapAt w bs rows) (hne : bd ≠ bs) :
    Calls Tryz.prog 49 #[.map (some bd), .map (some bs)] w fun e w' => e = .returned (.tuple #[]) ∧ MapAt w' bd rows ∧ Only (fun x => x = bd) w w' := by
  have hbd := hd.lt
  have hbs := hs.lt
  have hod := hd.own
  have hos := hs.own
  have hrs := hs.rising
  obtain ⟨N, hN⟩ : ∃ N, rows.length = N := ⟨_, rfl⟩
  have hsz := size_rows rows
  rw [hN] at hl hos hsz
  obtain ⟨Ds, hDs⟩ : ∃ D, rowsD rows = D := ⟨_, rfl⟩
  rw [hDs] at hos hsz
  have HRS := Lib.hid hrs; have HDS := Lib.hid hDs; have HSZ := Lib.hid hsz
  have hcs := hos.canon keyedS
  have HCS := Lib.hid hcs
  clear hd hs hrs hDs hN hcs
  go_enter Tryz.func49, Tryz.ntmps49
  go_wp2_with (first
    | (at_range; refine wpList_range_own _ rfl _ 65 rfl 9 78 keyedS Tryz.underMap rowE bs N _ rfl hos ?_; intro w0 hrg0 hg0 hs0)
    | go_in)
  go_frame
  rw [HSZ.out] at hrg0
  go_loopw [4, 5] (fun _ _ wr => ∃ (left : Lit → Bool) (cnt : Nat) (Dout : DataW Unit), wr.ranges Tryz.prog 9 rowE bs w.heap.size N Ds left cnt ∧ cnt ≤ N ∧
      wr.ownsMap Tryz.prog 9 rowE bd (N - cnt) Dout ∧ Maps.Agree Dout Ds left ∧ w.grownBy wr (some bd))
    (fun _ _ wr => wr.rangeLeft bs w.heap.size)
  case atStart =>
    exact ⟨_, _, _, hrg0, Nat.le_refl _, (hod.kept hg0 (by simp)).mono (by simp), Maps.agree_start Ds, hg0.but _⟩
  case round =>
    obtain ⟨left, cnt, Dout, hrg, hcn, hout, hM, hgw⟩ := hrel
    go_wp2_with (first
      | (at_next; refine wpList_next_ranges _ rfl _ rfl 9 keyedS rowE (fun l : List UInt8 => .string ⟨l.toArray⟩) rowV (fun key kl hk => by obtain ⟨x, hx, _⟩ := Maps.keyOf_str Tryz.underlying9 hk; exact ⟨x, hx⟩) (fun v y hv => by obtain ⟨x, hx, _⟩ := rowE_inv hv; exact ⟨x, hx⟩) bs w.heap.size N _ _ _ rfl hrg ?_ ?_)
      | go_in)
    · intro hc0 hl0
      have he := Maps.agree_end hM hl0 (hout.canon keyedS) HCS.out
      rw [he, ← HDS.out] at hout
      have hend : MapAt wr bd rows ∧ Only (fun x => x = bd) w wr := ⟨mapAt_of hout HRS.out, Only.of_grown hgw fun i e => (Option.some.inj e).symm⟩
      have HEND := Lib.hid hend
      clear he hend hM hl0
      go_wp2
      go_end0
      exact ⟨rfl, HEND.out⟩
    · intro x cv kl yd yp w1 cnt1 hkey hlx hv hat hrg1 hlt hg1 hs1 hen
      obtain ⟨x', ex, rfl, hxl⟩ := Maps.keyOf_str Tryz.underlying9 hkey
      obtain rfl : x = x' := encStr_inj ex
      rw [rowE_mk] at hv
      obtain ⟨rfl, rfl⟩ : DataW.lit (.string cv) = yd ∧ [] = yp := by injection hv with hv; injection hv with h1 h2; exact ⟨h1, h2⟩
      obtain ⟨SX, hSX⟩ : ∃ S : ByteArray, S = ⟨x.toArray⟩ := ⟨_, rfl⟩
      obtain ⟨SV, hSV⟩ : ∃ S : ByteArray, S = ⟨cv.toArray⟩ := ⟨_, rfl⟩
      have hrv : rowV cv = .agg #[.string SV] := by rw [hSV]; rfl
      have hval : rowE (.agg #[.string SV]) = some (.lit (.string cv), []) := by rw [← hrv]; exact rowE_mk cv
      rw [← hSX] at hkey hen ⊢
      rw [hrv] at hen ⊢
      obtain ⟨W2, hW2⟩ : ∃ W, W = w1.alloc (.cells #[.string SV] 78 (0, 0)) := ⟨_, rfl⟩
      have hg2 : w1.grownBy W2 none := by rw [hW2]; exact World.grownBy_alloc _ _ _
      have hout1 := (hout.kept hg1 (fun e => by have := Option.some.inj e; omega)).kept hg2 (by simp)
      have hrg2 := hrg1.kept hg2 (by simp) (by simp)
      have hgw2 := (hgw.andThen hg1 (fun j hj => .inl (by cases hj; exact Nat.le_refl _))).andThen hg2 (fun j hj => by cases hj)
      have hM2 := Maps.agree_step (kl := .string x) (d := .lit (.string cv)) hM hout.isMap (by trivial) hat
      have k2 : W2.heap[w1.heap.size]? = some (.cells #[.string SV] 78 (0, 0)) := by rw [hW2]; exact heap_alloc_last w1 _
      have c0 : W2.cell? ⟨w1.heap.size, 0, none⟩ = some (.string SV) := cell_here k2
      have HW2 := Lib.hid hW2; have HM2 := Lib.hid hM2
      clear hs1 hM hM2 hW2 k2 hrv hSX hSV ex hv hxl hat hlx hg2
      go_upto_region 3 with fail
      rw [← HW2.out]
      go_wp2_with (first
        | (at_mapUpdate; refine wpList_mapUpdate_own _ rfl _ _ _ 65 rfl 9 78 keyedS Tryz.underMap rowE bd _ _ rfl hout1 (by unfold maxLen; omega) _ _ (.string x) rfl rfl hkey (.lit (.string cv)) [] hval ?_; intro w3 hout3 hg3; go_frame)
        | go_in)
      have hrg3 := hrg2.kept hg3 (fun e => hne (Option.some.inj e).symm) (fun e => by have := Option.some.inj e; omega)
      go_roundw
      case rel => exact ⟨_, cnt1, _, hrg3, by omega, hout3.mono (by omega), HM2.out, hgw2.andThen hg3 (fun j hj => .inr hj)⟩
      case measure => rw [hrg3.left_eq, hrg.left_eq]; exact hlt
/-- the code's store in its block, its tape's place, its map's block -/
def StoreBox (w : World) (p q b : Nat) : Prop := w.heap[p]? = some (.cells #[.pointer (some ⟨q, 0, none⟩), .map (some b)] 70 (0, 0))
theorem make_map (W : World) (n : Int) : (Instr.makeMap 65 (some (.int .i64 n))).run Tryz.prog W = .ok (.map (some W.heap.size)) (W.alloc (.map #[] 0)) := by
  simp [Instr.makeMap, run_underlying Tryz.underMap, asInt, asIntOf, Result.andThen]
set_option maxRecDepth 100000 in
set_option maxHeartbeats 2000000 in
theorem sbehind_any (p q b : Nat) (rows : RowL) (A : Option Addr) (n c : Nat) (l : List Ch) (hn : l.length = n) (hl : n ≤ 1000000000) (hz : ∀ x ∈ l, x.key.length ≤ 10000000 ∧ x.val.length ≤ 10000000) (hr : rows.length ≤ 1000000000) (w : World) (hbx : StoreBox w p q b) (hm : MapAt w b rows) (h : RdC w (.slice A n c) l) :
    Calls Tryz.prog 31 #[.pointer (some ⟨p, 0, none⟩), .slice A n c] w fun e w' => (∃ bd, e = .returned (.map (some bd)) ∧ MapAt w' bd (turnL rows l) ∧ w.heap.size ≤ bd) ∧ Below w.heap.size w w' := by
  have hown := hm.own
  obtain ⟨N, hN⟩ : ∃ N, rows.length = N := ⟨_, rfl⟩
  rw [hN] at hown
  have hsz := size_rows rows
  rw [hN] at hsz
  have c0 : w.cell? ⟨p, 0, none⟩ = _ := cell_here hbx
  have c1 : w.cell? ⟨p, 1, none⟩ = some (.map (some b)) := cell_here hbx
  have hlen : ∀ ty, (Builtin.len_ #[65] ty #[.map (some b)]).run Tryz.prog w = .ok (.int .i64 (N : Int)) w := fun ty => by
    have := hown.len Tryz.underMap ty
    rwa [hsz] at this
  obtain ⟨W1, hW1⟩ : ∃ W, W = w.alloc (.map #[] 0) := ⟨_, rfl⟩
  have hb1 : Below w.heap.size w W1 := by rw [hW1]; exact (Below.refl _ _).alloc (Nat.le_refl _) _
  have hmd : MapAt W1 w.heap.size [] := by rw [hW1]; exact mapAt_made w
  have hms := hm.below hb1
  have hcp := scopy_any w.heap.size b rows hr W1 hmd hms (fun e => by have := hm.lt; omega)
  have hmk : (Instr.makeMap 65 (some (.int .i64 (N : Int)))).run Tryz.prog w = .ok (.map (some w.heap.size)) W1 := by rw [hW1]; exact make_map w N
  have c1' : W1.cell? ⟨p, 1, none⟩ = some (.map (some b)) := (cell_here (blk_below hbx hb1)).trans rfl
  have hch := fun W (hb : Below w.heap.size w W) (h1 : MapAt W w.heap.size rows) => schange_any w.heap.size rows A n c l hn hl hz hr W h1 (h.below hb)
  have HCP := Lib.hid hcp; have HCH := Lib.hid hch; have B1 := Lib.hid hb1
  clear hcp hch hb1 hmd hms hW1 hown hsz hm h hz hbx hn hN
  go_enter Tryz.func31, Tryz.ntmps31
  go_wp2_with fail
  refine HCP.out.mono ?_
  rintro e w2 ⟨rfl, hm2, ho2⟩
  have hb2 : Below w.heap.size w w2 := B1.out.trans (ho2.below B1.out.size (fun i hi => by rw [hi]; exact Nat.le_refl _))
  have hch := HCH.out w2 hb2 hm2
  have B2 := Lib.hid hb2; have HC := Lib.hid hch
  clear hm2 ho2 hb2 hch
  dsimp only
  go_wp2_with fail
  refine HC.out.mono ?_
  rintro e w3 ⟨rfl, hm3, ho3⟩
  have hb3 : Below w.heap.size w w3 := B2.out.trans (ho3.below B2.out.size (fun i hi => by rw [hi]; exact Nat.le_refl _))
  have M3 := Lib.hid hm3; have B3 := Lib.hid hb3
  clear hm3 ho3 hb3
  dsimp only
  go_wp2
  go_ret
  exact ⟨⟨_, rfl, M3.out, Nat.le_refl _⟩, B3.out⟩
end Go.Proofs.YtkbjpgfdmkmbmaaGreatDoor
