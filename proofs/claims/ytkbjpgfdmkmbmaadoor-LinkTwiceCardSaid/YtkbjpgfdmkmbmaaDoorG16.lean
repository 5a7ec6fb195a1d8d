/- Texts merged by program, in build order: Shelf, StrClone, StoreMap, StoreTurn, StoreCopy. -/
import Derived.Shelf.Strconv.Itoa0
import Derived.Shelf.Strconv.Itoa1
import Derived.Shelf.LaysM
import Derived.Shelf.Strconv.Itoa2
import Derived.Shelf.Strconv.Itoa3
import Derived.Shelf.Strconv.Clone
import Derived.Shelf.Sort.Plain
import Derived.Shelf.Strings.Prefix
import Derived.Shelf.Slices.In.SortNone
import Derived.Test.YtkbjpgfdmkmbmaaDoorProg
import Derived.Test.YtkbjpgfdmkmbmaaDoorG01
import Derived.Maps.Ext
import Derived.Maps.OwnSet
import Derived.Sort.KeysCollected
import Derived.Test.YtkbjpgfdmkmbmaaDoorG08
import Derived.Test.YtkbjpgfdmkmbmaaDoorG03
import Derived.Test.YtkbjpgfdmkmbmaaDoorG09
import Derived.Maps.RangeWalk
import Derived.Laws.IdiomRangeMap
set_option linter.unusedVariables false
set_option linter.unusedSimpArgs false
namespace Go.Proofs.YtkbjpgfdmkmbmaaDoor
open Go.Shelf Go.RowKit Go.Lib
def Tryd.laysM171_ren : Go.Shelf.Ren := ⟨fun | 171 => 45 | 243 => 58 | 246 => 72 | 283 => 82 | 284 => 83 | 285 => 84 | 286 => 85 | 129 => 70 | 317 => 89 | 318 => 90 | 319 => 91 | 320 => 92 | 337 => 94 | 338 => 95 | n => n, fun | 3 => 3 | 9 => 9 | 2 => 2 | 4 => 4 | 171 => 139 | 0 => 0 | 53 => 114 | 37 => 38 | 5 => 5 | 173 => 141 | 212 => 152 | 51 => 83 | 20 => 20 | 213 => 153 | 46 => 103 | 232 => 147 | 233 => 156 | n => n, fun | 17 => 1 | 18 => 2 | 19 => 3 | n => n⟩
theorem Tryd.laysM171 : Go.Proofs.LaysM.n171 Tryd.prog Tryd.laysM171_ren := {
  mixed := by kernel_rfl
  f129 := Tryd.func70.trans (congrArg some (by kernel_rfl))
  f171 := Tryd.func45.trans (congrArg some (by kernel_rfl))
  f243 := Tryd.func58.trans (congrArg some (by kernel_rfl))
  f246 := Tryd.func72.trans (congrArg some (by kernel_rfl))
  f283 := Tryd.func82.trans (congrArg some (by kernel_rfl))
  f284 := Tryd.func83.trans (congrArg some (by kernel_rfl))
  f285 := Tryd.func84.trans (congrArg some (by kernel_rfl))
  f286 := Tryd.func85.trans (congrArg some (by kernel_rfl))
  f317 := Tryd.func89.trans (congrArg some (by kernel_rfl))
  f318 := Tryd.func90.trans (congrArg some (by kernel_rfl))
  f319 := Tryd.func91.trans (congrArg some (by kernel_rfl))
  f320 := Tryd.func92.trans (congrArg some (by kernel_rfl))
  f337 := Tryd.func94.trans (congrArg some (by kernel_rfl))
  f338 := Tryd.func95.trans (congrArg some (by kernel_rfl))
  t0 := Tryd.underlying0
  a0 := Tryd.isAgg0
  z0 := Tryd.sizeOf0
  v0 := Tryd.zeroValue0
  t2 := Tryd.underlying2
  a2 := Tryd.isAgg2
  z2 := Tryd.sizeOf2
  v2 := Tryd.zeroValue2
  t3 := Tryd.underlying3
  a3 := Tryd.isAgg3
  z3 := Tryd.sizeOf3
  v3 := Tryd.zeroValue3
  t4 := Tryd.underlying4
  a4 := Tryd.isAgg4
  z4 := Tryd.sizeOf4
  v4 := Tryd.zeroValue4
  t5 := Tryd.underlying5
  a5 := Tryd.isAgg5
  z5 := Tryd.sizeOf5
  v5 := Tryd.zeroValue5
  t9 := Tryd.underlying9
  a9 := Tryd.isAgg9
  z9 := Tryd.sizeOf9
  v9 := Tryd.zeroValue9
  t20 := Tryd.underlying20
  a20 := Tryd.isAgg20
  z20 := Tryd.sizeOf20
  v20 := Tryd.zeroValue20
  t37 := Tryd.underlying38
  a37 := Tryd.isAgg38
  z37 := Tryd.sizeOf38
  v37 := Tryd.zeroValue38
  t46 := Tryd.underlying103
  a46 := Tryd.isAgg103
  z46 := Tryd.sizeOf103
  v46 := Tryd.zeroValue103
  t51 := Tryd.underlying83
  a51 := Tryd.isAgg83
  z51 := Tryd.sizeOf83
  v51 := Tryd.zeroValue83
  t53 := Tryd.underlying114
  a53 := Tryd.isAgg114
  z53 := Tryd.sizeOf114
  v53 := Tryd.zeroValue114
  t171 := Tryd.underlying139
  a171 := Tryd.isAgg139
  z171 := Tryd.sizeOf139
  v171 := Tryd.zeroValue139
  t173 := Tryd.underlying141
  a173 := Tryd.isAgg141
  z173 := Tryd.sizeOf141
  v173 := Tryd.zeroValue141
  t212 := Tryd.underlying152
  a212 := Tryd.isAgg152
  z212 := Tryd.sizeOf152
  v212 := Tryd.zeroValue152
  t213 := Tryd.underlying153
  a213 := Tryd.isAgg153
  z213 := Tryd.sizeOf153
  t232 := Tryd.underlying147
  a232 := Tryd.isAgg147
  z232 := Tryd.sizeOf147
  v232 := Tryd.zeroValue147
  t233 := Tryd.underlying156
  a233 := Tryd.isAgg156
  z233 := Tryd.sizeOf156
  v233 := Tryd.zeroValue156
  g17 := by kernel_rfl
  g18 := by kernel_rfl
  g19 := by kernel_rfl
  i0 := by kernel_rfl
  i2 := by kernel_rfl
  i3 := by kernel_rfl
  i4 := by kernel_rfl
  i5 := by kernel_rfl
  i9 := by kernel_rfl
  i20 := by kernel_rfl
  i37 := by kernel_rfl
  i46 := by kernel_rfl
  i51 := by kernel_rfl
  i53 := by kernel_rfl
  i171 := by kernel_rfl
  i173 := by kernel_rfl
  i212 := by kernel_rfl
  i232 := by kernel_rfl
  i233 := by kernel_rfl
  m17 := by kernel_rfl
  m18 := by kernel_rfl
  m19 := by kernel_rfl }
open Go.RowKit Go.Sort Go.Lib in
theorem Tryd.strconv_Itoa (n : Int) (h0 : -9223372036854775808 ≤ n) (h1 : n ≤ 9223372036854775807) (w : World) (htab : Lib.TabIs Tryd.prog w "internal/strconv.uint64pow10" .u64 Lib.pow10Tab) :
    Calls Tryd.prog 45 #[.int .i64 n] w fun e w' => e = .returned (.string ⟨(Lib.itoa n).toArray⟩) ∧ ∃ k os, w' = grow (w.drewN k) os := Any.strconv_Itoa Tryd.laysM171 n h0 h1 w htab
def Tryd.laysM316_ren : Go.Shelf.Ren := ⟨fun | 316 => 53 | n => n, fun | 9 => 9 | 3 => 3 | 4 => 4 | 37 => 38 | 0 => 0 | 127 => 113 | 5 => 5 | n => n, fun | n => n⟩
theorem Tryd.laysM316 : Go.Proofs.LaysM.n316 Tryd.prog Tryd.laysM316_ren := {
  mixed := by kernel_rfl
  f316 := Tryd.func53.trans (congrArg some (by kernel_rfl))
  t0 := Tryd.underlying0
  a0 := Tryd.isAgg0
  z0 := Tryd.sizeOf0
  v0 := Tryd.zeroValue0
  t3 := Tryd.underlying3
  a3 := Tryd.isAgg3
  z3 := Tryd.sizeOf3
  v3 := Tryd.zeroValue3
  t4 := Tryd.underlying4
  a4 := Tryd.isAgg4
  z4 := Tryd.sizeOf4
  v4 := Tryd.zeroValue4
  t9 := Tryd.underlying9
  a9 := Tryd.isAgg9
  z9 := Tryd.sizeOf9
  v9 := Tryd.zeroValue9
  t37 := Tryd.underlying38
  a37 := Tryd.isAgg38
  z37 := Tryd.sizeOf38
  v37 := Tryd.zeroValue38
  t127 := Tryd.underlying113
  a127 := Tryd.isAgg113
  z127 := Tryd.sizeOf113
  v127 := Tryd.zeroValue113
  t5 := Tryd.underlying5
  a5 := Tryd.isAgg5
  z5 := Tryd.sizeOf5
  v5 := Tryd.zeroValue5
  i0 := by kernel_rfl
  i3 := by kernel_rfl
  i4 := by kernel_rfl
  i5 := by kernel_rfl
  i9 := by kernel_rfl
  i37 := by kernel_rfl
  i127 := by kernel_rfl }
theorem Tryd.stringslite_Clone (s : ByteArray) (w : World) (hlim : s.size ≤ 281474976710656) :
    Calls Tryd.prog 53 #[.string s] w fun e w' => e = .returned (.string s) ∧ Below w.heap.size w w' := Any.stringslite_Clone Tryd.laysM316 s w hlim
def Tryd.lays190_ren : Go.Shelf.Ren := ⟨fun | 190 => 43 | 125 => 56 | 258 => 55 | 128 => 69 | 129 => 70 | 302 => 60 | 303 => 61 | 304 => 62 | 305 => 63 | 306 => 64 | 307 => 65 | 308 => 66 | 309 => 67 | 310 => 68 | 333 => 76 | 329 => 77 | 330 => 78 | 334 => 79 | 335 => 80 | 336 => 81 | 344 => 88 | n => n, fun | 31 => 49 | 9 => 9 | 3 => 3 | 46 => 103 | 0 => 0 | 51 => 83 | 53 => 114 | 4 => 4 | 183 => 117 | 182 => 116 | 131 => 121 | 5 => 5 | 218 => 132 | 222 => 136 | 228 => 148 | 229 => 149 | n => n, fun | n => n⟩
theorem Tryd.lays190 : Go.Proofs.Lays.n190 Tryd.prog Tryd.lays190_ren := {
  mixed := by kernel_rfl
  f125 := Tryd.func56.trans (congrArg some (by kernel_rfl))
  f128 := Tryd.func69.trans (congrArg some (by kernel_rfl))
  f129 := Tryd.func70.trans (congrArg some (by kernel_rfl))
  f190 := Tryd.func43.trans (congrArg some (by kernel_rfl))
  f258 := Tryd.func55.trans (congrArg some (by kernel_rfl))
  f302 := Tryd.func60.trans (congrArg some (by kernel_rfl))
  f303 := Tryd.func61.trans (congrArg some (by kernel_rfl))
  f304 := Tryd.func62.trans (congrArg some (by kernel_rfl))
  f305 := Tryd.func63.trans (congrArg some (by kernel_rfl))
  f306 := Tryd.func64.trans (congrArg some (by kernel_rfl))
  f307 := Tryd.func65.trans (congrArg some (by kernel_rfl))
  f308 := Tryd.func66.trans (congrArg some (by kernel_rfl))
  f309 := Tryd.func67.trans (congrArg some (by kernel_rfl))
  f310 := Tryd.func68.trans (congrArg some (by kernel_rfl))
  f329 := Tryd.func77.trans (congrArg some (by kernel_rfl))
  f330 := Tryd.func78.trans (congrArg some (by kernel_rfl))
  f333 := Tryd.func76.trans (congrArg some (by kernel_rfl))
  f334 := Tryd.func79.trans (congrArg some (by kernel_rfl))
  f335 := Tryd.func80.trans (congrArg some (by kernel_rfl))
  f336 := Tryd.func81.trans (congrArg some (by kernel_rfl))
  f344 := Tryd.func88.trans (congrArg some (by kernel_rfl))
  t0 := Tryd.underlying0
  a0 := Tryd.isAgg0
  z0 := Tryd.sizeOf0
  v0 := Tryd.zeroValue0
  t3 := Tryd.underlying3
  a3 := Tryd.isAgg3
  z3 := Tryd.sizeOf3
  v3 := Tryd.zeroValue3
  t4 := Tryd.underlying4
  a4 := Tryd.isAgg4
  z4 := Tryd.sizeOf4
  v4 := Tryd.zeroValue4
  t5 := Tryd.underlying5
  a5 := Tryd.isAgg5
  z5 := Tryd.sizeOf5
  v5 := Tryd.zeroValue5
  t9 := Tryd.underlying9
  a9 := Tryd.isAgg9
  z9 := Tryd.sizeOf9
  v9 := Tryd.zeroValue9
  t31 := Tryd.underlying49
  a31 := Tryd.isAgg49
  z31 := Tryd.sizeOf49
  v31 := Tryd.zeroValue49
  t46 := Tryd.underlying103
  a46 := Tryd.isAgg103
  z46 := Tryd.sizeOf103
  v46 := Tryd.zeroValue103
  t51 := Tryd.underlying83
  a51 := Tryd.isAgg83
  z51 := Tryd.sizeOf83
  v51 := Tryd.zeroValue83
  t53 := Tryd.underlying114
  a53 := Tryd.isAgg114
  z53 := Tryd.sizeOf114
  v53 := Tryd.zeroValue114
  t131 := Tryd.underlying121
  a131 := Tryd.isAgg121
  z131 := Tryd.sizeOf121
  v131 := Tryd.zeroValue121
  t182 := Tryd.underlying116
  a182 := Tryd.isAgg116
  z182 := Tryd.sizeOf116
  v182 := Tryd.zeroValue116
  t183 := Tryd.underlying117
  a183 := Tryd.isAgg117
  z183 := Tryd.sizeOf117
  v183 := Tryd.zeroValue117
  t218 := Tryd.underlying132
  a218 := Tryd.isAgg132
  z218 := Tryd.sizeOf132
  v218 := Tryd.zeroValue132
  t222 := Tryd.underlying136
  a222 := Tryd.isAgg136
  z222 := Tryd.sizeOf136
  v222 := Tryd.zeroValue136
  t228 := Tryd.underlying148
  a228 := Tryd.isAgg148
  z228 := Tryd.sizeOf148
  v228 := Tryd.zeroValue148
  t229 := Tryd.underlying149
  a229 := Tryd.isAgg149
  z229 := Tryd.sizeOf149
  v229 := Tryd.zeroValue149 }
open Go.Sort Go.RowKit in
theorem Tryd.slices_Sort_string (blk off cap : Nat) (ss : List (List UInt8)) (w : World) (hH : Holds encStr w blk off ss.toArray) (hblk : blk < w.heap.size) (hsz : ss.length < 4611686018427387904) :
    Calls Tryd.prog 43 #[.slice (some ⟨blk, off, none⟩) ss.length cap] w fun e w' =>
      e = .returned (.tuple #[]) ∧ ∃ n os, w' = grow (putRow encStr (Sort.ahead w n) blk off (ss.mergeSort fun x y => decide (x ≤ y)).toArray) os := Any.slices_Sort_string Tryd.lays190 blk off cap ss w hH hblk hsz
def Tryd.lays99_ren : Go.Shelf.Ren := ⟨fun | 99 => 42 | 206 => 54 | n => n, fun | 9 => 9 | 4 => 4 | 3 => 3 | n => n, fun | n => n⟩
theorem Tryd.lays99 : Go.Proofs.Lays.n99 Tryd.prog Tryd.lays99_ren := {
  mixed := by kernel_rfl
  f99 := Tryd.func42.trans (congrArg some (by kernel_rfl))
  f206 := Tryd.func54.trans (congrArg some (by kernel_rfl))
  t3 := Tryd.underlying3
  a3 := Tryd.isAgg3
  z3 := Tryd.sizeOf3
  v3 := Tryd.zeroValue3
  t4 := Tryd.underlying4
  a4 := Tryd.isAgg4
  z4 := Tryd.sizeOf4
  v4 := Tryd.zeroValue4
  t9 := Tryd.underlying9
  a9 := Tryd.isAgg9
  z9 := Tryd.sizeOf9
  v9 := Tryd.zeroValue9 }
theorem Tryd.strings_HasPrefix (s p : ByteArray) (w : World) :
    Calls Tryd.prog 42 #[.string s, .string p] w fun e w' => e = .returned (.bool (Lib.hasPrefix s.data.toList p.data.toList)) ∧ w' = w := Any.strings_HasPrefix Tryd.lays99 s p w
open Go.RowKit Go.Sort in
theorem Tryd.slices_Sort_string_none (p : Option Addr) (cap : Nat) (w : World) :
    Calls Tryd.prog 43 #[.slice p 0 cap] w fun e w' => e = .returned (.tuple #[]) ∧ w' = w := Any.slices_Sort_string_none Tryd.lays190 p cap w
end Go.Proofs.YtkbjpgfdmkmbmaaDoor
namespace Go.Proofs.YtkbjpgfdmkmbmaaDoor
open Go.RowKit

set_option maxRecDepth 100000 in
theorem sclone_any (s : ByteArray) (hs : s.size ≤ 281474976710656) (w : World) :
    Calls Tryd.prog 39 #[.string s] w fun e w' => e = .returned (.string s) ∧ Below w.heap.size w w' := by
  have h := Lib.hid (Tryd.stringslite_Clone s w hs)
  go_enter Tryd.func39, Tryd.ntmps39
  go_wp2_with fail
  refine h.out.mono ?_
  rintro e w1 ⟨rfl, hb1⟩
  have B1 := Lib.hid hb1
  clear hb1
  dsimp only
  go_wp2
  go_ret
  exact ⟨rfl, B1.out⟩
end Go.Proofs.YtkbjpgfdmkmbmaaDoor
namespace Go.Proofs.YtkbjpgfdmkmbmaaDoor
open Go.RowKit Go.Maps
open Go.Op (bytesLess)
set_option linter.unusedVariables false
set_option linter.unusedSimpArgs false

/-- rows as a map's datum -/
def rowsD (rows : RowL) : DataW Unit := .map (rows.map fun r => (Lit.string r.1, DataW.lit (.string r.2)))
/-- a struct of one text, as the element of a map -/
def rowE : Value → Option (DataW Unit × List MemPlace)
  | .agg cs => match cs.toList with
    | [.string s] => some (.lit (.string s.data.toList), [])
    | _ => none
  | _ => none
def rowV (v : List UInt8) : Value := .agg #[.string ⟨v.toArray⟩]
theorem rowE_mk (v : List UInt8) : rowE (rowV v) = some (.lit (.string v), []) := by simp [rowE, rowV]
theorem rowE_inv {v : Value} {y : DataW Unit × List MemPlace} (h : rowE v = some y) : ∃ x : List UInt8, v = rowV x ∧ y = (.lit (.string x), []) := by
  unfold rowE at h
  split at h
  · rename_i cs
    split at h
    · rename_i s hs
      injection h with h
      refine ⟨s.data.toList, ?_, h.symm⟩
      have e : cs = #[.string s] := by
        apply Array.ext'
        rw [hs]
      rw [e]
      simp [rowV]
    · cases h
  · cases h
theorem before_less : ∀ a b : List UInt8, bytesBefore a b = bytesLess a b
  | [], [] => rfl
  | [], _ :: _ => rfl
  | _ :: _, [] => rfl
  | x :: a, y :: b => by
    show (decide (x < y) || (x == y && bytesBefore a b)) = (decide (x < y) || (x == y && bytesLess a b))
    rw [before_less a b]
theorem insert_front (k v : List UInt8) : ∀ rows : RowL, (∀ r ∈ rows, bytesLess k r.1 = true) → DataW.insert (Lit.string k, (DataW.lit (.string v) : DataW Unit)) (rows.map fun r => (Lit.string r.1, DataW.lit (.string r.2))) = (Lit.string k, DataW.lit (.string v)) :: rows.map fun r => (Lit.string r.1, DataW.lit (.string r.2))
  | [], _ => rfl
  | r :: rs, h => by
    show (if (Lit.string k).before (Lit.string r.1) = true then _ else _) = _
    rw [if_pos (by show bytesBefore k r.1 = true; rw [before_less]; exact h r (List.mem_cons_self ..))]
    rfl
theorem same_key (a b : List UInt8) : (Lit.string a).sameKey (.string b) = decide (a = b) := by
  show (a == b) = _
  by_cases h : a = b
  · subst h; simp
  · simp [h]
theorem filter_rows (k : List UInt8) (rows : RowL) : (rows.map fun r => (Lit.string r.1, (DataW.lit (.string r.2) : DataW Unit))).filter (fun p => !p.1.sameKey (.string k)) = (rows.filter fun r => decide (r.1 ≠ k)).map fun r => (Lit.string r.1, DataW.lit (.string r.2)) := by
  rw [List.filter_map]
  congr 1
  refine List.filter_congr fun r _ => ?_
  show (!(Lit.string r.1).sameKey (.string k)) = _
  rw [same_key]
  by_cases h : r.1 = k <;> simp [h]
theorem filter_above {k : List UInt8} {rows : RowL} (h : ∀ r ∈ rows, bytesLess k r.1 = true) : rows.filter (fun r => decide (r.1 ≠ k)) = rows :=
  List.filter_eq_self.2 fun r hr => by
    have := less_ne (h r hr)
    simp [Ne.symm this]
theorem insert_rows (k v : List UInt8) : ∀ rows : RowL, Rising rows → DataW.insert (Lit.string k, (DataW.lit (.string v) : DataW Unit)) ((rows.filter fun r => decide (r.1 ≠ k)).map fun r => (Lit.string r.1, DataW.lit (.string r.2))) = (insL k v false rows).map fun r => (Lit.string r.1, DataW.lit (.string r.2))
  | [], _ => rfl
  | r :: rs, h => by
    unfold insL
    cases hl : bytesLess r.1 k with
    | true =>
      have hne := less_ne hl
      rw [if_neg (fun e => by cases e.2), if_neg hne, List.nil_append, List.filter_cons, if_pos (by simp [hne])]
      show (if (Lit.string k).before (Lit.string r.1) = true then _ else _) = _
      rw [if_neg (by show ¬ bytesBefore k r.1 = true; rw [before_less, less_asym _ _ hl]; exact Bool.false_ne_true)]
      have ih := insert_rows k v rs h.2
      show (Lit.string r.1, DataW.lit (.string r.2)) :: DataW.insert _ _ = _
      rw [ih]
      rfl
    | false =>
      rw [if_pos ⟨rfl, rfl⟩]
      show _ = List.map _ ((k, v) :: ((if r.1 = k then [] else [r]) ++ insL k v (false || !false) rs))
      rw [show (false || !false) = true from rfl, insL_placed]
      by_cases hk : r.1 = k
      · rw [if_pos hk, List.nil_append, List.filter_cons, if_neg (by simp [hk])]
        rw [insert_front k v]
        · rfl
        · intro x hx
          rw [← hk]; exact h.1 x (List.mem_filter.1 hx).1
      · have hkr : bytesLess k r.1 = true := by
          rcases less_total r.1 k with h' | h' | h'
          · rw [hl] at h'; cases h'
          · exact absurd h' hk
          · exact h'
        rw [if_neg hk, List.filter_cons, if_pos (by simp [hk])]
        rw [insert_front k v]
        · rfl
        · intro x hx
          rcases List.mem_cons.1 hx with rfl | hx
          · exact hkr
          · exact less_trans _ _ _ hkr (h.1 x (List.mem_filter.1 hx).1)
theorem put_rows {rows : RowL} (h : Rising rows) (k v : List UInt8) : (rowsD rows).put (.string k) (.lit (.string v)) = rowsD (insL k v false rows) := by
  show DataW.map (DataW.insert _ (List.filter _ _)) = _
  rw [filter_rows, insert_rows k v rows h]
  rfl
theorem del_rows (rows : RowL) (k v : List UInt8) : (rowsD rows).del (.string k) = rowsD (insL k v true rows) := by
  show DataW.map (List.filter _ _) = _
  rw [filter_rows, insL_placed]
  rfl
theorem has_rows (k : List UInt8) : ∀ rows : RowL, Maps.has (rowsD rows) (.string k) = (getR rows k).isSome
  | [] => rfl
  | r :: rs => by
    have ih := has_rows k rs
    show ((Lit.string r.1).sameKey (.string k) || Maps.has (rowsD rs) (.string k)) = (if r.1 = k then some r.2 else getR rs k).isSome
    rw [ih, same_key]
    by_cases h : r.1 = k <;> simp [h]
theorem at_rows (k : List UInt8) (z : DataW Unit) : ∀ rows : RowL, (rowsD rows).atKey (.string k) z = (match getR rows k with | some v => .lit (.string v) | none => z)
  | [] => rfl
  | r :: rs => by
    have ih := at_rows k z rs
    unfold rowsD DataW.atKey at ih ⊢
    simp only [List.map_cons, List.find?_cons] at ih ⊢
    show _ = (match (if r.1 = k then some r.2 else getR rs k) with | some v => DataW.lit (.string v) | none => z)
    by_cases h : r.1 = k
    · rw [if_pos h]
      simp [same_key, h]
    · rw [if_neg h]
      simp only [same_key, h, decide_false]
      exact ih
theorem size_rows (rows : RowL) : Maps.size (rowsD rows) = rows.length := by show (List.map _ rows).length = _; simp
theorem keys_rows (rows : RowL) : strKeys (rowsD rows) = rows.map (·.1) := by
  show List.map _ (List.map _ rows) = _
  rw [List.map_map]
  rfl

theorem keyedS : Keyed Tryd.prog 9 := string_keyed Tryd.underlying9
/-- block b is a map of texts to structs of one text, and has just these rows, that rise -/
structure MapAt (w : World) (b : Nat) (rows : RowL) : Prop where
  own : w.ownsMap Tryd.prog 9 rowE b rows.length (rowsD rows)
  rising : Rising rows
theorem mapAt_of {w : World} {b n : Nat} {rows : RowL} (h : w.ownsMap Tryd.prog 9 rowE b n (rowsD rows)) (hr : Rising rows) : MapAt w b rows := by
  obtain ⟨es, clock, hb, F, hs, hD⟩ := h
  refine ⟨⟨es, clock, hb, F, ?_, hD⟩, hr⟩
  have e := congrArg Maps.size hD
  rw [size_rows] at e
  rw [e]
  simp [Maps.size, length_sorted]
theorem MapAt.lt {w : World} {b : Nat} {rows : RowL} (h : MapAt w b rows) : b < w.heap.size := h.own.lt
theorem MapAt.keep {w w' : World} {b : Nat} {rows : RowL} (h : MapAt w b rows) (hb : w'.heap[b]? = w.heap[b]?) : MapAt w' b rows := by
  obtain ⟨⟨es, clock, h1, r⟩, hr⟩ := h
  exact ⟨⟨es, clock, hb.trans h1, r⟩, hr⟩
theorem MapAt.below {w w' : World} {b : Nat} {rows : RowL} (h : MapAt w b rows) (hb : Below w.heap.size w w') : MapAt w' b rows := h.keep (hb.block b h.lt)
theorem mapAt_made (w : World) : MapAt (w.alloc (.map #[] 0)) w.heap.size [] := ⟨World.ownsMap_made _ _ _ _, trivial⟩
theorem keyOf_text (k : List UInt8) (h : k.length ≤ 1000000000000000) : keyOf Tryd.prog 9 (.string ⟨k.toArray⟩) = some (.string k) := by
  have := Go.WideMaps.keyOf_string_mk (P := Tryd.prog) (k := 9) Tryd.underlying9 (s := ⟨k.toArray⟩) (by unfold maxLen; simp [ByteArray.size]; omega)
  simpa using this
/-- every key of such a map is one that the reader reads -/
theorem MapAt.keys_le {w : World} {b : Nat} {rows : RowL} (h : MapAt w b rows) : ∀ r ∈ rows, r.1.length ≤ maxLen := fun r hr =>
  strKeys_le h.own Tryd.underlying9 r.1 (by rw [keys_rows]; exact List.mem_map.2 ⟨r, hr, rfl⟩)
end Go.Proofs.YtkbjpgfdmkmbmaaDoor
namespace Go.Proofs.YtkbjpgfdmkmbmaaDoor
open Go.RowKit
set_option linter.unusedVariables false
set_option linter.unusedSimpArgs false

theorem Tryd.underMap : Tryd.prog.underlying 54 = some (.map 9 77) := Tryd.underlying54
theorem Only.turned {w w' : World} {b : Nat} (h : w.mapTurned w' b) : Only (fun x => x = b) w w' := Only.of_grown h.grown fun i e => (Option.some.inj e).symm
/-- 'm[k] = row', by its run -/
theorem MapAt.put {w : World} {b : Nat} {rows : RowL} (h : MapAt w b rows) (k v : List UInt8) (hk : k.length ≤ 1000000000000000) (hr : rows.length ≤ 1000000000000000) :
    ∃ w', (Instr.mapUpdate 54 (.map (some b)) (.string ⟨k.toArray⟩) (rowV v)).run Tryd.prog w = .ok () w' ∧ MapAt w' b (insL k v false rows) ∧ Only (fun x => x = b) w w' := by
  obtain ⟨w', h1, h2, h3⟩ := h.own.store keyedS Tryd.underMap (by unfold maxLen; omega) (keyOf_text k hk) (rowE_mk v)
  rw [put_rows h.rising] at h2
  exact ⟨w', h1, mapAt_of h2 (insL_rising k v false rows h.rising fun _ => trivial), Only.turned h3⟩
theorem MapAt.del {w : World} {b : Nat} {rows : RowL} (h : MapAt w b rows) (k v : List UInt8) (hk : k.length ≤ 1000000000000000) (ty : TypeId) :
    ∃ w', (Builtin.delete_ #[54, 9] ty #[.map (some b), .string ⟨k.toArray⟩]).run Tryd.prog w = .ok (.tuple #[]) w' ∧ MapAt w' b (insL k v true rows) ∧ Only (fun x => x = b) w w' := by
  obtain ⟨w', h1, h2, h3⟩ := h.own.drop keyedS Tryd.underMap (keyOf_text k hk) ty
  rw [del_rows rows k v] at h2
  exact ⟨w', h1, mapAt_of h2 (insL_rising k v true rows h.rising fun _ => trivial), Only.turned h3⟩
theorem step_mapUpdate {P : Program} {ops : Array Oper} {o : Oper} {a : Act} {w w' : World} {K : Act → World → Prop} {Q : Exit → Act → World → Prop} {E : Prop}
    (hg : o.guard = none) (m x v : Operand) (t : TypeId) (hop : o.op = Op.mapUpdate t m x v) (mv kv vv : Value) (hm : a.eval m = mv) (hx : a.eval x = kv) (hv : a.eval v = vv) (hrun : (Instr.mapUpdate t mv kv vv).run P w = .ok () w')
    (hK : K (a.put o.dst undef) w') : if Region.wanted o (yielded ops a.tmps) = true then Oper.wp P o a w K Q else E := by
  have hw : Region.wanted o (yielded ops a.tmps) = true := by simp [Region.wanted, hg]
  rw [if_pos hw]
  unfold Oper.wp
  simp [execOp, hop, hm, hx, hv, hrun, Result.andThen]
  exact hK
theorem wpList_delete_run {P : Program} {ops : Array Oper} {rest : List Oper} {o : Oper} {a : Act} {w w' : World} {Q : Exit → Act → World → Prop}
    (hg : o.guard = none) (m x : Operand) (t k : TypeId) (hop : o.op = Op.call { callee := Callee.builtin Builtin.delete, args := #[m, x], argTypes := #[t, k] }) (mv kv : Value) (hm : a.eval m = mv) (hx : a.eval x = kv)
    (hrun : (Builtin.delete_ #[t, k] o.type #[mv, kv]).run P w = .ok (.tuple #[]) w') (hK : wpList P ops Q rest (a.put o.dst (.tuple #[])) w') : wpList P ops Q (o :: rest) a w := by
  refine wpList_plain hg fun K' hK' => ?_
  unfold Oper.wp
  simp [execOp, hop, resolve, invoke, builtin, hm, hx, hrun, Result.andThen]
  exact hK' _ _ hK
/-- changes read stay while a map alone is written -/
theorem RdC.turned {w w' : World} {b : Nat} {rows : RowL} {v : Value} {l : List Ch} (h : RdC w v l) (hm : MapAt w b rows) (ho : Only (fun x => x = b) w w') : RdC w' v l := by
  obtain ⟨A, c, rfl, hc, h⟩ := h
  refine ⟨A, c, rfl, hc, fun k r hk => ?_⟩
  obtain ⟨g, o, rfl, hg, h1, h2, h3⟩ := h k r hk
  have hne : g ≠ b := fun e => by
    subst e
    obtain ⟨⟨es, clock, hb, _⟩, _⟩ := hm
    unfold World.cell? at h1
    simp [hb] at h1
  have he := ho.block g hg hne
  exact ⟨g, o, rfl, Nat.lt_of_lt_of_le hg ho.size, (World.cell?_of_block he).trans h1, (World.cell?_of_block he).trans h2, (World.cell?_of_block he).trans h3⟩
theorem turnL_le : ∀ (l : List Ch) (rows : RowL), (turnL rows l).length ≤ rows.length + l.length
  | [], rows => by simp [turnL]
  | c :: l, rows => by
    have h1 := turnL_le l (turn1 rows c)
    have h2 : (turn1 rows c).length ≤ rows.length + 1 := insL_len _ _ _ _
    rw [turnL_cons, List.length_cons]
    omega
set_option maxRecDepth 100000 in
set_option maxHeartbeats 4000000 in
theorem schange_any (b : Nat) (rows : RowL) (A : Option Addr) (n c : Nat) (l : List Ch) (hn : l.length = n) (hl : n ≤ 1000000000) (hz : ∀ x ∈ l, x.key.length ≤ 10000000 ∧ x.val.length ≤ 10000000) (hr : rows.length ≤ 1000000000) (w : World) (hm : MapAt w b rows) (h : RdC w (.slice A n c) l) :
    Calls Tryd.prog 22 #[.map (some b), .slice A n c] w fun e w' => e = .returned (.tuple #[]) ∧ MapAt w' b (turnL rows l) ∧ Only (fun x => x = b) w w' := by
  have HRC := Lib.hid h; have HN := Lib.hid hn; have HZ := Lib.hid hz; have HM := Lib.hid hm
  clear h hn hz hm
  go_enter Tryd.func22, Tryd.ntmps22
  go_wp2
  go_loopw [5, 8] (fun x i W => ∃ k : Nat, k ≤ n ∧ i = .int .i64 k ∧ Hid (MapAt W b (turnL rows (l.take k)) ∧ Only (fun x => x = b) w W)) (fun _ i _ => n - (intOf i).toNat)
  case atStart => exact ⟨0, Nat.zero_le _, rfl, Lib.hid ⟨by rw [List.take_zero]; exact HM.out, Only.refl _ _⟩⟩
  case round =>
    obtain ⟨k, hk, rfl, hT⟩ := hrel
    by_cases hlt : k < n
    · have hkr : decide ((k : Int) < n) = true := by simp; omega
      have hkl : k < l.length := by rw [HN.out]; exact hlt
      have hk0 : (0 : Int) ≤ k := by omega
      have hk1 : (k : Int) < n := by omega
      obtain ⟨g, o, rfl, hg, e0, e1, e2⟩ := (HRC.out.turned HM.out hT.out.2).at k hkl
      obtain ⟨x, hx⟩ : ∃ x, l[k] = x := ⟨_, rfl⟩
      have htk : l.take (k + 1) = l.take k ++ [x] := by rw [List.take_succ_eq_append_getElem hkl, hx]
      have hstep : turnL rows (l.take (k + 1)) = insL x.key x.value x.gone (turnL rows (l.take k)) := by rw [htk, turnL_snoc]; rfl
      have hz := HZ.out x (by rw [← hx]; exact List.getElem_mem hkl)
      have hrl : (turnL rows (l.take k)).length ≤ 1000000000000000 := by
        have := turnL_le (l.take k) rows
        rw [List.length_take] at this
        omega
      obtain ⟨S1, hS1⟩ : ∃ X : ByteArray, X = ⟨x.key.toArray⟩ := ⟨_, rfl⟩
      obtain ⟨S2, hS2⟩ : ∃ X : ByteArray, X = ⟨x.value.toArray⟩ := ⟨_, rfl⟩
      obtain ⟨G, hG⟩ : ∃ X, x.gone = X := ⟨_, rfl⟩
      rw [hx] at e0 e1 e2
      unfold tv at e0 e1
      rw [← hS1] at e0
      rw [← hS2] at e1
      rw [hG] at e2 hstep
      have hs1 : S1.size ≤ 281474976710656 := by rw [hS1]; show x.key.toArray.size ≤ _; simp; omega
      have hs2 : G = false → S2.size ≤ 281474976710656 := fun hg => by
        have h2 := hz.2
        unfold Ch.val at h2
        rw [hG, hg, if_neg Bool.false_ne_true] at h2
        rw [hS2]; show x.value.toArray.size ≤ _; simp; omega
      obtain ⟨W1, hW1⟩ : ∃ W, W = wr.alloc (.cells #[.string S1, .string S2, .bool G] 41 (0, 0)) := ⟨_, rfl⟩
      have hb1 : Below wr.heap.size wr W1 := by rw [hW1]; exact (Below.refl _ _).alloc (Nat.le_refl _) _
      have k1 : W1.heap[wr.heap.size]? = some (.cells #[.string S1, .string S2, .bool G] 41 (0, 0)) := by rw [hW1]; exact heap_alloc_last wr _
      have hm1 := fun W (hb : Below W1.heap.size W1 W) => (hT.out.1.below hb1).below hb
      have c1 := fun W (hb : Below W1.heap.size W1 W) => sclone_any S1 hs1 W
      have c2 := fun (hg : G = false) W (hb : Below W1.heap.size W1 W) => sclone_any S2 (hs2 hg) W
      have hput := fun W (hb : Below W1.heap.size W1 W) => (hm1 W hb).put x.key x.value (by omega) hrl
      have hdel := fun W (hb : Below W1.heap.size W1 W) => (hm1 W hb).del x.key x.value (by omega)
      rw [← hS1] at hput hdel
      have hrv : rowV x.value = .agg #[.string S2] := by rw [hS2]; rfl
      rw [hrv] at hput
      have hcl : ∀ W, Below W1.heap.size W1 W → W.cell? ⟨wr.heap.size, 0, none⟩ = some (.string S1) ∧ W.cell? ⟨wr.heap.size, 1, none⟩ = some (.string S2) := fun W hb => ⟨(cell_here (blk_below k1 hb)).trans rfl, (cell_here (blk_below k1 hb)).trans rfl⟩
      have hbn : wr.heap.size ≠ b := fun e => by have := hT.out.1.lt; omega
      have hkeep : ∀ W W', Below W1.heap.size W1 W → Only (fun x => x = b) W W' → W'.cell? ⟨wr.heap.size, 0, none⟩ = some (.string S1) ∧ W'.cell? ⟨wr.heap.size, 1, none⟩ = some (.string S2) := fun W W' hb ho => by
        have h1 := blk_below k1 hb
        have h2 := (ho.block _ (Array.getElem?_eq_some_iff.1 h1).1 hbn).trans h1
        exact ⟨(cell_here h2).trans rfl, (cell_here h2).trans rfl⟩
      have hfin : ∀ W W', Below W1.heap.size W1 W → Only (fun x => x = b) W W' → Only (fun x => x = b) w W' := fun W W' hb ho => hT.out.2.trans ((Only.of_below (hb1.chain hb)).trans ho)
      have HFIN := Lib.hid hfin; have HKEEP := Lib.hid hkeep; have C1 := Lib.hid c1; have C2 := Lib.hid c2; have PUT := Lib.hid hput; have DEL := Lib.hid hdel; have CL := Lib.hid hcl; have STEP := Lib.hid hstep; have HW1 := Lib.hid hW1; have K1 := Lib.hid k1
      obtain ⟨⟨-, -, c3⟩, -⟩ := box3_of k1
      clear hfin hkeep hbn c1 c2 hput hdel hcl hstep hW1 k1 hm1 hb1 hrl hz htk hx hg hkl hS1 hS2 hG hs1 hs2 hrv
      cases G with
      | true =>
        go_upto_region 3 with fail
        rw [← HW1.out]
        have c4 := (CL.out W1 (Below.refl _ _)).1
        obtain ⟨W2, hrun, hm2, ho2⟩ := DEL.out W1 (Below.refl _ _) 0
        have hend : MapAt W2 b (turnL rows (l.take (k + 1))) ∧ Only (fun x => x = b) w W2 := ⟨by rw [STEP.out]; exact hm2, HFIN.out _ _ (Below.refl _ _) ho2⟩
        have HEND := Lib.hid hend
        clear hend hm2 ho2
        go_wp2_with (at_delete; refine wpList_delete_run rfl _ _ _ _ rfl _ _ rfl rfl hrun ?_)
        go_roundw
        case rel => exact ⟨k + 1, by omega, by go_num, HEND⟩
        case measure => simp [intOf]; omega
      | false =>
        go_upto_region 3 with fail
        rw [← HW1.out]
        go_upto_region 5 with fail
        refine wp_region_held_drew (S := (fun W => W.cell? ⟨wr.heap.size, 0, none⟩ = some (.string S1) ∧ W.cell? ⟨wr.heap.size, 1, none⟩ = some (.string S2))) (by kernel_rfl) (CL.out _ (Below.refl _ _).drew) (fun hHeld => ?_)
        refine wpAnyH_take (i := 0) (oi := _) (v := ?v1) (by simp only [List.getElem?_toArray, List.getElem?_cons_succ, List.getElem?_cons_zero]; rfl) (by kernel_rfl) (by kernel_rfl) (by kernel_rfl) (by exact fun _ _ _ h => h) (Or.inl ⟨by rfl, ?hy1⟩) (by assumption) ?rest1
        case hy1 => (intro w hSw; (try dsimp only at hSw); go_simp; try with_reducible rfl)
        try simp only [Act.put, List.setIfInBounds_toArray, List.set_cons_zero, List.set_cons_succ]
        refine wpAnyH_take (i := 1) (oi := _) (v := ?v2) (by simp only [List.getElem?_toArray, List.getElem?_cons_succ, List.getElem?_cons_zero]; rfl) (by kernel_rfl) (by kernel_rfl) (by kernel_rfl) (by exact fun _ _ _ h => h) (Or.inl ⟨by rfl, ?hy2⟩) (by assumption) ?rest2
        case hy2 => (intro w hSw; (try dsimp only at hSw); go_simp; try with_reducible rfl)
        try simp only [Act.put, List.setIfInBounds_toArray, List.set_cons_zero, List.set_cons_succ]
        refine wpAnyH_take (i := 2) (oi := _) (v := ?v3) (by simp only [List.getElem?_toArray, List.getElem?_cons_succ, List.getElem?_cons_zero]; rfl) (by kernel_rfl) (by kernel_rfl) (by kernel_rfl) (by exact fun _ _ _ h => h) (Or.inl ⟨by rfl, ?hy3⟩) (by assumption) ?rest3
        case hy3 => (intro w hSw; (try dsimp only at hSw); go_simp; try with_reducible rfl)
        try simp only [Act.put, List.setIfInBounds_toArray, List.set_cons_zero, List.set_cons_succ]
        refine wpAnyH_take (i := 4) (oi := _) (v := ?v4) (by simp only [List.getElem?_toArray, List.getElem?_cons_succ, List.getElem?_cons_zero]; rfl) (by kernel_rfl) (by kernel_rfl) (by kernel_rfl) (by exact fun _ _ _ h => h) (Or.inl ⟨by rfl, ?hy4⟩) (by assumption) ?rest4
        case hy4 => (intro w hSw; (try dsimp only at hSw); go_simp; try with_reducible rfl)
        try simp only [Act.put, List.setIfInBounds_toArray, List.set_cons_zero, List.set_cons_succ]
        refine wpAnyH_take (i := 5) (oi := _) (v := ?v5) (by simp only [List.getElem?_toArray, List.getElem?_cons_succ, List.getElem?_cons_zero]; rfl) (by kernel_rfl) (by kernel_rfl) (by kernel_rfl) (by exact fun _ _ _ h => h) (Or.inl ⟨by rfl, ?hy5⟩) (by assumption) ?rest5
        case hy5 => (intro w hSw; (try dsimp only at hSw); go_simp; try with_reducible rfl)
        try simp only [Act.put, List.setIfInBounds_toArray, List.set_cons_zero, List.set_cons_succ]
        refine wpAnyH_ready (rs := [3]) (by kernel_rfl) (by simp) ?_
        refine AllReadyH.cons (o := _) (by simp only [List.getElem?_toArray, List.getElem?_cons_succ, List.getElem?_cons_zero]; rfl) (fun K hK => ?_) AllReadyH.nil
        go_simp
        go_at_call 39
        refine (C1.out _ (Below.refl _ _).drew).mono ?_
        rintro e w2 ⟨rfl, hb2⟩
        have BA := Lib.hid ((Below.refl W1.heap.size W1).drew.chain hb2); clear hb2
        dsimp only
        refine hK.out _ _ (CL.out _ BA.out) (fun hHeld => ?_)
        clear hK K
        try simp only [Act.put, List.setIfInBounds_toArray, List.set_cons_zero, List.set_cons_succ]
        refine wpAnyH_ready (rs := [6]) (by kernel_rfl) (by simp) ?_
        refine AllReadyH.cons (o := _) (by simp only [List.getElem?_toArray, List.getElem?_cons_succ, List.getElem?_cons_zero]; rfl) (fun K hK => ?_) AllReadyH.nil
        go_simp
        go_at_call 39
        refine (C2.out rfl _ BA.out).mono ?_
        rintro e w3 ⟨rfl, hb3⟩
        have BB := Lib.hid (BA.out.chain hb3); clear hb3
        dsimp only
        refine hK.out _ _ (CL.out _ BB.out) (fun hHeld => ?_)
        clear hK K
        try simp only [Act.put, List.setIfInBounds_toArray, List.set_cons_zero, List.set_cons_succ]
        refine wpAnyH_take (i := 7) (oi := _) (v := ?v8) (by simp only [List.getElem?_toArray, List.getElem?_cons_succ, List.getElem?_cons_zero]; rfl) (by kernel_rfl) (by kernel_rfl) (by kernel_rfl) (by exact fun _ _ _ h => h) (Or.inl ⟨by rfl, ?hy8⟩) (by assumption) ?rest8
        case hy8 => (intro w hSw; (try dsimp only at hSw); go_simp; try with_reducible rfl)
        try simp only [Act.put, List.setIfInBounds_toArray, List.set_cons_zero, List.set_cons_succ]
        refine wpAnyH_ready (rs := [8]) (by kernel_rfl) (by simp) ?_
        refine AllReadyH.cons (o := _) (by simp only [List.getElem?_toArray, List.getElem?_cons_succ, List.getElem?_cons_zero]; rfl) (fun K hK => ?_) AllReadyH.nil
        obtain ⟨W4, hrun, hm4, ho4⟩ := PUT.out _ BB.out
        refine step_mapUpdate rfl (.tmp 17) (.tmp 20) (.tmp 24) 54 rfl _ _ _ rfl rfl rfl hrun ?_
        refine hK.out _ _ (HKEEP.out _ _ BB.out ho4) (fun hHeld => ?_)
        clear hK K
        try simp only [Act.put, List.setIfInBounds_toArray, List.set_cons_zero, List.set_cons_succ]
        refine wpAnyH_done (by kernel_rfl) ?_ _
        have hend : MapAt W4 b (turnL rows (l.take (k + 1))) ∧ Only (fun x => x = b) w W4 := ⟨by rw [STEP.out]; exact hm4, HFIN.out _ _ BB.out ho4⟩
        have HEND := Lib.hid hend
        clear hend hm4 ho4 hrun
        go_wp2
        go_roundw
        case rel => exact ⟨k + 1, by omega, by go_num, HEND⟩
        case measure => simp [intOf]; omega
    · obtain rfl : k = n := by omega
      have hkr : decide ((k : Int) < k) = false := by simp
      have he : l.take k = l := by rw [← HN.out]; exact List.take_length
      have hp := hT.out
      rw [he] at hp
      have HP := Lib.hid hp
      clear hp he
      go_wp2
      go_end0
      exact ⟨rfl, HP.out⟩
end Go.Proofs.YtkbjpgfdmkmbmaaDoor
namespace Go.Proofs.YtkbjpgfdmkmbmaaDoor
open Go.RowKit Go.Maps
set_option linter.unusedVariables false
set_option linter.unusedSimpArgs false

set_option maxRecDepth 100000 in
set_option maxHeartbeats 4000000 in
theorem scopy_any (bd bs : Nat) (rows : RowL) (hl : rows.length ≤ 1000000000) (w : World) (hd : MapAt w bd []) (hs : MapAt w bs rows) (hne : bd ≠ bs) :
    Calls Tryd.prog 29 #[.map (some bd), .map (some bs)] w fun e w' => e = .returned (.tuple #[]) ∧ MapAt w' bd rows ∧ Only (fun x => x = bd) w w' := by
  have hbd := hd.lt
  have hbs := hs.lt
  have hod := hd.own
  have hos := hs.own
  have hrs := hs.rising
  obtain ⟨N, hN⟩ : ∃ N, rows.length = N := ⟨_, rfl⟩
  have hsz := size_rows rows
  rw [hN] at hl hos hsz
  obtain ⟨Ds, hDs⟩ : ∃ D, rowsD rows = D := ⟨_, rfl⟩
  rw [hDs] at hos hsz
  have HRS := Lib.hid hrs; have HDS := Lib.hid hDs; have HSZ := Lib.hid hsz
  have hcs := hos.canon keyedS
  have HCS := Lib.hid hcs
  clear hd hs hrs hDs hN hcs
  go_enter Tryd.func29, Tryd.ntmps29
  go_wp2_with (first
    | (at_range; refine wpList_range_own _ rfl _ 54 rfl 9 77 keyedS Tryd.underMap rowE bs N _ rfl hos ?_; intro w0 hrg0 hg0 hs0)
    | go_in)
  go_frame
  rw [HSZ.out] at hrg0
  go_loopw [4, 5] (fun _ _ wr => ∃ (left : Lit → Bool) (cnt : Nat) (Dout : DataW Unit), wr.ranges Tryd.prog 9 rowE bs w.heap.size N Ds left cnt ∧ cnt ≤ N ∧
      wr.ownsMap Tryd.prog 9 rowE bd (N - cnt) Dout ∧ Maps.Agree Dout Ds left ∧ w.grownBy wr (some bd))
    (fun _ _ wr => wr.rangeLeft bs w.heap.size)
  case atStart =>
    exact ⟨_, _, _, hrg0, Nat.le_refl _, (hod.kept hg0 (by simp)).mono (by simp), Maps.agree_start Ds, hg0.but _⟩
  case round =>
    obtain ⟨left, cnt, Dout, hrg, hcn, hout, hM, hgw⟩ := hrel
    go_wp2_with (first
      | (at_next; refine wpList_next_ranges _ rfl _ rfl 9 keyedS rowE (fun l : List UInt8 => .string ⟨l.toArray⟩) rowV (fun key kl hk => by obtain ⟨x, hx, _⟩ := Maps.keyOf_str Tryd.underlying9 hk; exact ⟨x, hx⟩) (fun v y hv => by obtain ⟨x, hx, _⟩ := rowE_inv hv; exact ⟨x, hx⟩) bs w.heap.size N _ _ _ rfl hrg ?_ ?_)
      | go_in)
    · intro hc0 hl0
      have he := Maps.agree_end hM hl0 (hout.canon keyedS) HCS.out
      rw [he, ← HDS.out] at hout
      have hend : MapAt wr bd rows ∧ Only (fun x => x = bd) w wr := ⟨mapAt_of hout HRS.out, Only.of_grown hgw fun i e => (Option.some.inj e).symm⟩
      have HEND := Lib.hid hend
      clear he hend hM hl0
      go_wp2
      go_end0
      exact ⟨rfl, HEND.out⟩
    · intro x cv kl yd yp w1 cnt1 hkey hlx hv hat hrg1 hlt hg1 hs1 hen
      obtain ⟨x', ex, rfl, hxl⟩ := Maps.keyOf_str Tryd.underlying9 hkey
      obtain rfl : x = x' := encStr_inj ex
      rw [rowE_mk] at hv
      obtain ⟨rfl, rfl⟩ : DataW.lit (.string cv) = yd ∧ [] = yp := by injection hv with hv; injection hv with h1 h2; exact ⟨h1, h2⟩
      obtain ⟨SX, hSX⟩ : ∃ S : ByteArray, S = ⟨x.toArray⟩ := ⟨_, rfl⟩
      obtain ⟨SV, hSV⟩ : ∃ S : ByteArray, S = ⟨cv.toArray⟩ := ⟨_, rfl⟩
      have hrv : rowV cv = .agg #[.string SV] := by rw [hSV]; rfl
      have hval : rowE (.agg #[.string SV]) = some (.lit (.string cv), []) := by rw [← hrv]; exact rowE_mk cv
      rw [← hSX] at hkey hen ⊢
      rw [hrv] at hen ⊢
      obtain ⟨W2, hW2⟩ : ∃ W, W = w1.alloc (.cells #[.string SV] 77 (0, 0)) := ⟨_, rfl⟩
      have hg2 : w1.grownBy W2 none := by rw [hW2]; exact World.grownBy_alloc _ _ _
      have hout1 := (hout.kept hg1 (fun e => by have := Option.some.inj e; omega)).kept hg2 (by simp)
      have hrg2 := hrg1.kept hg2 (by simp) (by simp)
      have hgw2 := (hgw.andThen hg1 (fun j hj => .inl (by cases hj; exact Nat.le_refl _))).andThen hg2 (fun j hj => by cases hj)
      have hM2 := Maps.agree_step (kl := .string x) (d := .lit (.string cv)) hM hout.isMap (by trivial) hat
      have k2 : W2.heap[w1.heap.size]? = some (.cells #[.string SV] 77 (0, 0)) := by rw [hW2]; exact heap_alloc_last w1 _
      have c0 : W2.cell? ⟨w1.heap.size, 0, none⟩ = some (.string SV) := cell_here k2
      have HW2 := Lib.hid hW2; have HM2 := Lib.hid hM2
      clear hs1 hM hM2 hW2 k2 hrv hSX hSV ex hv hxl hat hlx hg2
      go_upto_region 3 with fail
      rw [← HW2.out]
      go_wp2_with (first
        | (at_mapUpdate; refine wpList_mapUpdate_own _ rfl _ _ _ 54 rfl 9 77 keyedS Tryd.underMap rowE bd _ _ rfl hout1 (by unfold maxLen; omega) _ _ (.string x) rfl rfl hkey (.lit (.string cv)) [] hval ?_; intro w3 hout3 hg3; go_frame)
        | go_in)
      have hrg3 := hrg2.kept hg3 (fun e => hne (Option.some.inj e).symm) (fun e => by have := Option.some.inj e; omega)
      go_roundw
      case rel => exact ⟨_, cnt1, _, hrg3, by omega, hout3.mono (by omega), HM2.out, hgw2.andThen hg3 (fun j hj => .inr hj)⟩
      case measure => rw [hrg3.left_eq, hrg.left_eq]; exact hlt
/-- the code's store in its block, its tape's place, its map's block -/
def StoreBox (w : World) (p q b : Nat) : Prop := w.heap[p]? = some (.cells #[.pointer (some ⟨q, 0, none⟩), .map (some b)] 58 (0, 0))
theorem make_map (W : World) (n : Int) : (Instr.makeMap 54 (some (.int .i64 n))).run Tryd.prog W = .ok (.map (some W.heap.size)) (W.alloc (.map #[] 0)) := by
  simp [Instr.makeMap, run_underlying Tryd.underMap, asInt, asIntOf, Result.andThen]
set_option maxRecDepth 100000 in
set_option maxHeartbeats 2000000 in
theorem sbehind_any (p q b : Nat) (rows : RowL) (A : Option Addr) (n c : Nat) (l : List Ch) (hn : l.length = n) (hl : n ≤ 1000000000) (hz : ∀ x ∈ l, x.key.length ≤ 10000000 ∧ x.val.length ≤ 10000000) (hr : rows.length ≤ 1000000000) (w : World) (hbx : StoreBox w p q b) (hm : MapAt w b rows) (h : RdC w (.slice A n c) l) :
    Calls Tryd.prog 17 #[.pointer (some ⟨p, 0, none⟩), .slice A n c] w fun e w' => (∃ bd, e = .returned (.map (some bd)) ∧ MapAt w' bd (turnL rows l) ∧ w.heap.size ≤ bd) ∧ Below w.heap.size w w' := by
  have hown := hm.own
  obtain ⟨N, hN⟩ : ∃ N, rows.length = N := ⟨_, rfl⟩
  rw [hN] at hown
  have hsz := size_rows rows
  rw [hN] at hsz
  have c0 : w.cell? ⟨p, 0, none⟩ = _ := cell_here hbx
  have c1 : w.cell? ⟨p, 1, none⟩ = some (.map (some b)) := cell_here hbx
  have hlen : ∀ ty, (Builtin.len_ #[54] ty #[.map (some b)]).run Tryd.prog w = .ok (.int .i64 (N : Int)) w := fun ty => by
    have := hown.len Tryd.underMap ty
    rwa [hsz] at this
  obtain ⟨W1, hW1⟩ : ∃ W, W = w.alloc (.map #[] 0) := ⟨_, rfl⟩
  have hb1 : Below w.heap.size w W1 := by rw [hW1]; exact (Below.refl _ _).alloc (Nat.le_refl _) _
  have hmd : MapAt W1 w.heap.size [] := by rw [hW1]; exact mapAt_made w
  have hms := hm.below hb1
  have hcp := scopy_any w.heap.size b rows hr W1 hmd hms (fun e => by have := hm.lt; omega)
  have hmk : (Instr.makeMap 54 (some (.int .i64 (N : Int)))).run Tryd.prog w = .ok (.map (some w.heap.size)) W1 := by rw [hW1]; exact make_map w N
  have c1' : W1.cell? ⟨p, 1, none⟩ = some (.map (some b)) := (cell_here (blk_below hbx hb1)).trans rfl
  have hch := fun W (hb : Below w.heap.size w W) (h1 : MapAt W w.heap.size rows) => schange_any w.heap.size rows A n c l hn hl hz hr W h1 (h.below hb)
  have HCP := Lib.hid hcp; have HCH := Lib.hid hch; have B1 := Lib.hid hb1
  clear hcp hch hb1 hmd hms hW1 hown hsz hm h hz hbx hn hN
  go_enter Tryd.func17, Tryd.ntmps17
  go_wp2_with fail
  refine HCP.out.mono ?_
  rintro e w2 ⟨rfl, hm2, ho2⟩
  have hb2 : Below w.heap.size w w2 := B1.out.trans (ho2.below B1.out.size (fun i hi => by rw [hi]; exact Nat.le_refl _))
  have hch := HCH.out w2 hb2 hm2
  have B2 := Lib.hid hb2; have HC := Lib.hid hch
  clear hm2 ho2 hb2 hch
  dsimp only
  go_wp2_with fail
  refine HC.out.mono ?_
  rintro e w3 ⟨rfl, hm3, ho3⟩
  have hb3 : Below w.heap.size w w3 := B2.out.trans (ho3.below B2.out.size (fun i hi => by rw [hi]; exact Nat.le_refl _))
  have M3 := Lib.hid hm3; have B3 := Lib.hid hb3
  clear hm3 ho3 hb3
  dsimp only
  go_wp2
  go_ret
  exact ⟨⟨_, rfl, M3.out, Nat.le_refl _⟩, B3.out⟩
end Go.Proofs.YtkbjpgfdmkmbmaaDoor
