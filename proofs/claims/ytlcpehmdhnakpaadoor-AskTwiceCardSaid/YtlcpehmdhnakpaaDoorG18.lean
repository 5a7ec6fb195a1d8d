/- Texts merged by program, in build order: Shelf, CliFirst, CliEach. -/
import Derived.Shelf.Small.Strs
import Derived.Shelf.Strings.Search1
import Derived.Shelf.Strings.Search2
import Derived.Shelf.Strings.Search3
import Derived.Shelf.Strings.Cut
import Derived.Shelf.Strings.Count
import Derived.Shelf.LaysM
import Derived.Shelf.Strings.Shaped
import Derived.Shelf.Strings.Split
import Derived.Shelf.Unicode.DecodeSlow
import Derived.Shelf.Slices.Turned
import Derived.Ground.Names2Prog
import Derived.Shelf.Slices.Clone
import Derived.Test.YtlcpehmdhnakpaaDoorProg
import Derived.Test.YtlcpehmdhnakpaaDoorG17
import Derived.Test.YtlcpehmdhnakpaaDoorG10
set_option linter.unusedVariables false
set_option linter.unusedSimpArgs false
namespace Go.Proofs.YtlcpehmdhnakpaaDoor
open Go.Shelf Go.RowKit Go.Lib
def Tryd.lays146_ren : Go.Shelf.Ren := ⟨fun | 146 => 36 | 221 => 51 | 268 => 59 | 138 => 60 | 143 => 61 | 195 => 65 | 197 => 66 | 218 => 67 | 219 => 62 | 260 => 72 | 217 => 64 | 225 => 68 | 224 => 69 | 267 => 70 | 266 => 71 | 314 => 73 | n => n, fun | 9 => 9 | 31 => 41 | 3 => 3 | 4 => 4 | 0 => 0 | 105 => 103 | 21 => 21 | 5 => 5 | 46 => 68 | 119 => 108 | 139 => 111 | 138 => 110 | 146 => 106 | 51 => 64 | n => n, fun | 1 => 0 | 3 => 1 | 4 => 2 | n => n⟩
theorem Tryd.lays146 : Go.Proofs.Lays.n146 Tryd.prog Tryd.lays146_ren := {
  mixed := by kernel_rfl
  f138 := Tryd.func60.trans (congrArg some (by kernel_rfl))
  f143 := Tryd.func61.trans (congrArg some (by kernel_rfl))
  f146 := Tryd.func36.trans (congrArg some (by kernel_rfl))
  f195 := Tryd.func65.trans (congrArg some (by kernel_rfl))
  f197 := Tryd.func66.trans (congrArg some (by kernel_rfl))
  f217 := Tryd.func64.trans (congrArg some (by kernel_rfl))
  f218 := Tryd.func67.trans (congrArg some (by kernel_rfl))
  f219 := Tryd.func62.trans (congrArg some (by kernel_rfl))
  f221 := Tryd.func51.trans (congrArg some (by kernel_rfl))
  f224 := Tryd.func69.trans (congrArg some (by kernel_rfl))
  f225 := Tryd.func68.trans (congrArg some (by kernel_rfl))
  f260 := Tryd.func72.trans (congrArg some (by kernel_rfl))
  f266 := Tryd.func71.trans (congrArg some (by kernel_rfl))
  f267 := Tryd.func70.trans (congrArg some (by kernel_rfl))
  f268 := Tryd.func59.trans (congrArg some (by kernel_rfl))
  f314 := Tryd.func73.trans (congrArg some (by kernel_rfl))
  t0 := Tryd.underlying0
  a0 := Tryd.isAgg0
  z0 := Tryd.sizeOf0
  v0 := Tryd.zeroValue0
  t3 := Tryd.underlying3
  a3 := Tryd.isAgg3
  z3 := Tryd.sizeOf3
  v3 := Tryd.zeroValue3
  t4 := Tryd.underlying4
  a4 := Tryd.isAgg4
  z4 := Tryd.sizeOf4
  v4 := Tryd.zeroValue4
  t5 := Tryd.underlying5
  a5 := Tryd.isAgg5
  z5 := Tryd.sizeOf5
  v5 := Tryd.zeroValue5
  t9 := Tryd.underlying9
  a9 := Tryd.isAgg9
  z9 := Tryd.sizeOf9
  v9 := Tryd.zeroValue9
  t21 := Tryd.underlying21
  a21 := Tryd.isAgg21
  z21 := Tryd.sizeOf21
  v21 := Tryd.zeroValue21
  t31 := Tryd.underlying41
  a31 := Tryd.isAgg41
  z31 := Tryd.sizeOf41
  v31 := Tryd.zeroValue41
  t46 := Tryd.underlying68
  a46 := Tryd.isAgg68
  z46 := Tryd.sizeOf68
  v46 := Tryd.zeroValue68
  t51 := Tryd.underlying64
  a51 := Tryd.isAgg64
  z51 := Tryd.sizeOf64
  v51 := Tryd.zeroValue64
  t105 := Tryd.underlying103
  a105 := Tryd.isAgg103
  z105 := Tryd.sizeOf103
  v105 := Tryd.zeroValue103
  t119 := Tryd.underlying108
  a119 := Tryd.isAgg108
  z119 := Tryd.sizeOf108
  t138 := Tryd.underlying110
  a138 := Tryd.isAgg110
  z138 := Tryd.sizeOf110
  v138 := Tryd.zeroValue110
  t139 := Tryd.underlying111
  a139 := Tryd.isAgg111
  z139 := Tryd.sizeOf111
  v139 := Tryd.zeroValue111
  t146 := Tryd.underlying106
  a146 := Tryd.isAgg106
  z146 := Tryd.sizeOf106
  v146 := Tryd.zeroValue106
  g1 := by kernel_rfl
  g3 := by kernel_rfl
  g4 := by kernel_rfl }
theorem Tryd.strings_Split (s sep : ByteArray) (m : Int) (w : World) (hs : s.size < 4294967281) (hm : w.cell? ⟨0, 0, none⟩ = some (.int .i64 m)) (h1 : 1 ≤ sep.size) :
    Calls Tryd.prog 36 #[.string s, .string sep] w fun e w' =>
      e = .returned (.slice (some ⟨w.heap.size, 0, none⟩) (Lib.countB s sep + 1) (Lib.countB s sep + 1)) ∧ w' = w.alloc (.cells ((Lib.splitB sep 0 (Lib.countB s sep) s).map Value.string).toArray 9) := Any.strings_Split Tryd.lays146 (by kernel_rfl) s sep m w hs hm h1
def Tryd.lays109_ren : Go.Shelf.Ren := ⟨fun | 109 => 50 | n => n, fun | 31 => 41 | 9 => 9 | 3 => 3 | 0 => 0 | 4 => 4 | n => n, fun | n => n⟩
theorem Tryd.lays109 : Go.Proofs.Lays.n109 Tryd.prog Tryd.lays109_ren := {
  mixed := by kernel_rfl
  f109 := Tryd.func50.trans (congrArg some (by kernel_rfl))
  t0 := Tryd.underlying0
  a0 := Tryd.isAgg0
  z0 := Tryd.sizeOf0
  v0 := Tryd.zeroValue0
  t3 := Tryd.underlying3
  a3 := Tryd.isAgg3
  z3 := Tryd.sizeOf3
  v3 := Tryd.zeroValue3
  t4 := Tryd.underlying4
  a4 := Tryd.isAgg4
  z4 := Tryd.sizeOf4
  v4 := Tryd.zeroValue4
  t9 := Tryd.underlying9
  a9 := Tryd.isAgg9
  z9 := Tryd.sizeOf9
  v9 := Tryd.zeroValue9
  t31 := Tryd.underlying41
  a31 := Tryd.isAgg41
  z31 := Tryd.sizeOf41
  v31 := Tryd.zeroValue41 }
open Go.Lib in
theorem Tryd.slices_Index_string (b off n c : Nat) (zs : List ByteArray) (x : ByteArray) (w : World) (hz : n ≤ zs.length) (hbig : n ≤ 9223372036854775807) (hc : ∀ j, j < zs.length → w.cell? ⟨b, off + j, none⟩ = some (.string (zs.getD j ByteArray.empty))) :
    Calls Tryd.prog 50 #[.slice (some ⟨b, off, none⟩) n c, .string x] w fun e w' => e = .returned (.int .i64 (Lib.idxOfS (zs.take n) x)) ∧ w' = w := Any.slices_Index_string Tryd.lays109 b off n c zs x w hz hbig hc
open Go.Lib in
theorem Tryd.slices_Index_string_empty (a : Option Addr) (c : Nat) (x : ByteArray) (w : World) :
    Calls Tryd.prog 50 #[.slice a 0 c, .string x] w fun e w' => e = .returned (.int .i64 (Lib.idxOfS [] x)) ∧ w' = w := Any.slices_Index_string_empty Tryd.lays109 a c x w
def Tryd.laysNm216_ren : Go.Shelf.Ren := ⟨fun | 16 => 48 | n => n, fun | 24 => 41 | 9 => 9 | 4 => 4 | n => n, fun | n => n⟩
theorem Tryd.laysNm216 : Go.Proofs.Lays2.n16 Tryd.prog Tryd.laysNm216_ren := {
  mixed := by kernel_rfl
  f16 := Tryd.func48.trans (congrArg some (by kernel_rfl))
  t4 := Tryd.underlying4
  a4 := Tryd.isAgg4
  z4 := Tryd.sizeOf4
  v4 := Tryd.zeroValue4
  t9 := Tryd.underlying9
  a9 := Tryd.isAgg9
  z9 := Tryd.sizeOf9
  v9 := Tryd.zeroValue9
  t24 := Tryd.underlying41
  a24 := Tryd.isAgg41
  z24 := Tryd.sizeOf41
  v24 := Tryd.zeroValue41
  i9 := by kernel_rfl }
theorem Tryd.slices_Clone_string (b off n c : Nat) (zs : List ByteArray) (w : World) (hz : n ≤ zs.length) (hbig : n * 16 ≤ 140737488355328) (hc : ∀ j, j < zs.length → w.cell? ⟨b, off + j, none⟩ = some (.string (zs.getD j ByteArray.empty))) :
    Calls Tryd.prog 48 #[.slice (some ⟨b, off, none⟩) n c] w fun e w' => ∃ v', e = .returned v' ∧ w'.ownsRow w.heap.size 9 1 v' n ((zs.take n).map (Value.string)) ∧ v' ≠ .slice none 0 0 ∧ Below w.heap.size w w' := Any.slices_Clone_string Tryd.laysNm216 b off n c zs w hz hbig hc
theorem Tryd.slices_Clone_string_nil (n c : Nat) (w : World) :
    Calls Tryd.prog 48 #[.slice none n c] w fun e w' => e = .returned (.slice none 0 0) ∧ w' = w := Any.slices_Clone_string_nil Tryd.laysNm216 n c w
theorem Tryd.slices_Clone_string_zero (a : Addr) (c : Nat) (w : World) :
    Calls Tryd.prog 48 #[.slice (some a) 0 c] w fun e w' => ∃ v', e = .returned v' ∧ w'.ownsRow w.heap.size 9 1 v' 0 [] ∧ v' ≠ .slice none 0 0 ∧ Below w.heap.size w w' := Any.slices_Clone_string_zero Tryd.laysNm216 a c w
end Go.Proofs.YtlcpehmdhnakpaaDoor
namespace Go.Proofs.YtlcpehmdhnakpaaDoor
open Go.RowKit Go.Shelf
set_option linter.unusedVariables false
set_option linter.unusedSimpArgs false

theorem hit_find {α : Type} {l : List α} {p : α → Bool} {d : Nat → Bool} (hd : ∀ k (hk : k < l.length), d k = p l[k]) {i : Int} (h : HitAt l.length d i) : (∃ k, ∃ hk : k < l.length, i = k ∧ l.find? p = some l[k]) ∨ (i = -1 ∧ l.find? p = none) := by
  rcases h with ⟨k, hk, rfl, hp, hb⟩ | ⟨rfl, hn⟩
  · exact .inl ⟨k, hk, rfl, find_some hk (fun j hj hjk => by rw [← hd j hj]; exact hb j hjk) (by rw [← hd k hk]; exact hp)⟩
  · exact .inr ⟨rfl, find_none (k := l.length) (fun j hj hjk => by rw [← hd j hj]; exact hn j hj) (Nat.le_refl _)⟩
theorem ba_eqL (a b : List UInt8) : ((ByteArray.mk a.toArray).toList == (ByteArray.mk b.toArray).toList) = decide (a = b) := by
  rw [ByteArray.toList_eq, ByteArray.toList_eq, Bool.eq_iff_iff]
  simp
/-- what first answers -/
def FirstC (w : World) (l : List CliP) (id : List UInt8) (e : Ending) : Prop := (∃ r u, findCl l id = some r ∧ r ∈ l ∧ e = .returned (.tuple #[.agg #[tv r.cID, tv r.cSecret, u], .bool true]) ∧ RdT w u r.cReds) ∨ (findCl l id = none ∧ e = .returned (.tuple #[.agg #[.string ⟨#[]⟩, .string ⟨#[]⟩, .slice none 0 0], .bool false]))
set_option maxRecDepth 100000 in
set_option maxHeartbeats 4000000 in
theorem clientFirst_any (A : Option Addr) (c : Nat) (l : List CliP) (id : List UInt8) (hl : l.length ≤ 1000000) (w0 w : World) (hb0 : Below w0.heap.size w0 w) (hrd0 : RdCl w0 (.slice A l.length c) l) :
    Calls Tryd.prog 46 #[.slice A l.length c, .func (.func 47) #[] #[], .string ⟨id.toArray⟩] w fun e w' => FirstC w0 l id e ∧ Below w.heap.size w w' := by
  have e2 := enters_of Tryd.func57 (by kernel_rfl) rfl
  have hrd := hrd0.below hb0
  obtain ⟨X, hX⟩ : ∃ X, X = ((w.alloc (.cells #[.func (.func 47) #[] #[]] 90)).alloc (.cells #[.string ⟨id.toArray⟩] 9)).alloc (.cells #[.string ⟨#[]⟩, .string ⟨#[]⟩, .slice none 0 0] 43) := ⟨_, rfl⟩
  obtain ⟨b, hb⟩ : ∃ b, w.heap.size = b := ⟨_, rfl⟩
  have bX : Below w.heap.size w X := by rw [hX]; exact (((Below.refl _ _).alloc (Nat.le_refl _) _).alloc (by simp) _).alloc (by simp; omega) _
  have zX : X.heap.size = w.heap.size + 3 := by rw [hX]; simp
  have k0 : X.cell? ⟨b, 0, none⟩ = some (.func (.func 47) #[] #[]) := by rw [hX, ← hb]; exact cell_here (alloc_block (alloc_block (heap_alloc_last w _)))
  have k1 : X.cell? ⟨b + 1, 0, none⟩ = some (.string ⟨id.toArray⟩) := by rw [hX]; exact cell_here (alloc_block (fresh_at _ (by simp [hb])))
  have k2 : X.heap[b + 1 + 1]? = some (.cells #[.string ⟨#[]⟩, .string ⟨#[]⟩, .slice none 0 0] 43 (0, 0)) := by rw [hX]; exact fresh_at _ (by simp [hb])
  have hc := clientIndex_any A c l (by omega) 57 #[.pointer (some ⟨b, 0, none⟩), .pointer (some ⟨b + 1, 0, none⟩)] e2 (fun k => decide ((l.map (·.cID)).getD k [] = id)) X.heap.size (fun _ W => True) X
    (fun W hb => hrd.below (bX.trans (hb.mono (by omega)))) trivial (Nat.le_refl _)
    (fun k hk W u _ hbw hu => by
      obtain ⟨UA, uc, rfl⟩ := rdt_form hu
      refine (clientIs_any ⟨l[k].cID.toArray⟩ ⟨l[k].cSecret.toArray⟩ UA l[k].cReds.length uc ⟨id.toArray⟩ b (b + 1) W ((hbw.cell (p := ⟨b, 0, none⟩) (by show b < _; omega)).trans k0) ((hbw.cell (p := ⟨b + 1, 0, none⟩) (by show b + 1 < _; omega)).trans k1) (by have := hbw.size; omega) (by have := hbw.size; omega)).mono ?_
      rintro e w2 ⟨rfl, hb2⟩
      refine ⟨?_, trivial, hbw.chain hb2⟩
      rw [ba_eqL]
      simp [List.getD_eq_getElem?_getD, hk])
  have hfd : ∀ i, HitAt l.length (fun k => decide ((l.map (·.cID)).getD k [] = id)) i → _ := fun i h => hit_find (p := fun x => decide (x.cID = id)) (fun k hk => by simp [List.getD_eq_getElem?_getD, hk]) h
  obtain ⟨n, hn⟩ : ∃ n, l.length = n := ⟨_, rfl⟩
  have hc := hc.mono (fun e w' (h : _ ∧ _ ∧ _) => show (∃ i, e = .returned (.int .i64 i) ∧ ((∃ (k : Nat) (r : CliP), k < l.length ∧ i = k ∧ l[k]? = some r ∧ findCl l id = some r) ∨ (i = -1 ∧ findCl l id = none))) ∧ Below X.heap.size X w' from by
    obtain ⟨⟨i, he, hi⟩, _, hb⟩ := h
    refine ⟨⟨i, he, ?_⟩, hb⟩
    rcases hfd i hi with ⟨k, hk, e1, e2⟩ | h2
    · exact .inl ⟨k, _, hk, e1, List.getElem?_eq_getElem hk, e2⟩
    · exact .inr h2)
  have HRD := Lib.hid hrd0; have HX := Lib.hid hX; have BX := Lib.hid bX; have K2 := Lib.hid k2; have HC := Lib.hid hc; have HZ := Lib.hid zX; have B0 := Lib.hid hb0; have HN := Lib.hid hn
  clear hrd0 hrd hX bX zX k0 k1 k2 hc hfd e2 hb0
  rw [hn] at hl ⊢
  clear hn
  go_enter Tryd.func46, Tryd.ntmps46
  go_upto_region 1 with fail
  rw [← HX.out]
  have HC := HC.out
  rw [HN.out] at HC
  have HC := Lib.hid HC
  go_wp2_with fail
  refine HC.out.mono ?_
  rintro e w1 ⟨⟨i, rfl, hi⟩, hb1⟩
  have HB1 := Lib.hid hb1
  have z1 := hb1.size
  have zz := HZ.out
  obtain ⟨⟨p0, p1, p2⟩, ⟨q0, q1, q2⟩⟩ := cellsK3_of (blk_below K2.out hb1)
  have K21 := Lib.hid (blk_below K2.out hb1)
  clear hb1
  rcases hi with ⟨k, r, hkn, rfl, hkr, hf⟩ | ⟨rfl, hf⟩
  · have hk : k < l.length := by have := HN.out; omega
    obtain ⟨_, hr⟩ := List.getElem?_eq_some_iff.1 hkr
    clear hkr
    have HF := Lib.hid hf
    clear hf
    obtain ⟨a, o, u, rfl, hab, h1, h2, h3, hu⟩ := HRD.out.at k hk
    have h1 := (HB1.out.cell (p := ⟨a, o + k * 3, none⟩) (by have := B0.out.size; show a < _; omega)).trans ((BX.out.cell (p := ⟨a, o + k * 3, none⟩) (by have := B0.out.size; show a < _; omega)).trans ((B0.out.cell (p := ⟨a, o + k * 3, none⟩) hab).trans h1))
    have h2 := (HB1.out.cell (p := ⟨a, o + k * 3 + 1, none⟩) (by have := B0.out.size; show a < _; omega)).trans ((BX.out.cell (p := ⟨a, o + k * 3 + 1, none⟩) (by have := B0.out.size; show a < _; omega)).trans ((B0.out.cell (p := ⟨a, o + k * 3 + 1, none⟩) hab).trans h2))
    have h3 := (HB1.out.cell (p := ⟨a, o + k * 3 + 2, none⟩) (by have := B0.out.size; show a < _; omega)).trans ((BX.out.cell (p := ⟨a, o + k * 3 + 2, none⟩) (by have := B0.out.size; show a < _; omega)).trans ((B0.out.cell (p := ⟨a, o + k * 3 + 2, none⟩) hab).trans h3))
    obtain ⟨UA, uc, rfl⟩ := rdt_form hu
    have HU := Lib.hid hu; clear hu
    have hrm : r ∈ l := by rw [← hr]; exact List.getElem_mem hk
    rw [hr] at h1 h2 h3
    have HF2 : Hid (findCl l id = some r) := Lib.hid HF.out
    have HU2 : Hid (RdT w0 (.slice UA r.cReds.length uc) r.cReds) := Lib.hid (by have := HU.out; rwa [hr] at this)
    obtain ⟨nr, hnr⟩ : ∃ z, r.cReds.length = z := ⟨_, rfl⟩
    rw [hnr] at h3
    have HU3 : Hid (RdT w0 (.slice UA nr uc) r.cReds) := Lib.hid (by rw [← hnr]; exact HU2.out)
    obtain ⟨V0, hV0⟩ : ∃ B : ByteArray, tv r.cID = .string B := ⟨_, rfl⟩
    rw [hV0] at h1
    obtain ⟨V1, hV1⟩ : ∃ B : ByteArray, tv r.cSecret = .string B := ⟨_, rfl⟩
    rw [hV1] at h2
    have HV := Lib.hid (And.intro hV0 (hV1))
    have HRM := Lib.hid hrm
    clear hr hrm HF hV0 hV1 hnr HU2 HU
    have hk0 : (0 : Int) ≤ k := by omega
    have hk1 : (k : Int) < n := by omega
    have hk2 : ¬ (k : Int) < 0 := by omega
    go_wp2_with fail
    obtain ⟨wf, hwf⟩ : ∃ wf, wf = setK3 w1 (b + 1 + 1) (.string V0) (.string V1) (.slice UA nr uc) := ⟨_, rfl⟩
    change bodyPost _ _ _ _ _ (setK3 w1 (b + 1 + 1) (.string V0) (.string V1) (.slice UA nr uc))
    rw [← hwf]
    have hy : wf.heap[b + 1 + 1]? = some (.cells #[.string V0, .string V1, .slice UA nr uc] 43 (0, 0)) := by rw [hwf]; exact setK3_here K21.out
    have hbf : Below w.heap.size X wf := by rw [hwf]; exact setK3_below (HB1.out.mono (by omega)) (by have := hb; omega) (.string V0) (.string V1) (.slice UA nr uc)
    obtain ⟨⟨y0, y1, y2⟩, -⟩ := cellsK3_of hy
    have HBF := Lib.hid (BX.out.trans hbf)
    clear hwf hy hbf p0 p1 p2 q0 q1 q2
    refine bodyPost_ret (v := .tuple #[.agg #[.string V0, .string V1, .slice UA nr uc], .bool true]) (by simp [results, Tryd.results46, go_sem, y0, y1, y2]) rfl ⟨?_, HBF.out⟩
    obtain ⟨hV0, hV1⟩ := HV.out
    exact .inl ⟨r, _, HF2.out, HRM.out, by rw [hV0, hV1], HU3.out⟩
  · have HF := Lib.hid hf
    clear hf p0 p1 p2 q0 q1 q2
    have KA : Hid ((w1.alloc (.cells #[.string ⟨#[]⟩, .string ⟨#[]⟩, .slice none 0 0] 43)).heap[b + 1 + 1]? = some (.cells #[.string ⟨#[]⟩, .string ⟨#[]⟩, .slice none 0 0] 43 (0, 0))) := Lib.hid (alloc_block K21.out)
    obtain ⟨⟨p0, p1, p2⟩, ⟨q0, q1, q2⟩⟩ := cellsK3_of KA.out
    go_wp2_with fail
    obtain ⟨wf, hwf⟩ : ∃ wf, wf = setK3 (w1.alloc (.cells #[.string ⟨#[]⟩, .string ⟨#[]⟩, .slice none 0 0] 43)) (b + 1 + 1) (.string ⟨#[]⟩) (.string ⟨#[]⟩) (.slice none 0 0) := ⟨_, rfl⟩
    change bodyPost _ _ _ _ _ (setK3 (w1.alloc (.cells #[.string ⟨#[]⟩, .string ⟨#[]⟩, .slice none 0 0] 43)) (b + 1 + 1) (.string ⟨#[]⟩) (.string ⟨#[]⟩) (.slice none 0 0))
    rw [← hwf]
    have hy : wf.heap[b + 1 + 1]? = some (.cells #[.string ⟨#[]⟩, .string ⟨#[]⟩, .slice none 0 0] 43 (0, 0)) := by rw [hwf]; exact setK3_here KA.out
    have hbf : Below w.heap.size X wf := by rw [hwf]; exact setK3_below ((HB1.out.mono (by omega)).alloc (by omega) _) (by have := hb; omega) (.string ⟨#[]⟩) (.string ⟨#[]⟩) (.slice none 0 0)
    obtain ⟨⟨y0, y1, y2⟩, -⟩ := cellsK3_of hy
    have HBF := Lib.hid (BX.out.trans hbf)
    clear hwf hy hbf p0 p1 p2 q0 q1 q2
    refine bodyPost_ret (v := .tuple #[.agg #[.string ⟨#[]⟩, .string ⟨#[]⟩, .slice none 0 0], .bool false]) (by simp [results, Tryd.results46, go_sem, y0, y1, y2]) rfl ⟨?_, HBF.out⟩
    exact .inr ⟨HF.out, rfl⟩
/-- what first answers -/
def FirstN (w : World) (l : List ConnP) (id : List UInt8) (e : Ending) : Prop := (∃ r, findCn l id = some r ∧ r ∈ l ∧ e = .returned (.tuple #[r.val, .bool true])) ∨ (findCn l id = none ∧ e = .returned (.tuple #[.agg #[.string ⟨#[]⟩, .string ⟨#[]⟩, .string ⟨#[]⟩, .string ⟨#[]⟩, .string ⟨#[]⟩, .bool false, .string ⟨#[]⟩], .bool false]))
end Go.Proofs.YtlcpehmdhnakpaaDoor
namespace Go.Proofs.YtlcpehmdhnakpaaDoor
open Go.RowKit Go.Shelf
set_option linter.unusedVariables false
set_option linter.unusedSimpArgs false

def bsT (l : List (List UInt8)) : List ByteArray := l.map fun t => ⟨t.toArray⟩
theorem bsT_len (l : List (List UInt8)) : (bsT l).length = l.length := by simp [bsT]
theorem bsT_getD (l : List (List UInt8)) (j : Nat) (h : j < l.length) : (bsT l).getD j ByteArray.empty = ⟨l[j].toArray⟩ := by
  unfold bsT List.getD
  rw [List.getElem?_map, List.getElem?_eq_getElem h]; rfl
theorem own_lower {w : World} {B B' size n : Nat} {e : TypeId} {v : Value} {xs : List Value} (h : w.ownsRow B e size v n xs) (hB : B' ≤ B) : w.ownsRow B' e size v n xs := by
  refine ⟨h.1, ?_⟩
  rcases h.2 with h' | ⟨g, cap, cur, hv, hg, r⟩
  · exact .inl h'
  · exact .inr ⟨g, cap, cur, hv, Nat.le_trans hB hg, r⟩
theorem zero_texts {w : World} {A : Option Addr} {c : Nat} {l : List (List UInt8)} (h : RdT w (.slice A l.length c) l) : l = [] ∨ ∃ b o, A = some ⟨b, o, none⟩ ∧ b < w.heap.size ∧ ∀ k (hk : k < l.length), w.cell? ⟨b, o + k, none⟩ = some (tv l[k]) := by
  cases l with
  | nil => exact .inl rfl
  | cons x r =>
    obtain ⟨b, o, rfl, hb, _⟩ := h.at 0 (by simp)
    refine .inr ⟨b, o, rfl, hb, fun k hk => ?_⟩
    obtain ⟨b', o', e, _, hc⟩ := h.at k hk
    injection e with e; injection e with e1 e2
    subst e1; subst e2
    exact hc
theorem cloneT_any (A : Option Addr) (c : Nat) (l : List (List UInt8)) (w : World) (hl : l.length * 16 ≤ 140737488355328) (h : RdT w (.slice A l.length c) l) :
    Calls Tryd.prog 48 #[.slice A l.length c] w fun e w' => (∃ u, e = .returned u ∧ TRow w' w.heap.size u l ∧ (A = none → u = .slice none 0 0)) ∧ Below w.heap.size w w' := by
  rcases zero_texts h with rfl | ⟨b, o, rfl, hb, hc⟩
  · cases A with
    | none => exact (Tryd.slices_Clone_string_nil 0 c w).mono fun e w' ⟨he, hw⟩ => by subst hw; exact ⟨⟨_, he, ⟨by simp [tcells], .inl ⟨rfl, rfl⟩⟩, fun _ => rfl⟩, Below.refl _ _⟩
    | some a =>
      refine (Tryd.slices_Clone_string_zero a c w).mono fun e w' ⟨v', he, hr, hn, hb⟩ => ?_
      exact ⟨⟨v', he, hr, fun h => by cases h⟩, hb⟩
  · refine (Tryd.slices_Clone_string b o l.length c (bsT l) w (by rw [bsT_len]; exact Nat.le_refl _) (by omega) (fun j hj => ?_)).mono fun e w' ⟨v', he, hr, hn, hb⟩ => ?_
    · rw [bsT_len] at hj
      rw [bsT_getD l j hj]
      exact hc j hj
    · refine ⟨⟨v', he, ?_, fun h => by cases h⟩, hb⟩
      have : ((bsT l).take l.length).map Value.string = tcells l := by
        rw [List.take_of_length_le (by rw [bsT_len]; exact Nat.le_refl _)]
        unfold bsT tcells tv
        rw [List.map_map]; rfl
      unfold TRow
      rw [← this]; exact hr
theorem hasT_any (A : Option Addr) (c : Nat) (l : List (List UInt8)) (s : List UInt8) (w : World) (hl : l.length * 16 ≤ 140737488355328) (h : RdT w (.slice A l.length c) l) :
    Calls Tryd.prog 35 #[.slice A l.length c, .string ⟨s.toArray⟩] w fun e w' => e = .returned (.bool (l.any (fun y => decide (y = s)))) ∧ Below w.heap.size w w' := by
  obtain ⟨S, hS⟩ : ∃ B : ByteArray, (⟨s.toArray⟩ : ByteArray) = B := ⟨_, rfl⟩
  have hi : Calls Tryd.prog 50 #[.slice A l.length c, .string S] w fun e w' => (∃ i, e = .returned (.int .i64 i) ∧ decide (0 ≤ i) = l.any (fun y => decide (y = s))) ∧ w = w' := by
    have hidx : decide (0 ≤ Lib.idxOfS ((bsT l).take l.length) S) = l.any (fun y => decide (y = s)) := by
      rw [List.take_of_length_le (by rw [bsT_len]; exact Nat.le_refl _), Bool.eq_iff_iff, decide_eq_true_eq, Lib.idxOfS_nonneg_iff, List.any_eq_true]
      unfold bsT
      rw [List.mem_map, ← hS]
      constructor
      · rintro ⟨x, hx, e⟩
        exact ⟨x, hx, by injection e with e; simpa using e⟩
      · rintro ⟨x, hx, e⟩
        exact ⟨x, hx, by rw [of_decide_eq_true e]⟩
    rcases zero_texts h with rfl | ⟨b, o, rfl, hb, hc⟩
    · exact (Tryd.slices_Index_string_empty A c S w).mono fun e w' ⟨he, hw⟩ => ⟨⟨_, he, hidx⟩, hw.symm⟩
    · refine (Tryd.slices_Index_string b o l.length c (bsT l) S w (by rw [bsT_len]; exact Nat.le_refl _) (by omega) (fun j hj => ?_)).mono fun e w' ⟨he, hw⟩ => ⟨⟨_, he, hidx⟩, hw.symm⟩
      rw [bsT_len] at hj
      rw [bsT_getD l j hj]
      exact hc j hj
  rw [hS]
  obtain ⟨R, hR⟩ : ∃ R, l.any (fun y => decide (y = s)) = R := ⟨_, rfl⟩
  rw [hR] at hi ⊢
  have HI := Lib.hid hi
  clear hi hR hS h hl
  generalize l.length = n at *
  go_enter Tryd.func35, Tryd.ntmps35
  go_wp2_with fail
  refine HI.out.mono ?_
  rintro e w1 ⟨⟨i, rfl, hd⟩, rfl⟩
  have HD := Lib.hid hd
  clear hd
  dsimp only
  go_wp2
  go_ret
  exact ⟨by rw [← HD.out]; rfl, Below.refl _ _⟩
set_option maxRecDepth 100000 in
theorem codeRedir (w0 : World) : CodeRedir w0 := fun w hb r A n c s hn hf h => by
  subst hn
  have hh := fun W (hb : Below w.heap.size w W) => hasT_any A c r.cReds s W hf.2.2.1 (h.below hb)
  unfold redirP
  obtain ⟨R, hR⟩ : ∃ R, r.cReds.any (fun y => decide (y = s)) = R := ⟨_, rfl⟩
  obtain ⟨n, hn⟩ : ∃ n, r.cReds.length = n := ⟨_, rfl⟩
  simp only [hR, hn] at hh
  rw [hR, hn]
  have HH := Lib.hid hh
  clear hh hR h hb hf hn
  unfold tv
  have b1 : Below w.heap.size w (w.alloc (.cells #[.string ⟨r.cID.toArray⟩, .string ⟨r.cSecret.toArray⟩, .slice A n c] 43)) := (Below.refl _ _).alloc (Nat.le_refl _) _
  have B1 := Lib.hid b1
  clear b1
  go_enter Tryd.func33, Tryd.ntmps33
  go_wp2_with fail
  refine (HH.out _ B1.out).mono ?_
  rintro e w1 ⟨rfl, hb1⟩
  have B2 := Lib.hid (B1.out.chain hb1)
  clear hb1
  dsimp only
  go_wp2
  go_ret
  exact ⟨rfl, B2.out⟩
set_option maxRecDepth 100000 in
set_option maxHeartbeats 4000000 in
theorem codeClient (w0 : World) : CodeClient w0 := fun w hb0 x A n c A' n' c' id h hf h20 => by
  obtain ⟨hn, hn', hc, hcn⟩ := h
  subst hn
  have hfi := fun W (hb : Below w.heap.size w W) => clientFirst_any A c x.gClients id (by omega) w W hb hc
  obtain ⟨IS, hIS⟩ : ∃ z : ByteArray, (⟨x.gIssuer.toArray⟩ : ByteArray) = z := ⟨_, rfl⟩
  obtain ⟨KI, hKI⟩ : ∃ z : ByteArray, (⟨x.gKeyID.toArray⟩ : ByteArray) = z := ⟨_, rfl⟩
  obtain ⟨KS, hKS⟩ : ∃ z : ByteArray, (⟨x.gKeySecret.toArray⟩ : ByteArray) = z := ⟨_, rfl⟩
  obtain ⟨b, hb⟩ : ∃ b, w.heap.size = b := ⟨_, rfl⟩
  obtain ⟨m, hm⟩ : ∃ m, x.gClients.length = m := ⟨_, rfl⟩
  have hv : x.val A x.gClients.length c A' n' c' = .agg #[.string IS, .string KI, .string KS, .slice A m c, .slice A' n' c'] := by unfold CfgP.val tv; rw [hIS, hKI, hKS, hm]
  rw [hv]
  unfold tv
  obtain ⟨W2, hW2⟩ : ∃ W2, W2 = (w.alloc (.cells #[.string IS, .string KI, .string KS, .slice A m c, .slice A' n' c'] 27)).alloc (.cells #[.string ⟨#[]⟩, .string ⟨#[]⟩, .slice none 0 0] 43) := ⟨_, rfl⟩
  have b2 : Below w.heap.size w W2 := by rw [hW2]; exact ((Below.refl _ _).alloc (Nat.le_refl _) _).alloc (by simp) _
  have z2 : W2.heap.size = b + 2 := by rw [hW2]; simp [hb]
  have x1 : W2.heap[b]? = some (.cells #[.string IS, .string KI, .string KS, .slice A m c, .slice A' n' c'] 27 (0, 0)) := by rw [hW2, ← hb]; exact alloc_block (heap_alloc_last w _)
  have x2 : W2.heap[b + 1]? = some (.cells #[.string ⟨#[]⟩, .string ⟨#[]⟩, .slice none 0 0] 43 (0, 0)) := by rw [hW2]; exact fresh_at _ (by simp [hb])
  obtain ⟨⟨e0, e1, e2, e3, e4⟩, -⟩ := cellsK5_of x1
  have hf2 := (hfi W2 b2).mono (fun e w' (h : FirstC w x.gClients id e ∧ _) => show (∃ V0 V1 UA un uc boo reds, e = .returned (.tuple #[.agg #[.string V0, .string V1, .slice UA un uc], .bool boo]) ∧ (un = reds.length ∧ reds.length * 16 ≤ 140737488355328 ∧ RdT w (.slice UA un uc) reds ∧ ∀ (W : World) (v : Value), TRow W w.heap.size v reds → (UA = none → v = .slice none 0 0) → CliOwn w.heap.size x.gClients id (.returned (.tuple #[.agg #[.string V0, .string V1, v], .bool boo])) W)) ∧ Below W2.heap.size W2 w' from by
    obtain ⟨h, hb⟩ := h
    refine ⟨?_, hb⟩
    rcases h with ⟨r, u, h1, hrm, rfl, hu⟩ | ⟨h1, rfl⟩
    · obtain ⟨UA, uc, rfl⟩ := rdt_form hu
      refine ⟨_, _, _, _, _, _, r.cReds, rfl, rfl, (hf.2.2.2.2.1 r hrm).2.2.1, hu, fun W v hv _ => ?_⟩
      unfold CliOwn
      rw [h1]
      exact ⟨_, rfl, hv⟩
    · refine ⟨_, _, _, _, _, _, [], rfl, rfl, by simp, ⟨none, 0, rfl, Nat.le_refl _, fun k x hk => by cases hk⟩, fun W v hv e => ?_⟩
      unfold CliOwn
      rw [h1, e rfl])
  rw [hm] at hf2
  have HF := Lib.hid hf2; have HW := Lib.hid hW2; have B2 := Lib.hid b2; have X2 := Lib.hid x2; have HB := Lib.hid hb; have Z2 := Lib.hid z2
  clear hf2 hW2 b2 x1 x2 hfi hc hcn hIS hKI hKS hv hb0 hf h20 hm hn' z2
  go_enter Tryd.func32, Tryd.ntmps32
  go_upto_region 1 with fail
  rw [← HW.out]
  go_wp2_with fail
  refine HF.out.mono ?_
  rintro e w1 ⟨⟨V0, V1, UA, un, uc, boo, reds, rfl, hul, hu16, hu, hs⟩, hb1⟩
  have HS := Lib.hid hs; have HUL := Lib.hid hul; have HU16 := Lib.hid hu16
  have z1 : b + 2 ≤ w1.heap.size := by have := hb1.size; have := Z2.out; omega
  have hu1 : Hid (RdT w1 (.slice UA un uc) reds) := Lib.hid (hu.below (B2.out.trans (hb1.mono B2.out.size)))
  have K2 := Lib.hid (blk_below X2.out hb1); have HB1 := Lib.hid hb1
  clear hb1 hs hul hu16 hu e0 e1 e2 e3 e4
  obtain ⟨W3, hW3⟩ : ∃ W3, W3 = w1.alloc (.cells #[.string V0, .string V1, .slice UA un uc] 43) := ⟨_, rfl⟩
  have x3 : W3.heap[w1.heap.size]? = some (.cells #[.string V0, .string V1, .slice UA un uc] 43 (0, 0)) := by rw [hW3]; exact heap_alloc_last w1 _
  have b3 : Below w1.heap.size w1 W3 := by rw [hW3]; exact (Below.refl _ _).alloc (Nat.le_refl _) _
  have z3 : W3.heap.size = w1.heap.size + 1 := by rw [hW3]; simp
  have k23 := blk_below K2.out b3
  have hcl := cloneT_any UA uc reds W3 HU16.out (by have := hu1.out.below b3; rwa [HUL.out] at this)
  rw [← HUL.out] at hcl
  have HCL := Lib.hid hcl; have HW3 := Lib.hid hW3; have X3 := Lib.hid x3; have B3 := Lib.hid b3; have K23 := Lib.hid k23; have Z3 := Lib.hid z3
  clear hcl hW3 b3 k23 z3
  dsimp only
  go_upto_region 2 with fail
  rw [← HW3.out]
  obtain ⟨⟨e0, e1, e2⟩, -⟩ := cellsK3_of x3
  go_wp2_with fail
  refine HCL.out.mono ?_
  rintro e w4 ⟨⟨v, rfl, hv, hvn⟩, hb4⟩
  obtain ⟨RA, rc, rfl⟩ := own_formR hv
  have HVN := Lib.hid hvn
  clear hvn
  have k4 := blk_below X3.out hb4
  have k24 := blk_below K23.out hb4
  have z4 := hb4.size
  have z33 := Z3.out
  clear e0 e1 e2 x3
  obtain ⟨⟨e0, e1, e2⟩, ⟨f0, f1, f2⟩⟩ := cellsK3_of k4
  obtain ⟨w5, hw5⟩ : ∃ w5, w5 = w4.setCell ⟨w1.heap.size, 2, none⟩ (.slice RA reds.length rc) := ⟨_, rfl⟩
  have k5 : w5.heap[w1.heap.size]? = some (.cells #[.string V0, .string V1, .slice RA reds.length rc] 43 (0, 0)) := by rw [hw5]; have := set_here (o := 2) k4 (.slice RA reds.length rc); simpa using this
  have k25 : w5.heap[b + 1]? = some (.cells #[.string ⟨#[]⟩, .string ⟨#[]⟩, .slice none 0 0] 43 (0, 0)) := by rw [hw5]; exact (set_there _ (by omega)).trans k24
  have b5 : Below w.heap.size w w5 := by rw [hw5]; exact (((B2.out.trans (HB1.out.mono B2.out.size)).trans (B3.out.mono (by have := HB.out; omega))).trans (hb4.mono (by have := HB.out; omega))).setCell (p := ⟨w1.heap.size, 2, none⟩) (by show w.heap.size ≤ w1.heap.size; have := HB.out; omega) _
  have hv5 : w5.ownsRow w.heap.size 9 1 (.slice RA reds.length rc) reds.length (tcells reds) := own_lower (own_kept hv fun g hg => by rw [hw5]; exact set_there _ (by have := (hv.lt g hg).1; omega)) (by have := HB.out; omega)
  have hvb : ∀ g, (Value.slice RA reds.length rc).ownBlock = some g → W3.heap.size ≤ g := fun g hg => (hv.lt g hg).1
  have HV5 := Lib.hid hv5; have HVB := Lib.hid hvb; have B5 := Lib.hid b5; have K25 := Lib.hid k25; have K5 := Lib.hid k5; have HW5 := Lib.hid hw5
  obtain ⟨nr, hnr⟩ : ∃ z, reds.length = z := ⟨_, rfl⟩
  have HNR := Lib.hid hnr
  clear k4 k24 k25 b5 hv5 hvb hb4 hv
  dsimp only
  rw [hnr]
  rw [hnr] at hw5 k5
  go_upto_region 3 with fail
  try rw [← hw5]
  have HW6 := Lib.hid hw5
  clear hw5
  clear e0 e1 e2 f0 f1 f2
  obtain ⟨⟨e0, e1, e2⟩, ⟨f0, f1, f2⟩⟩ := cellsK3_of k5
  obtain ⟨⟨p0, p1, p2⟩, ⟨q0, q1, q2⟩⟩ := cellsK3_of K25.out
  clear k5
  go_wp2_with fail
  obtain ⟨wf, hwf⟩ : ∃ wf, wf = setK3 w5 (b + 1) (.string V0) (.string V1) (.slice RA nr rc) := ⟨_, rfl⟩
  change bodyPost _ _ _ _ _ (setK3 w5 (b + 1) (.string V0) (.string V1) (.slice RA nr rc))
  rw [← hwf]
  have hy : wf.heap[b + 1]? = some (.cells #[.string V0, .string V1, .slice RA nr rc] 43 (0, 0)) := by rw [hwf]; exact setK3_here K25.out
  have hbf : Below w.heap.size w wf := by rw [hwf]; exact setK3_below B5.out (by have := HB.out; omega) _ _ _
  have hvf : TRow wf w.heap.size (.slice RA nr rc) reds := by
    unfold TRow
    rw [← HNR.out]
    refine own_kept HV5.out fun g hg => ?_
    have hg1 := HVB.out g hg
    rw [hwf]
    unfold setK3
    exact (set_there _ (by omega)).trans ((set_there _ (by omega)).trans (set_there _ (by omega)))
  obtain ⟨⟨y0, y1, y2⟩, -⟩ := cellsK3_of hy
  have HBF := Lib.hid hbf; have HVF := Lib.hid hvf
  clear hwf hy hbf hvf p0 p1 p2 q0 q1 q2 e0 e1 e2 f0 f1 f2
  refine bodyPost_ret (v := .tuple #[.agg #[.string V0, .string V1, .slice RA nr rc], .bool boo]) (by simp [results, Tryd.results32, go_sem, y0, y1, y2]) rfl ⟨?_, HBF.out⟩
  exact HS.out wf _ HVF.out (fun e => by have := HVN.out e; rwa [HNR.out] at this)
end Go.Proofs.YtlcpehmdhnakpaaDoor
