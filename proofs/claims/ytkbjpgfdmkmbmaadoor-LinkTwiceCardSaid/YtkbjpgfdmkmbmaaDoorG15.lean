/- Texts merged by program, in build order: Builder, LaidLink, OpenBytes, OpenActs, OpenChanges. -/
import Derived.Test.YtkbjpgfdmkmbmaaDoorG01
import Derived.Lib.Builder
import Derived.Lib.UnsafeStr
import Derived.Lib.AppendStr
import Derived.RegionTactic
import Derived.Test.YtkbjpgfdmkmbmaaDoorG04
import Derived.Test.YtkbjpgfdmkmbmaaDoorG14
import Derived.Test.YtkbjpgfdmkmbmaaDoorG02
import Derived.ProofKit
import Derived.ChangeMaps5
import Derived.Deep.Slices
import Derived.SizedLaws
import Derived.Test.YtkbjpgfdmkmbmaaDoorG07
set_option linter.unusedVariables false
set_option linter.unusedSimpArgs false
namespace Go.Proofs.YtkbjpgfdmkmbmaaDoor
open Go.RowKit

theorem Tryd.sizeBuilder : (Tryd.prog.info? 95).map (·.size) = some 2 := by kernel_rfl
theorem Tryd.liesBuilder : liesAt Tryd.prog Tryd.prog.depth 95 (2 / Tryd.prog.cellsOf 95) 0 95 1 = true := by kernel_rfl
theorem Tryd.cellsByte : Tryd.prog.cellsOf 5 = 1 := by kernel_rfl

/-- block b is a builder of the call's own, which holds these bytes -/
def Bld (w : World) (B b : Nat) (l : List UInt8) : Prop := Lib.IsBuilder 95 5 B b (cells l) w
theorem Bld.new (w : World) : Bld (w.alloc (.cells #[.pointer none, .slice none 0 0] 95)) w.heap.size w.heap.size [] := Lib.fresh_isBuilder _ _ w
theorem Bld.lt {w : World} {B b : Nat} {l : List UInt8} (h : Bld w B b l) : b < w.heap.size := by rcases h with h | h <;> exact h.lt
theorem Bld.form {w : World} {B b : Nat} {l : List UInt8} (h : Bld w B b l) : ∃ p v, B ≤ b ∧ w.heap[b]? = some (.cells #[p, v] 95 (0, 0)) ∧ w.ownsRow B 5 1 v (cells l).length (cells l) ∧ v.ownBlock ≠ some b := by
  rcases h with ⟨hB, v, hb, ho, hn⟩ | ⟨hB, v, hb, ho, hn⟩ <;> exact ⟨_, _, hB, hb, ho, hn⟩
theorem builder_below {w w' : World} {B b : Nat} {p : Value} {bs : List Value} (h : Lib.BuilderAt 95 5 B b p bs w) (hb : Below w.heap.size w w') : Lib.BuilderAt 95 5 B b p bs w' := by
  have hlt := h.lt
  obtain ⟨hB, v, hbk, ho, hn⟩ := h
  refine ⟨hB, v, (hb.block b hlt).trans hbk, World.ownsRow.kept (row := none) ho ⟨hb.os, hb.tape, hb.output, hb.size, fun k hk _ => hb.block k hk⟩ ?_, hn⟩
  rcases ho.2 with ⟨rfl, _⟩ | ⟨g, cap, cur, rfl, _⟩
  · exact .inl rfl
  · exact .inr (by simp [Value.ownBlock])
theorem Bld.below {w w' : World} {B b : Nat} {l : List UInt8} (h : Bld w B b l) (hb : Below w.heap.size w w') : Bld w' B b l := by
  rcases h with h | h
  · exact .inl (builder_below h hb)
  · exact .inr (builder_below h hb)
theorem Bld.alloc {w : World} {B b : Nat} {l : List UInt8} (h : Bld w B b l) (o : Obj) : Bld (w.alloc o) B b l := h.below ((Below.refl _ _).alloc (Nat.le_refl _) _)

/-- a write into a builder leaves every other block that is no row of bytes -/
def Keeps (b : Nat) (w w' : World) : Prop := ∀ (c : Nat) (cs : Array Value) (t : TypeId) (fr : Nat × Nat), w.heap[c]? = some (.cells cs t fr) → c ≠ b → t ≠ 5 → w'.heap[c]? = some (.cells cs t fr)
theorem Keeps.refl (b : Nat) (w : World) : Keeps b w w := fun _ _ _ _ h _ _ => h
theorem Keeps.trans {b : Nat} {w w' w'' : World} (h : Keeps b w w') (h' : Keeps b w' w'') : Keeps b w w'' := fun c cs t fr hc hb ht => h' c cs t fr (h c cs t fr hc hb ht) hb ht
theorem Keeps.setCell (b i : Nat) (w : World) (u : Value) : Keeps b w (w.setCell ⟨b, i, none⟩ u) := fun _ _ _ _ hc hb _ => (Below.heap_setCell w ⟨b, i, none⟩ u _ hb).trans hc
theorem Keeps.alloc (b : Nat) (w : World) (o : Obj) : Keeps b w (w.alloc o) := fun c _ _ _ hc _ _ => (Below.heap_alloc w o c (Array.getElem?_eq_some_iff.1 hc).1).trans hc
theorem Keeps.grown {b B n : Nat} {w w0 w' : World} {v : Value} {xs : List Value} (hown : w.ownsRow B 5 1 v n xs) (h0 : Keeps b w w0) (hg : w0.grownBy w' v.ownBlock) : Keeps b w w' := fun c cs t fr hc hb ht => by
  have h1 := h0 c cs t fr hc hb ht
  refine (hg.block c (Array.getElem?_eq_some_iff.1 h1).1 fun e => ?_).trans h1
  rcases hown.2 with ⟨rfl, _⟩ | ⟨g, cap, cur, rfl, _, hgg, _⟩
  · simp [Value.ownBlock] at e
  · have : c = g := by simpa [Value.ownBlock] using e
    subst this
    rw [hc] at hgg
    injection hgg with hgg
    injection hgg with _ ht'
    exact ht ht'
theorem Keeps.below {b : Nat} {w w' : World} (h : Below w.heap.size w w') : Keeps b w w' := fun c _ _ _ hc _ _ => (h.block c (Array.getElem?_eq_some_iff.1 hc).1).trans hc

set_option maxRecDepth 100000 in
theorem copyCheck_any (B b : Nat) (bs : List Value) (w : World) (h : Lib.IsBuilder 95 5 B b bs w) :
    Calls Tryd.prog 57 #[.pointer (some ⟨b, 0, none⟩)] w fun e w' => e = .returned (.tuple #[]) ∧ (Lib.BuilderAt 95 5 B b (.pointer (some ⟨b, 0, none⟩)) bs w' ∧ Below B w w' ∧ Keeps b w w') := by
  obtain ⟨j, hj, hjs⟩ := Option.map_eq_some_iff.1 Tryd.sizeBuilder
  rcases h with h | h
  · have h0 := h.cell0
    have hsh := h.shape
    have hfz := h.frozen0
    go_enter Tryd.func57, Tryd.ntmps57
    go_wp2
    rw [Lib.run_to_unsafe w ⟨b, 0, none⟩ Tryd.underlying93 Tryd.underlying125 hj (by rw [hjs]; decide) hsh (Nat.zero_lt_succ 1)]
    simp only [Result.andThen]
    rw [Oper.upon_value]
    go_wp2
    rw [run_callFunc_extern Tryd.func71 (by kernel_rfl) (by kernel_rfl) (by kernel_rfl) (e := Extern.AbiNoEscape.same) (by kernel_rfl)]
    rw [Lib.run_noEscape]
    simp only [Result.andThen]
    rw [Oper.upon_value]
    go_wp2
    rw [Lib.run_from_unsafe w ⟨b, 0, none⟩ Tryd.underlying125 Tryd.underlying93 hj hsh Tryd.liesBuilder]
    simp only [Result.andThen]
    rw [Oper.upon_value]
    go_wp2
    go_end0
    exact ⟨rfl, h.used _, (Below.refl B w).setCell (p := ⟨b, 0, none⟩) h.1 _, Keeps.setCell _ _ _ _⟩
  · have h0 := h.cell0
    go_enter Tryd.func57, Tryd.ntmps57
    go_wp2
    rw [Lib.run_neq_ptr_same w _ Tryd.underlying93 hj]
    go_wp2
    go_end0
    exact ⟨rfl, h, Below.refl B _, Keeps.refl _ _⟩

set_option maxRecDepth 100000 in
set_option maxHeartbeats 1000000 in
theorem writeByte_any (B b : Nat) (l : List UInt8) (c : UInt8) (w : World) (h : Bld w B b l) (hlen : l.length + 1 ≤ 140737488355328) (hBw : B ≤ w.heap.size) :
    Calls Tryd.prog 46 #[.pointer (some ⟨b, 0, none⟩), .int .u8 c.toNat] w fun e w' => e = .returned .nilIface ∧ Bld w' B b (l ++ [c]) ∧ Below B w w' ∧ Keeps b w w' := by
  obtain ⟨i0, hi, hz0, hz1, hz2⟩ := info_parts Tryd.infoByte
  have hcl : (cells l).length = l.length := by simp [cells]
  go_enter Tryd.func46, Tryd.ntmps46
  go_wp2_with (go_at_call 57; refine (copyCheck_any B b (cells l) _ h).mono ?_)
  rintro e w1 ⟨rfl, h1, hb1, hk1⟩
  obtain ⟨hB, v, hbk, hown, hne⟩ := h1
  have c0 : w1.cell? ⟨b, 0, none⟩ = some (.pointer (some ⟨b, 0, none⟩)) := by rw [Lib.cell_of_heap hbk]; rfl
  have c1 : w1.cell? ⟨b, 1, none⟩ = some v := by rw [Lib.cell_of_heap hbk]; rfl
  have hs1 := hb1.size
  go_wp2_with (at_builtin; refine wpList_append_own _ rfl _ _ 38 rfl B 5 i0 (.int .u8 0) 1 1 Tryd.underlying38 hi hz0 hz1 hz2 rfl (by decide) _ _ _ rfl (hown.alloc _) ⟨_, 0, none⟩ 1 1 [.int .u8 c.toNat] rfl rfl (new_cells _ #[_] _) (one_cell _) (by unfold maxLen; omega) (by omega) (by simp; omega) ?_)
  intro v' w2 hown' hgrow _
  have hlt : b < w1.heap.size := (Array.getElem?_eq_some_iff.1 hbk).1
  have hb2 : w2.heap[b]? = some (.cells #[.pointer (some ⟨b, 0, none⟩), v] 95 (0, 0)) := by
    rw [hgrow.block b (by simp; omega) (fun e => hne e.symm), Lib.alloc_old w1 _ b hlt]
    exact hbk
  have d0 : w2.cell? ⟨b, 0, none⟩ = some (.pointer (some ⟨b, 0, none⟩)) := by rw [Lib.cell_of_heap hb2]; rfl
  have d1 : w2.cell? ⟨b, 1, none⟩ = some v := by rw [Lib.cell_of_heap hb2]; rfl
  have f1 : w2.frozen? ⟨b, 1, none⟩ = false := Lib.frozen_of_heap hb2 1
  obtain ⟨ao, n', cap, rfl⟩ : ∃ ao n' cap, v' = .slice ao n' cap := by
    rcases hown'.2 with ⟨hv, _⟩ | ⟨g, cap, cur, hv, _⟩
    · exact ⟨_, _, _, hv⟩
    · exact ⟨_, _, _, hv⟩
  go_wp2
  go_ret
  refine ⟨rfl, .inr ?_, ?_, ?_⟩
  · rw [show cells (l ++ [c]) = cells l ++ [.int .u8 c.toNat] from cells_app l [c]]
    exact Lib.BuilderAt.put (T := 95) (e := 5) hB hb2 (bs' := cells l ++ [.int .u8 c.toNat]) (v' := .slice ao n' cap) (by simpa [hcl] using hown') (by decide)
  · exact ((hb1.alloc (by omega) _).grown hgrow (by simp; omega) (fun k hk => (hown.lt k hk).1)).setCell (p := ⟨b, 1, none⟩) hB _
  · exact (hk1.trans (Keeps.grown hown (Keeps.alloc _ _ _) hgrow)).trans (Keeps.setCell _ _ _ _)

set_option maxRecDepth 100000 in
set_option maxHeartbeats 1000000 in
theorem writeString_any (B b : Nat) (l : List UInt8) (s : ByteArray) (w : World) (h : Bld w B b l) (hlen : l.length + s.size ≤ 140737488355328) (hBw : B ≤ w.heap.size) :
    Calls Tryd.prog 44 #[.pointer (some ⟨b, 0, none⟩), .string s] w fun e w' => e = .returned (.tuple #[.int .i64 s.size, .nilIface]) ∧ Bld w' B b (l ++ s.data.toList) ∧ Below B w w' ∧ Keeps b w w' := by
  obtain ⟨i0, hi, hz0, hz1, hz2⟩ := info_parts Tryd.infoByte
  have hcl : (cells l).length = l.length := by simp [cells]
  go_enter Tryd.func44, Tryd.ntmps44
  go_wp2_with (go_at_call 57; refine (copyCheck_any B b (cells l) _ h).mono ?_)
  rintro e w1 ⟨rfl, h1, hb1, hk1⟩
  obtain ⟨hB, v, hbk, hown, hne⟩ := h1
  have c0 : w1.cell? ⟨b, 0, none⟩ = some (.pointer (some ⟨b, 0, none⟩)) := by rw [Lib.cell_of_heap hbk]; rfl
  have c1 : w1.cell? ⟨b, 1, none⟩ = some v := by rw [Lib.cell_of_heap hbk]; rfl
  have hs1 := hb1.size
  go_wp2_with (at_builtin; refine Lib.wpList_append_own_string _ rfl _ _ 38 9 rfl B 5 i0 Tryd.underlying38 Tryd.underlying9 hi hz0 hz1 hz2 _ _ _ rfl hown s rfl (by unfold maxLen; omega) (by omega) (by omega) ?_)
  intro v' w2 hown' hgrow _
  have hlt : b < w1.heap.size := (Array.getElem?_eq_some_iff.1 hbk).1
  have hb2 : w2.heap[b]? = some (.cells #[.pointer (some ⟨b, 0, none⟩), v] 95 (0, 0)) := by
    rw [hgrow.block b hlt (fun e => hne e.symm)]
    exact hbk
  have d0 : w2.cell? ⟨b, 0, none⟩ = some (.pointer (some ⟨b, 0, none⟩)) := by rw [Lib.cell_of_heap hb2]; rfl
  have d1 : w2.cell? ⟨b, 1, none⟩ = some v := by rw [Lib.cell_of_heap hb2]; rfl
  have f1 : w2.frozen? ⟨b, 1, none⟩ = false := Lib.frozen_of_heap hb2 1
  obtain ⟨ao, n', cap, rfl⟩ : ∃ ao n' cap, v' = .slice ao n' cap := by
    rcases hown'.2 with ⟨hv, _⟩ | ⟨g, cap, cur, hv, _⟩
    · exact ⟨_, _, _, hv⟩
    · exact ⟨_, _, _, hv⟩
  go_wp2
  go_ret2
  refine ⟨rfl, .inr ?_, ?_, ?_⟩
  · rw [cells_app]
    exact Lib.BuilderAt.put (T := 95) (e := 5) hB hb2 (bs' := cells l ++ Lib.strCells s) (v' := .slice ao n' cap) (by simpa [hcl, Lib.strCells_length] using hown') (by decide)
  · exact (hb1.grown hgrow (by omega) (fun k hk => (hown.lt k hk).1)).setCell (p := ⟨b, 1, none⟩) hB _
  · exact (hk1.trans (Keeps.grown hown (Keeps.refl _ _) hgrow)).trans (Keeps.setCell _ _ _ _)

set_option maxRecDepth 100000 in
set_option maxHeartbeats 1000000 in
theorem bldString_some (B b : Nat) (l : List UInt8) (w : World) (h : Bld w B b l) (h0 : l ≠ []) :
    Calls Tryd.prog 47 #[.pointer (some ⟨b, 0, none⟩)] w fun e w' => e = .returned (.string ⟨l.toArray⟩) ∧ Below B w w' := by
  obtain ⟨p, v, hB, hbk, hown, hne⟩ := h.form
  have hcl : (cells l).length = l.length := by simp [cells]
  have hl0 : l.length ≠ 0 := by simpa using h0
  rw [hcl] at hown
  obtain ⟨g, cap, cur, rfl, hbg, hg, hnc, hcm, hcs, htake⟩ : ∃ g cap cur, v = .slice (some ⟨g, 0, none⟩) l.length cap ∧ B ≤ g ∧ w.heap[g]? = some (.cells cur 5 (0, 0)) ∧ l.length ≤ cap ∧ cap ≤ maxLen ∧ cur.size = cap * 1 ∧ cur.toList.take (l.length * 1) = cells l := by
    rcases hown.2 with ⟨_, hz⟩ | ⟨g, cap, cur, hv, r⟩
    · exact absurd hz hl0
    · exact ⟨g, cap, cur, hv, r⟩
  have c1 : w.drew.cell? ⟨b, 1, none⟩ = some (.slice (some ⟨g, 0, none⟩) l.length cap) := by
    have : w.drew.heap[b]? = some (.cells #[p, .slice (some ⟨g, 0, none⟩) l.length cap] 95 (0, 0)) := hbk
    rw [Lib.cell_of_heap this]; rfl
  have hSD : (Builtin.unsafeSliceData_ #[38] 113 #[.slice (some ⟨g, 0, none⟩) l.length cap]).run Tryd.prog w.drew = .ok (.pointer (some ⟨g, 0, none⟩)) w.drew :=
    Lib.run_unsafeSliceData_row _ _ _ _ _ _ (by omega)
  have hUS : (Builtin.unsafeString_ #[113, 3] 9 #[.pointer (some ⟨g, 0, none⟩), .int .i64 l.length]).run Tryd.prog w.drew = .ok (.string ⟨l.toArray⟩) (w.drew.freeze ⟨g, 0, none⟩ l.length) := by
    refine Lib.run_unsafeString_row w.drew 113 3 9 5 Tryd.underlying113 Tryd.cellsByte g cur.size (by have hg' : w.drew.heap[g]? = some (.cells cur 5 (0, 0)) := hg; simp [World.shape?, hg']) l h0 (by omega) (by unfold maxLen at hcm; omega) ?_
    intro j x hx
    exact hown.cells (g := g) rfl j (.int .u8 x.toNat) (by simp [cells, hx])
  clear hl0 hcs htake hcl
  go_enter Tryd.func47, Tryd.ntmps47
  go_wp2
  go_region
  all_goals (go_wp2; go_ret; exact ⟨rfl, Lib.below_freeze (Below.drew (Below.refl B w)) (p := ⟨g, 0, none⟩) hbg _⟩)
set_option maxRecDepth 100000 in
set_option maxHeartbeats 1000000 in
theorem bldString_none (B b : Nat) (w : World) (h : Bld w B b []) (hBw : B ≤ w.heap.size) :
    Calls Tryd.prog 47 #[.pointer (some ⟨b, 0, none⟩)] w fun e w' => e = .returned (.string ⟨#[]⟩) ∧ Below B w w' := by
  obtain ⟨p, v, hB, hbk, hown, hne⟩ := h.form
  have hlt := h.lt
  have hUS : ∀ (W : World) (q : Option Addr), (Builtin.unsafeString_ #[113, 3] 9 #[.pointer q, .int .i64 0]).run Tryd.prog W = .ok (.string .empty) W := fun W q => Lib.run_unsafeString_none W _ _ _ q
  rcases hown.2 with ⟨rfl, _⟩ | ⟨g, cap, cur, rfl, hbg, hg, _, _, _, _⟩
  · have c1 : w.drew.cell? ⟨b, 1, none⟩ = some (.slice none 0 0) := by
      have : w.drew.heap[b]? = some (.cells #[p, .slice none 0 0] 95 (0, 0)) := hbk
      rw [Lib.cell_of_heap this]; rfl
    have hSD : (Builtin.unsafeSliceData_ #[38] 113 #[.slice none 0 0]).run Tryd.prog w.drew = .ok (.pointer none) w.drew := rfl
    go_enter Tryd.func47, Tryd.ntmps47
    go_wp2
    go_region
    all_goals (go_wp2; go_ret; exact ⟨rfl, Below.drew (Below.refl B w)⟩)
  · have hl : (cells []).length = 0 := rfl
    rw [hl] at hbk hne
    by_cases hc0 : cap = 0
    · subst hc0
      have c1 : w.drew.cell? ⟨b, 1, none⟩ = some (.slice (some ⟨g, 0, none⟩) 0 0) := by
        have : w.drew.heap[b]? = some (.cells #[p, .slice (some ⟨g, 0, none⟩) 0 0] 95 (0, 0)) := hbk
        rw [Lib.cell_of_heap this]; rfl
      have hSD : (Builtin.unsafeSliceData_ #[38] 113 #[.slice (some ⟨g, 0, none⟩) 0 0]).run Tryd.prog w.drew = .ok (.pointer (some ⟨w.drew.heap.size, 0, none⟩)) (w.drew.alloc (.view ⟨g, 0, none⟩ 5)) :=
        Lib.run_unsafeSliceData_zero w.drew _ _ 5 Tryd.underlying113 ⟨g, 0, none⟩ 0 (5, cur.size) (by have hg' : w.drew.heap[g]? = some (.cells cur 5 (0, 0)) := hg; simp [World.shape?, hg'])
      have c2 : (w.drew.alloc (.view ⟨g, 0, none⟩ 5)).cell? ⟨b, 1, none⟩ = some (.slice (some ⟨g, 0, none⟩) 0 0) := by
        have : (w.drew.alloc (.view ⟨g, 0, none⟩ 5)).heap[b]? = _ := (Lib.alloc_old w.drew _ b hlt).trans hbk
        rw [Lib.cell_of_heap this]; rfl
      have c3 : (w.alloc (.view ⟨g, 0, none⟩ 5)).drew.cell? ⟨b, 1, none⟩ = some (.slice (some ⟨g, 0, none⟩) 0 0) := c2
      have c0 : w.cell? ⟨b, 1, none⟩ = some (.slice (some ⟨g, 0, none⟩) 0 0) := c1
      go_enter Tryd.func47, Tryd.ntmps47
      go_wp2
      go_region
      all_goals (go_wp2; go_ret; exact ⟨rfl, (Below.drew (Below.refl B w)).alloc hBw _⟩)
    · have c1 : w.drew.cell? ⟨b, 1, none⟩ = some (.slice (some ⟨g, 0, none⟩) 0 cap) := by
        have : w.drew.heap[b]? = some (.cells #[p, .slice (some ⟨g, 0, none⟩) 0 cap] 95 (0, 0)) := hbk
        rw [Lib.cell_of_heap this]; rfl
      have hSD : (Builtin.unsafeSliceData_ #[38] 113 #[.slice (some ⟨g, 0, none⟩) 0 cap]).run Tryd.prog w.drew = .ok (.pointer (some ⟨g, 0, none⟩)) w.drew :=
        Lib.run_unsafeSliceData_row _ _ _ _ _ _ hc0
      clear hc0
      go_enter Tryd.func47, Tryd.ntmps47
      go_wp2
      go_region
      all_goals (go_wp2; go_ret; exact ⟨rfl, Below.drew (Below.refl B w)⟩)
theorem bldString_any (B b : Nat) (l : List UInt8) (w : World) (h : Bld w B b l) (hBw : B ≤ w.heap.size) :
    Calls Tryd.prog 47 #[.pointer (some ⟨b, 0, none⟩)] w fun e w' => e = .returned (.string ⟨l.toArray⟩) ∧ Below B w w' := by
  cases l with
  | nil => exact bldString_none B b w h hBw
  | cons x r => exact bldString_some B b (x :: r) w h (by simp)
end Go.Proofs.YtkbjpgfdmkmbmaaDoor
namespace Go.Proofs.YtkbjpgfdmkmbmaaDoor
open Go.ChangeShapes Go.WideShapes Go.ChangeAt Go.RowKit

/-- hash.rounds and the printing table are as laid -/
structure NumIn (w : World) : Prop where
  rounds : RoundsIn w
  tab : TabIn w.heap.size w
theorem NumIn.later {w w' : World} (h : NumIn w) (hb : Below w.heap.size w w') : NumIn w' := ⟨h.rounds.below hb, (h.tab.below hb).more hb.size⟩
theorem pow_data15 : (Rows.laid_internal_strconv_uint64pow10 : DataW Unit) = Lib.tabData .u64 Lib.pow10Tab := by kernel_rfl
theorem tPow15 : (Tryd.prog.globals[1]?).map (·.type) = some 152 := by kernel_rfl
theorem cellsU64_15 : Tryd.prog.cellsOf 114 = 1 := by kernel_rfl
theorem cellsPow15 : Tryd.prog.cellsOf 152 = 20 := by kernel_rfl
theorem pow_at : (listed.drop 3).head? = some ("internal/strconv.uint64pow10", Rows.laid_internal_strconv_uint64pow10) := by kernel_rfl
theorem numIn_of_laid {W : World} (h : laidMetH Tryd.prog listed W) : NumIn W := by
  refine ⟨roundsIn_of_laid h, ?_⟩
  rw [MakeChecks.laidMetH_plain _ _ _ listed_plain] at h
  have h := laidMet_drop 3 _ h
  have hp := pow_at
  cases hd : listed.drop 3 with
  | nil => rw [hd] at hp; cases hp
  | cons x r =>
    rw [hd] at hp h
    obtain rfl : x = _ := Option.some.inj hp
    rw [pow_data15] at h
    have hT := Lib.tabIs_of_head gPow tPow15 Tryd.underlying152 Tryd.underlying114 cellsU64_15 cellsPow15 h
    refine ⟨hT, Nat.lt_of_not_le fun hle => ?_⟩
    have h0 := hT.cell gPow 0 (by decide)
    have : W.cell? ⟨1, 0, none⟩ = none := by simp [World.cell?, Array.getElem?_eq_none hle]
    rw [this] at h0; cases h0
end Go.Proofs.YtkbjpgfdmkmbmaaDoor
namespace Go.Proofs.YtkbjpgfdmkmbmaaDoor
open Go.ChangeShapes Go.WideShapes Go.ChangeAt Go.RowKit
set_option linter.unusedVariables false

theorem Tryd.laidOutBy : laidOutB Tryd.prog = true := by kernel_rfl
theorem Tryd.cellsByteO : Tryd.prog.cellsOf 5 = 1 := by kernel_rfl
set_option maxRecDepth 100000 in
/-- what is read of a slice of bytes: the bytes -/
theorem open_bytes {H : Type} {enc : TypeId × Value → H} {W : World} {base : Nat} {v : Value} {d : DataW H} {ps : List MemPlace} (hval : Value.okWide Tryd.prog W .any base 38 v)
    (hd : DataW.Trod enc Tryd.prog W 0 (fun _ => true) true 38 v d ps) (hlt : ∀ x ∈ ps, x.block < W.heap.size) (hwt : ∀ n ∈ d.weights Tryd.prog 38, n ≤ reachBytes) :
    ∃ (A : Option Addr) (c : Nat) (l : List UInt8), v = .slice A l.length c ∧ RdAt W (.slice A l.length c) l := by
  have hv2 := hval
  obtain ⟨a0, len, cap, rfl⟩ := okWide_slice Tryd.underlying38 hval
  obtain ⟨fuel, hf⟩ := hd
  rcases Go.Deep.open_slice1 Tryd.underlying38 Tryd.cellsByteO hf with ⟨hcs, hx⟩ | ⟨a, len', cap', m, n, V, D, Pl, hcs, _, hl, hm, hmm, hx, hi⟩
  · simp [Value.cells] at hcs
    obtain ⟨rfl, rfl, rfl⟩ := hcs
    exact ⟨none, 0, [], rfl, RdAt.nil _⟩
  · simp [Value.cells] at hcs
    obtain ⟨rfl, rfl, rfl⟩ := hcs
    simp only [Value.okWide, Cell.okWide, Cell.ok, Tryd.underlying38] at hv2
    obtain ⟨_, hcap, -, hspot, row, cells0, hshape, -⟩ := hv2
    obtain ⟨g, o, spot⟩ := a
    obtain rfl : spot = none := hspot
    have hg : g < W.heap.size := by
      unfold World.shape? at hshape
      split at hshape
      · rename_i hgb
        exact (Array.getElem?_eq_some_iff.1 hgb).1
      · cases hshape
    have hall : ∀ i, ∃ x : UInt8, i < m → W.cell? ((⟨g, o, none⟩ : Addr).add i) = some (.int .u8 (x.toNat : Int)) := by
      intro i
      by_cases him : i < m
      · obtain ⟨h1, h2⟩ := hi i him
        obtain ⟨n', hn', _, hw⟩ := DataW.trod_int Tryd.underlying5 h2
        obtain ⟨c, rfl⟩ := byte_ex hw
        rw [List.singleton_inj] at hn'
        exact ⟨c, fun _ => by rw [h1, hn']⟩
      · exact ⟨0, fun h => absurd h him⟩
    obtain ⟨f, hf⟩ := Classical.axiomOfChoice hall
    simp only [if_true] at hmm
    refine ⟨some ⟨g, o, none⟩, cap, (List.range len).map f, by simp, some ⟨g, o, none⟩, cap, rfl, by simpa using hl, ?_, .inr ⟨g, o, rfl, hg, fun j u hu => ?_⟩⟩
    · have : IntKind.i64.max = 9223372036854775807 := by decide
      omega
    · have hj : j < len := by
        have := (List.getElem?_eq_some_iff.1 hu).1
        simpa [cells] using this
      rw [hf j (by omega)]
      simp [cells, hj] at hu
      rw [← hu]
end Go.Proofs.YtkbjpgfdmkmbmaaDoor
namespace Go.Proofs.YtkbjpgfdmkmbmaaDoor
open Go.ChangeShapes Go.WideShapes Go.ChangeAt Go.RowKit
set_option linter.unusedVariables false

theorem spot_none_b {W : World} {a : Addr} {v : Value} (h : W.cell? a = some v) : a = ⟨a.block, a.off, none⟩ ∧ a.block < W.heap.size := by
  obtain ⟨b, o, sp⟩ := a
  unfold World.cell? at h
  split at h
  · rename_i hb
    cases sp with
    | none => exact ⟨rfl, (Array.getElem?_eq_some_iff.1 hb).1⟩
    | some z => simp at h
  · cases h
set_option maxRecDepth 100000 in
/-- a cell that is a slice of bytes, as bytes -/
theorem bytes_of_trod {H : Type} {enc : TypeId × Value → H} {W : World} {fuel : Nat} {cs : List Value} {x : DataW H × List MemPlace}
    (h : DataW.trod enc Tryd.prog W 0 (fun _ => true) true fuel 38 cs = some x) :
    ∃ (A : Option Addr) (c : Nat) (l : List UInt8), cs = [.slice A l.length c] ∧ RdW W (.slice A l.length c) l := by
  rcases Go.Deep.open_slice1 Tryd.underlying38 Tryd.cellsByteO h with ⟨rfl, rfl⟩ | ⟨a, len, cap, m, n, V, D, Pl, rfl, _, hl, hm, hmm, rfl, hi⟩
  · exact ⟨none, 0, [], rfl, (RdAt.nil _).weak⟩
  · simp only [if_true] at hmm
    subst hmm
    have hm2 : m ≤ 9223372036854775807 := by unfold maxLen at hm; omega
    by_cases h0 : m = 0
    · subst h0
      obtain rfl : len = 0 := by omega
      exact ⟨some a, 0, [], rfl, some a, 0, rfl, Nat.le_refl _, Nat.zero_le _, .inl ⟨rfl, rfl⟩⟩
    · obtain ⟨he, hg⟩ := spot_none_b (hi 0 (by omega)).1
      have he : a = ⟨a.block, a.off, none⟩ := by
        obtain ⟨b, o, sp⟩ := a
        simp only [Addr.add] at he
        injection he with e1 e2 e3
        simp only at e3 ⊢
        rw [e3]
      have hg : a.block < W.heap.size := by simpa [Addr.add] using hg
      have hall : ∀ i, ∃ x : UInt8, i < m → W.cell? (a.add i) = some (.int .u8 (x.toNat : Int)) := by
        intro i
        by_cases him : i < m
        · obtain ⟨h1, h2⟩ := hi i him
          obtain ⟨n', hn', _, hw⟩ := DataW.trod_int Tryd.underlying5 h2
          obtain ⟨c, rfl⟩ := byte_ex hw
          rw [List.singleton_inj] at hn'
          exact ⟨c, fun _ => by rw [h1, hn']⟩
        · exact ⟨0, fun h => absurd h him⟩
      obtain ⟨f, hf⟩ := Classical.axiomOfChoice hall
      refine ⟨some a, m, (List.range len).map f, by simp, some a, m, rfl, by simpa using hl, hm2, .inr ⟨a.block, a.off, by rw [← he], hg, fun j u hu => ?_⟩⟩
      have hj : j < len := by
        have := (List.getElem?_eq_some_iff.1 hu).1
        simpa [cells] using this
      rw [← he, hf j (by omega)]
      simp [cells, hj] at hu
      rw [← hu]
end Go.Proofs.YtkbjpgfdmkmbmaaDoor
namespace Go.Proofs.YtkbjpgfdmkmbmaaDoor
open Go.ChangeShapes Go.WideShapes Go.ChangeAt Go.RowKit
set_option linter.unusedVariables false

theorem Tryd.cellsChange : Tryd.prog.cellsOf 41 = 3 := by kernel_rfl
theorem Tryd.cellsStrC : Tryd.prog.cellsOf 9 = 1 := by kernel_rfl
theorem Tryd.cellsBoolC : Tryd.prog.cellsOf 4 = 1 := by kernel_rfl
theorem Tryd.bytesChange : Tryd.prog.bytesOf 41 = 40 := by kernel_rfl
theorem weightsAll_inC {H : Type} {P : Program} {e : TypeId} : ∀ {l : List (DataW H)} {d : DataW H}, d ∈ l → ∀ n ∈ d.weights P e, n ∈ DataW.weightsAll P e l
  | d0 :: l, d, hd, n, hn => by
    simp only [DataW.weightsAll, List.mem_append]
    rcases List.mem_cons.1 hd with rfl | h
    · exact Or.inl hn
    · exact Or.inr (weightsAll_inC h n hn)
set_option maxRecDepth 100000 in
/-- three cells that read as a change -/
theorem open_change {H : Type} {enc : TypeId × Value → H} {W : World} {n : Nat} {cs : List Value} {x : DataW H × List MemPlace}
    (h : DataW.trod enc Tryd.prog W 0 (fun _ => true) true n 41 cs = some x) : ∃ a : Ch, cs = [tv a.key, tv a.value, .bool a.gone] ∧ ∃ y, x.1 = .agg [.lit (.string a.key), .lit (.string a.value), y] := by
  obtain ⟨xs, m, _, hx, hlen, hxl, hf⟩ := DataW.trod_struct Tryd.underlying41 h
  rw [Tryd.cellsChange] at hlen
  match cs, hlen with
  | [c0, c1, c2], _ =>
    have h0 : DataW.trod enc Tryd.prog W 0 (fun _ => true) true m 9 [c0] = xs[0]? := by
      have := hf 0 { name := "Key", type := 9, offset := 0, embedded := false, tag := "", pkgPath := "", byteOffset := 0 } rfl
      rwa [Tryd.cellsStrC] at this
    have h1 : DataW.trod enc Tryd.prog W 0 (fun _ => true) true m 9 [c1] = xs[1]? := by
      have := hf 1 { name := "Value", type := 9, offset := 1, embedded := false, tag := "", pkgPath := "", byteOffset := 16 } rfl
      rwa [Tryd.cellsStrC] at this
    have h2 : DataW.trod enc Tryd.prog W 0 (fun _ => true) true m 4 [c2] = xs[2]? := by
      have := hf 2 { name := "Gone", type := 4, offset := 2, embedded := false, tag := "", pkgPath := "", byteOffset := 32 } rfl
      rwa [Tryd.cellsBoolC] at this
    match xs, hxl with
    | [y0, y1, y2], _ =>
      simp only [List.getElem?_cons_zero, List.getElem?_cons_succ] at h0 h1 h2
      obtain ⟨a, ha, ya, _⟩ := DataW.trod_string Tryd.underlying9 h0
      obtain ⟨b, hb, yb, _⟩ := DataW.trod_string Tryd.underlying9 h1
      obtain ⟨g, hg, yg⟩ := DataW.trod_bool Tryd.underlying4 h2
      rw [List.singleton_inj] at ha hb hg
      refine ⟨⟨a.data.toList, b.data.toList, g⟩, ?_, .lit (.bool g), ?_⟩
      · rw [ha, hb, hg]; simp [tv]
      · rw [hx, ya, yb, yg]; rfl
set_option maxRecDepth 100000 in
/-- what is read of a slice of changes -/
theorem open_changes {H : Type} {enc : TypeId × Value → H} {W : World} {base : Nat} {v : Value} {d : DataW H} {ps : List MemPlace} (hval : Value.okWide Tryd.prog W .any base 30 v)
    (hd : DataW.Trod enc Tryd.prog W 0 (fun _ => true) true 30 v d ps) (hlt : ∀ x ∈ ps, x.block < W.heap.size) (hwt : ∀ n ∈ d.weights Tryd.prog 30, n ≤ reachBytes) :
    ∃ (A : Option Addr) (c : Nat) (l : List Ch), v = .slice A l.length c ∧ RdC W (.slice A l.length c) l ∧ (∀ g, (Value.slice A l.length c).ownBlock = some g → l.length ≠ 0 → g < W.heap.size) ∧ l.length ≤ 200000000000000 ∧ ∀ x ∈ l, x.key.length ≤ 200000000000000 ∧ x.value.length ≤ 200000000000000 := by
  have hreach : reachBytes ≤ 200000000000000 := by decide
  obtain ⟨a0, len, cap, rfl⟩ := okWide_slice Tryd.underlying30 hval
  obtain ⟨fuel, hf⟩ := hd
  rcases Go.Deep.open_slice Tryd.underlying30 hf with ⟨hcs, hx⟩ | ⟨a, len', cap', m, n, D, Pl, hcs, _, hl, hm, hmm, hx, hi⟩
  · simp [Value.cells] at hcs
    obtain ⟨rfl, rfl, rfl⟩ := hcs
    exact ⟨none, 0, [], rfl, ⟨none, 0, rfl, Nat.le_refl _, fun k a hk => by simp at hk⟩, fun g hg => (by cases hg), Nat.zero_le _, fun x hx => by cases hx⟩
  · simp [Value.cells] at hcs
    obtain ⟨rfl, rfl, rfl⟩ := hcs
    simp only [if_true] at hmm
    subst hmm
    rw [Tryd.cellsChange] at hi hx
    have hsp : 0 < m → a = ⟨a.block, a.off, none⟩ ∧ a.block < W.heap.size := by
      intro h0
      obtain ⟨cs', hc, ht'⟩ := hi 0 h0
      obtain ⟨u, rfl, _⟩ := open_change ht'
      obtain ⟨_, _, hat⟩ := World.cells?_some hc
      have a0 := hat 0 (by simp)
      rw [Nat.zero_mul] at a0
      simp only [Addr.add, if_true] at a0
      exact spot_none_b a0
    have hall : ∀ i, ∃ x : Ch, i < m → a = ⟨a.block, a.off, none⟩ ∧ a.block < W.heap.size ∧ W.cell? ⟨a.block, a.off + i * 3, none⟩ = some (tv x.key) ∧ W.cell? ⟨a.block, a.off + i * 3 + 1, none⟩ = some (tv x.value) ∧ W.cell? ⟨a.block, a.off + i * 3 + 2, none⟩ = some (.bool x.gone) ∧ ∃ y, D i = .agg [.lit (.string x.key), .lit (.string x.value), y] := by
      intro i
      by_cases him : i < m
      · obtain ⟨cs', hc, ht'⟩ := hi i him
        obtain ⟨u, rfl, w1⟩ := open_change ht'
        obtain ⟨_, _, hat⟩ := World.cells?_some hc
        have a0 := hat 0 (by simp)
        have a1 := hat 1 (by simp)
        have a2 := hat 2 (by simp)
        obtain ⟨e1, e2⟩ := hsp (by omega)
        rw [e1, Addr.add_lit, Addr.add_lit] at a0 a1 a2
        exact ⟨u, fun _ => ⟨e1, e2, by simpa using a0, by simpa using a1, by simpa using a2, w1⟩⟩
      · exact ⟨⟨[], [], false⟩, fun h => absurd h him⟩
    obtain ⟨f, hf⟩ := Classical.axiomOfChoice hall
    simp only [Prod.mk.injEq] at hx
    have hlen : len ≤ reachBytes := by
      have := hwt ((len + (m - len)) * Tryd.prog.bytesOf 41) (by rw [hx.1]; simp [DataW.weights, Tryd.underlying30])
      rw [Tryd.bytesChange] at this
      omega
    refine ⟨some a, m, (List.range len).map f, by simp, ⟨some a, m, rfl, by simpa using hl, fun k x hk => ?_⟩, fun g hg h0 => ?_, by simp only [List.length_map, List.length_range]; omega, fun x hx' => ?_⟩
    · obtain ⟨hk1, rfl⟩ := List.getElem?_eq_some_iff.1 hk
      have hk' : k < len := by simpa using hk1
      obtain ⟨h1, h2, h3, h4, h5, h6⟩ := hf k (by omega)
      simp only [List.getElem_map, List.getElem_range]
      exact ⟨a.block, a.off, by rw [← h1], h2, h3, h4, h5⟩
    · have hgg : some a.block = some g := hg
      injection hgg with hgg
      have h0' : len ≠ 0 := by simpa using h0
      rw [← hgg]
      exact (hf 0 (by omega)).2.1
    · obtain ⟨i, hi', rfl⟩ := List.mem_map.1 hx'
      have hil : i < len := by simpa using hi'
      obtain ⟨y, hD⟩ := (hf i (by omega)).2.2.2.2.2
      have hin : D i ∈ (List.range len).map D := List.mem_map.2 ⟨i, by simpa using hil, rfl⟩
      have hmem : ∀ n ∈ (D i).weights Tryd.prog 41, n ≤ reachBytes := fun n hn => hwt n (by
        rw [hx.1]
        simp only [DataW.weights, Tryd.underlying30, List.mem_cons, List.mem_append]
        exact .inr (.inl (weightsAll_inC hin n hn)))
      rw [hD] at hmem
      refine ⟨Nat.le_trans (hmem _ ?_) hreach, Nat.le_trans (hmem _ ?_) hreach⟩ <;> simp [DataW.weights, Tryd.underlying41, DataW.weightsEach]
set_option maxRecDepth 100000 in
/-- a text whose size is told -/
theorem open_textz {H : Type} {enc : TypeId × Value → H} {W : World} {base : Nat} {v : Value} {d : DataW H} {ps : List MemPlace} (hval : Value.okWide Tryd.prog W .any base 9 v)
    (hd : DataW.Trod enc Tryd.prog W 0 (fun _ => true) true 9 v d ps) (_ : ∀ x ∈ ps, x.block < W.heap.size) (hwt : ∀ n ∈ d.weights Tryd.prog 9, n ≤ reachBytes) :
    ∃ x : ByteArray, v = .string x ∧ x.size ≤ 1000000000000000 := by
  obtain ⟨x, rfl, rfl, rfl, _⟩ := Go.ChangeMaps.open_string Tryd.underlying9 hval hd
  have h := hwt x.data.toList.length (by simp [DataW.weights])
  have hr : reachBytes ≤ 1000000000000000 := by decide
  exact ⟨x, rfl, by simpa using Nat.le_trans h hr⟩
end Go.Proofs.YtkbjpgfdmkmbmaaDoor
