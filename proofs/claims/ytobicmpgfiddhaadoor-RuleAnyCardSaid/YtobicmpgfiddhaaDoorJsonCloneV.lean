/- JSON: slices.Clone of a row of values. -/
import Derived.Test.YtobicmpgfiddhaaDoorJsonGood
import Derived.Lib.SliceRun
import Derived.Deep.WholeRow
namespace Go.Proofs.YtobicmpgfiddhaaDoor
open Go.RowKit
set_option linter.unusedVariables false
set_option linter.unusedSimpArgs false

theorem Tryd.infoValue : (Tryd.prog.info? 25).map (fun i => (i.zero, i.size, i.bytes)) = some (some (.agg #[.int .i64 0, .int .i64 0, .string ⟨#[]⟩, .slice none 0 0, .slice none 0 0]), 5, 80) := by kernel_rfl
/-- a row of values of the call's own, in block g -/
def VRow (w : World) (B g nl : Nat) : Prop := B ≤ g ∧ g < w.heap.size ∧ ∃ C : Array Value, w.heap[g]? = some (.cells C 25 (0, 0)) ∧ nl * 5 ≤ C.size
set_option maxRecDepth 100000 in
set_option maxHeartbeats 1000000 in
theorem cloneV_any (l : List V) (A : Option Addr) (c L N : Nat) (w : World) (hl : l.length ≤ 1000000) (hN : N ≤ w.heap.size) (h : l = [] ∨ ∃ b o, A = some ⟨b, o, none⟩ ∧ LIs w L N l b o) :
    Calls Tryd.prog 72 #[.slice A l.length c] w fun e w' => (∃ A' c', e = .returned (.slice A' l.length c') ∧ (l = [] ∨ ∃ g, A' = some ⟨g, 0, none⟩ ∧ VRow w' w.heap.size g l.length)) ∧ Below w.heap.size w w' := by
  obtain ⟨i0, hi, hz0, hz1, hz2⟩ := info_parts Tryd.infoValue
  have heq := fun (W : World) (a : Option Addr) (n c : Nat) => Lib.run_eql_slice_nil (P := Tryd.prog) W 22 25 a n c 0 0 Tryd.underlying22
  cases A with
  | none =>
    have hl0 : l = [] := by
      rcases h with h | ⟨b, o, e, _⟩
      · exact h
      · cases e
    subst hl0
    have heq0 := fun (W : World) => heq W none 0 c
    simp only [Option.isNone_none] at heq0
    show Calls Tryd.prog _ #[.slice none 0 c] w _
    clear heq h
    go_enter Tryd.func72, Tryd.ntmps72
    go_wp2
    go_ret
    exact ⟨⟨none, 0, rfl, .inl trivial⟩, Below.refl _ _⟩
  | some a =>
    obtain ⟨news, n1, n2, n3⟩ : ∃ news : List Value, news.length = l.length * 5 ∧ (∀ (o : Obj) j u, news[j]? = some u → (w.alloc o).cell? (a.add j) = some u) ∧ ∀ u ∈ news, u.oneCell' = true := by
      rcases h with rfl | ⟨b, o, e, h⟩
      · exact ⟨[], rfl, by simp, by simp⟩
      · obtain ⟨news, n1, n2, n3⟩ := h.flat
        injection e with e; subst e
        refine ⟨news, n1, ?_, n3⟩
        intro ob j u hu
        have h2 := n2 j u hu
        rw [Addr.add_lit]
        refine (((Below.refl w.heap.size w).alloc (Nat.le_refl _) ob).cell (p := ⟨b, o + j, none⟩) ?_).trans h2
        show b < w.heap.size
        refine Nat.lt_of_not_le fun hle => ?_
        have : w.cell? ⟨b, o + j, none⟩ = none := by simp [World.cell?, Array.getElem?_eq_none hle]
        rw [this] at h2; cases h2
    obtain ⟨nl, hnl⟩ : ∃ nl, l.length = nl := ⟨_, rfl⟩
    have NL := Lib.hid hnl
    rw [hnl] at hl n1 ⊢
    clear hnl h
    go_enter Tryd.func72, Tryd.ntmps72
    have hown : (w.alloc (.cells #[] 25)).ownsRow w.heap.size 25 5 (.slice (some ⟨w.heap.size, 0, none⟩) 0 0) 0 [] := ⟨by simp, Or.inr ⟨w.heap.size, 0, #[], rfl, Nat.le_refl _, heap_alloc_last w _, Nat.le_refl _, by unfold maxLen; decide, by simp, by simp⟩⟩
    go_wp2_with (at_builtin; refine wpList_append_own _ rfl (.tmp 5) (.tmp 6) 22 rfl w.heap.size 25 i0 _ 5 80 Tryd.underlying22 hi hz0 hz1 hz2 rfl (by decide) _ _ _ rfl hown a nl c news rfl n1 (n2 _) n3 (by unfold maxLen; omega) (by omega) (by simp) ?_)
    intro v' w1 hown' hg' _
    have hb1 : Below w.heap.size w w1 := ((Below.refl w.heap.size w).alloc (Nat.le_refl _) _).grown hg' (by simp) (fun j hj => (hown.lt j hj).1)
    obtain ⟨A', c', rfl, hr⟩ : ∃ A' c', v' = .slice A' nl c' ∧ (l = [] ∨ ∃ g, A' = some ⟨g, 0, none⟩ ∧ VRow w1 w.heap.size g nl) := by
      rcases hown'.2 with ⟨rfl, h0⟩ | ⟨g, cap, cur, rfl, hB, hg, h1, h2, h3, h4⟩
      · have : nl = 0 := by omega
        subst this
        exact ⟨none, 0, rfl, .inl (List.length_eq_zero_iff.1 NL.out)⟩
      · refine ⟨_, _, rfl, .inr ⟨g, rfl, hB, (Array.getElem?_eq_some_iff.1 hg).1, cur, hg, by omega⟩⟩
    go_wp2
    go_ret
    exact ⟨⟨_, _, rfl, hr⟩, hb1⟩
end Go.Proofs.YtobicmpgfiddhaaDoor
