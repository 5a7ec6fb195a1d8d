/- Texts merged by program, in build order: Set6, StrsRd. -/
import Derived.Test.YtlcpehmdhnakpaaDoorG01
import Derived.Test.YtlcpehmdhnakpaaDoorG03
set_option linter.unusedVariables false
set_option linter.unusedSimpArgs false
namespace Go.Proofs.YtlcpehmdhnakpaaDoor
open Go.RowKit
set_option linter.unusedVariables false
set_option linter.unusedSimpArgs false

def setK6 (w : World) (b : Nat) (c0 c1 c2 c3 c4 c5 : Value) : World := ((((((w.setCell ⟨b, 0, none⟩ c0).setCell ⟨b, 1, none⟩ c1).setCell ⟨b, 2, none⟩ c2).setCell ⟨b, 3, none⟩ c3).setCell ⟨b, 4, none⟩ c4).setCell ⟨b, 5, none⟩ c5)
theorem setK6_here {w : World} {b : Nat} {c0 c1 c2 c3 c4 c5 x0 x1 x2 x3 x4 x5 : Value} {t : TypeId} {fr : Nat × Nat} (h : w.heap[b]? = some (.cells #[x0, x1, x2, x3, x4, x5] t fr)) : (setK6 w b c0 c1 c2 c3 c4 c5).heap[b]? = some (.cells #[c0, c1, c2, c3, c4, c5] t fr) := by
  have := set_here (o := 5) (set_here (o := 4) (set_here (o := 3) (set_here (o := 2) (set_here (o := 1) (set_here (o := 0) h c0) c1) c2) c3) c4) c5
  unfold setK6
  simpa using this
theorem setK6_below {w w' : World} {b B : Nat} (h : Below B w w') (hb : B ≤ b) (c0 c1 c2 c3 c4 c5 : Value) : Below B w (setK6 w' b c0 c1 c2 c3 c4 c5) := by
  unfold setK6
  exact (((((h.setCell (p := ⟨b, 0, none⟩) hb c0).setCell (p := ⟨b, 1, none⟩) hb c1).setCell (p := ⟨b, 2, none⟩) hb c2).setCell (p := ⟨b, 3, none⟩) hb c3).setCell (p := ⟨b, 4, none⟩) hb c4).setCell (p := ⟨b, 5, none⟩) hb c5
theorem cellsK6_of {w : World} {b : Nat} {c0 c1 c2 c3 c4 c5 : Value} {t : TypeId} (h : w.heap[b]? = some (.cells #[c0, c1, c2, c3, c4, c5] t)) : (w.cell? ⟨b, 0, none⟩ = some c0 ∧ w.cell? ⟨b, 1, none⟩ = some c1 ∧ w.cell? ⟨b, 2, none⟩ = some c2 ∧ w.cell? ⟨b, 3, none⟩ = some c3 ∧ w.cell? ⟨b, 4, none⟩ = some c4 ∧ w.cell? ⟨b, 5, none⟩ = some c5) ∧ (w.frozen? ⟨b, 0, none⟩ = false ∧ w.frozen? ⟨b, 1, none⟩ = false ∧ w.frozen? ⟨b, 2, none⟩ = false ∧ w.frozen? ⟨b, 3, none⟩ = false ∧ w.frozen? ⟨b, 4, none⟩ = false ∧ w.frozen? ⟨b, 5, none⟩ = false) :=
  ⟨⟨cell_here h, cell_here h, cell_here h, cell_here h, cell_here h, cell_here h⟩, ⟨frozen_here h _, frozen_here h _, frozen_here h _, frozen_here h _, frozen_here h _, frozen_here h _⟩⟩
end Go.Proofs.YtlcpehmdhnakpaaDoor
namespace Go.Proofs.YtlcpehmdhnakpaaDoor
open Go.RowKit
set_option linter.unusedVariables false
set_option linter.unusedSimpArgs false

theorem scells_tv (l : List (List UInt8)) : scells l = tcells l := rfl
/-- a row of the call's own reads as its texts -/
theorem Strs.rd {w : World} {B : Nat} {v : Value} {l : List (List UInt8)} (h : Strs w B v l) : RdT w v l := by
  have hc := fun g => World.ownsRow.cells (g := g) h
  rcases h.2 with ⟨hv, h0⟩ | ⟨g, cap, cur, hv, hB, hg, hcap, _⟩
  · exact ⟨none, 0, by rw [hv, h0], by omega, fun k r hk => by rw [List.eq_nil_of_length_eq_zero h0] at hk; cases hk⟩
  · refine ⟨_, cap, hv, hcap, fun k x hk => ⟨g, 0, rfl, (Array.getElem?_eq_some_iff.1 hg).1, ?_⟩⟩
    have := hc g (by rw [hv]; rfl) k (tv x) (by rw [scells_tv]; unfold tcells; rw [List.getElem?_map, hk]; rfl)
    rwa [Addr.add_lit] at this
theorem RdT.drop16 {w : World} {A : Option Addr} {n c m : Nat} {l : List (List UInt8)} (h : RdT w (.slice A n c) l) (hn : l.length = n) (hm : m ≤ n) : RdT w (.slice (if c = m then A else A.map (·.add (m * 1))) (n - m) (c - m)) (l.drop m) := by
  obtain ⟨A', c', e, hc, h⟩ := h
  cases e
  refine ⟨_, _, by rw [List.length_drop], by rw [List.length_drop]; omega, fun k x hk => ?_⟩
  rw [List.getElem?_drop] at hk
  obtain ⟨g, o, rfl, hg, h1⟩ := h _ _ hk
  have hlt := (List.getElem?_eq_some_iff.1 hk).1
  rw [if_neg (by omega)]
  refine ⟨g, o + m * 1, by simp [Addr.add_lit], hg, ?_⟩
  rw [show o + m * 1 + k = o + (m + k) by omega]
  exact h1
theorem split_ne (c : UInt8) (s : List UInt8) : splitL c s ≠ [] := fun e => by
  have h2 := splitL_at c s
  rw [e] at h2
  split at h2 <;> cases h2
end Go.Proofs.YtlcpehmdhnakpaaDoor
