/- Five cells stored, one behind the other. -/
import Derived.Test.YtobicmpgfiddhaaDoorJsonGood
import Derived.Test.YtobicmpgfiddhaaDoorCellar
namespace Go.Proofs.YtobicmpgfiddhaaDoor
open Go.RowKit

/-- five cells set -/
def set5 (w : World) (b o : Nat) (c0 c1 c2 c3 c4 : Value) : World := ((((w.setCell ⟨b, o, none⟩ c0).setCell ⟨b, o + 1, none⟩ c1).setCell ⟨b, o + 2, none⟩ c2).setCell ⟨b, o + 3, none⟩ c3).setCell ⟨b, o + 4, none⟩ c4
theorem set5_there {w : World} {b o b' : Nat} {c0 c1 c2 c3 c4 : Value} (h : b' ≠ b) : (set5 w b o c0 c1 c2 c3 c4).heap[b']? = w.heap[b']? := by
  unfold set5; rw [set_there _ h, set_there _ h, set_there _ h, set_there _ h, set_there _ h]
theorem set5_size (w : World) (b o : Nat) (c0 c1 c2 c3 c4 : Value) : (set5 w b o c0 c1 c2 c3 c4).heap.size = w.heap.size := by
  unfold set5; rw [set_size, set_size, set_size, set_size, set_size]
theorem set5_here {w : World} {b o : Nat} {c0 c1 c2 c3 c4 : Value} {C : Array Value} {t : TypeId} {fr : Nat × Nat} (h : w.heap[b]? = some (.cells C t fr)) :
    (set5 w b o c0 c1 c2 c3 c4).heap[b]? = some (.cells (((((C.setIfInBounds o c0).setIfInBounds (o + 1) c1).setIfInBounds (o + 2) c2).setIfInBounds (o + 3) c3).setIfInBounds (o + 4) c4) t fr) := by
  unfold set5; exact set_here (set_here (set_here (set_here (set_here h c0) c1) c2) c3) c4
theorem set5_five {w : World} {b o : Nat} {c0 c1 c2 c3 c4 : Value} {C : Array Value} {t : TypeId} {fr : Nat × Nat} (h : w.heap[b]? = some (.cells C t fr)) (ho : o + 5 ≤ C.size) : Five (set5 w b o c0 c1 c2 c3 c4) b o [c0, c1, c2, c3, c4] := by
  have hh := set5_here (o := o) (c0 := c0) (c1 := c1) (c2 := c2) (c3 := c3) (c4 := c4) h
  refine ⟨c0, c1, c2, c3, c4, rfl, ?_, ?_, ?_, ?_, ?_⟩ <;> rw [cell_here hh] <;> simp [Array.getElem?_setIfInBounds] <;> omega
theorem set5_other {w : World} {b o : Nat} {c0 c1 c2 c3 c4 : Value} {C : Array Value} {t : TypeId} {fr : Nat × Nat} (h : w.heap[b]? = some (.cells C t fr)) {q : Nat} (hq : q < o ∨ o + 5 ≤ q) : (set5 w b o c0 c1 c2 c3 c4).cell? ⟨b, q, none⟩ = w.cell? ⟨b, q, none⟩ := by
  have hh := set5_here (o := o) (c0 := c0) (c1 := c1) (c2 := c2) (c3 := c3) (c4 := c4) h
  rw [cell_here hh, cell_here h]
  simp only [Array.getElem?_setIfInBounds]
  rw [if_neg (by omega), if_neg (by omega), if_neg (by omega), if_neg (by omega), if_neg (by omega)]
theorem set5_below {w : World} {b o B : Nat} {c0 c1 c2 c3 c4 : Value} (hB : B ≤ b) : Below B w (set5 w b o c0 c1 c2 c3 c4) := by
  unfold set5
  exact (((((Below.refl B w).setCell (p := ⟨b, o, none⟩) hB c0).setCell (p := ⟨b, o + 1, none⟩) hB c1).setCell (p := ⟨b, o + 2, none⟩) hB c2).setCell (p := ⟨b, o + 3, none⟩) hB c3).setCell (p := ⟨b, o + 4, none⟩) hB c4
theorem five_other {w : World} {b o : Nat} {c0 c1 c2 c3 c4 : Value} {C : Array Value} {t : TypeId} {fr : Nat × Nat} (h : w.heap[b]? = some (.cells C t fr)) {q : Nat} {cs : List Value} (hf : Five w b q cs) (hq : q + 5 ≤ o) : Five (set5 w b o c0 c1 c2 c3 c4) b q cs := by
  obtain ⟨d0, d1, d2, d3, d4, e, m0, m1, m2, m3, m4⟩ := hf
  exact ⟨d0, d1, d2, d3, d4, e, (set5_other h (.inl (by omega))).trans m0, (set5_other h (.inl (by omega))).trans m1, (set5_other h (.inl (by omega))).trans m2, (set5_other h (.inl (by omega))).trans m3, (set5_other h (.inl (by omega))).trans m4⟩
/-- cells in a row of five that a block holds -/
theorem five_of {w : World} {b o : Nat} {C : Array Value} {t : TypeId} {fr : Nat × Nat} (h : w.heap[b]? = some (.cells C t fr)) (ho : o + 5 ≤ C.size) : ∃ c0 c1 c2 c3 c4, w.cell? ⟨b, o, none⟩ = some c0 ∧ w.cell? ⟨b, o + 1, none⟩ = some c1 ∧ w.cell? ⟨b, o + 2, none⟩ = some c2 ∧ w.cell? ⟨b, o + 3, none⟩ = some c3 ∧ w.cell? ⟨b, o + 4, none⟩ = some c4 := by
  refine ⟨C[o]'(by omega), C[o + 1]'(by omega), C[o + 2]'(by omega), C[o + 3]'(by omega), C[o + 4]'(by omega), ?_, ?_, ?_, ?_, ?_⟩ <;> rw [cell_here h] <;> exact Array.getElem?_eq_getElem _
theorem there5 {W : World} {q g k0 k1 k2 k3 k4 : Nat} {c0 c1 c2 c3 c4 : Value} (h : q ≠ g) :
    (((((W.setCell ⟨g, k0, none⟩ c0).setCell ⟨g, k1, none⟩ c1).setCell ⟨g, k2, none⟩ c2).setCell ⟨g, k3, none⟩ c3).setCell ⟨g, k4, none⟩ c4).heap[q]? = W.heap[q]? := by
  rw [set_there _ h, set_there _ h, set_there _ h, set_there _ h, set_there _ h]
theorem cell5 {W : World} {q o g k0 k1 k2 k3 k4 : Nat} {c0 c1 c2 c3 c4 : Value} (h : q ≠ g) :
    (((((W.setCell ⟨g, k0, none⟩ c0).setCell ⟨g, k1, none⟩ c1).setCell ⟨g, k2, none⟩ c2).setCell ⟨g, k3, none⟩ c3).setCell ⟨g, k4, none⟩ c4).cell? ⟨q, o, none⟩ = W.cell? ⟨q, o, none⟩ := cell_block (there5 h)
theorem box_of {w : World} {b : Nat} {c0 c1 c2 c3 c4 : Value} {t : TypeId} (h : w.heap[b]? = some (.cells #[c0, c1, c2, c3, c4] t (0, 0))) : Box w b c0 c1 c2 c3 c4 ∧ w.frozen? ⟨b, 0, none⟩ = false ∧ w.frozen? ⟨b, 1, none⟩ = false ∧ w.frozen? ⟨b, 2, none⟩ = false ∧ w.frozen? ⟨b, 3, none⟩ = false ∧ w.frozen? ⟨b, 4, none⟩ = false :=
  ⟨⟨cell_here h, cell_here h, cell_here h, cell_here h, cell_here h⟩, frozen_here h _, frozen_here h _, frozen_here h _, frozen_here h _, frozen_here h _⟩
end Go.Proofs.YtobicmpgfiddhaaDoor
