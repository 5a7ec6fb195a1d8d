/- Rules as they lie in memory: a slice of a text and a slice of texts each. -/
import Derived.Test.YtobicmpgfiddhaaDoorRulePure
import Derived.Test.YtobicmpgfiddhaaDoorTexts
namespace Go.Proofs.YtobicmpgfiddhaaDoor
open Go.RowKit
set_option linter.unusedVariables false
set_option linter.unusedSimpArgs false

/-- a slice that reads as these rules -/
def RdU (w : World) (v : Value) (l : List RU) : Prop :=
  ∃ A c, v = .slice A l.length c ∧ l.length ≤ c ∧ ∀ k r, l[k]? = some r → ∃ g o u, A = some ⟨g, o, none⟩ ∧ g < w.heap.size ∧ w.cell? ⟨g, o + k * 2, none⟩ = some (tv r.op) ∧ w.cell? ⟨g, o + k * 2 + 1, none⟩ = some u ∧ RdT w u r.args
theorem RdU.below {w w' : World} {v : Value} {l : List RU} (h : RdU w v l) (hb : Below w.heap.size w w') : RdU w' v l := by
  obtain ⟨A, c, rfl, hc, h⟩ := h
  refine ⟨A, c, rfl, hc, fun k r hk => ?_⟩
  obtain ⟨g, o, u, rfl, hg, h1, h2, h3⟩ := h k r hk
  have he := hb.block g hg
  exact ⟨g, o, u, rfl, Nat.lt_of_lt_of_le hg hb.size, (World.cell?_of_block he).trans h1, (World.cell?_of_block he).trans h2, h3.below hb⟩
theorem RdU.at {w : World} {A : Option Addr} {c n : Nat} {l : List RU} (h : RdU w (.slice A n c) l) (k : Nat) (hk : k < l.length) : ∃ g o u, A = some ⟨g, o, none⟩ ∧ g < w.heap.size ∧ w.cell? ⟨g, o + k * 2, none⟩ = some (tv l[k].op) ∧ w.cell? ⟨g, o + k * 2 + 1, none⟩ = some u ∧ RdT w u l[k].args := by
  obtain ⟨A', c', e, hc, hA⟩ := h
  cases e
  exact hA k _ (List.getElem?_eq_getElem hk)
/-- a slice of slices of texts: the words of rules -/
def RdX (w : World) (v : Value) (l : List (List (List UInt8))) : Prop :=
  ∃ A c, v = .slice A l.length c ∧ l.length ≤ c ∧ ∀ k r, l[k]? = some r → ∃ g o u, A = some ⟨g, o, none⟩ ∧ g < w.heap.size ∧ w.cell? ⟨g, o + k, none⟩ = some u ∧ RdT w u r
theorem RdX.below {w w' : World} {v : Value} {l : List (List (List UInt8))} (h : RdX w v l) (hb : Below w.heap.size w w') : RdX w' v l := by
  obtain ⟨A, c, rfl, hc, h⟩ := h
  refine ⟨A, c, rfl, hc, fun k r hk => ?_⟩
  obtain ⟨g, o, u, rfl, hg, h1, h2⟩ := h k r hk
  have he := hb.block g hg
  exact ⟨g, o, u, rfl, Nat.lt_of_lt_of_le hg hb.size, (World.cell?_of_block he).trans h1, h2.below hb⟩
theorem RdX.at {w : World} {A : Option Addr} {c n : Nat} {l : List (List (List UInt8))} (h : RdX w (.slice A n c) l) (k : Nat) (hk : k < l.length) : ∃ g o u, A = some ⟨g, o, none⟩ ∧ g < w.heap.size ∧ w.cell? ⟨g, o + k, none⟩ = some u ∧ RdT w u l[k] := by
  obtain ⟨A', c', e, hc, hA⟩ := h
  cases e
  exact hA k _ (List.getElem?_eq_getElem hk)
def RU.words (r : RU) : List (List UInt8) := r.op :: r.args
end Go.Proofs.YtobicmpgfiddhaaDoor
