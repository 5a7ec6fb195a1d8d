/- Slices of texts, as they lie. -/
import Derived.Test.YtobicmpgfiddhaaDoorRdAt
namespace Go.Proofs.YtobicmpgfiddhaaDoor
open Go.RowKit
set_option linter.unusedVariables false
set_option linter.unusedSimpArgs false

def tv (l : List UInt8) : Value := .string ⟨l.toArray⟩
/-- a slice that reads as these texts -/
def RdT (w : World) (v : Value) (l : List (List UInt8)) : Prop :=
  ∃ A c, v = .slice A l.length c ∧ l.length ≤ c ∧ ∀ k x, l[k]? = some x → ∃ g o, A = some ⟨g, o, none⟩ ∧ g < w.heap.size ∧ w.cell? ⟨g, o + k, none⟩ = some (tv x)
theorem RdT.below {w w' : World} {v : Value} {l : List (List UInt8)} (h : RdT w v l) (hb : Below w.heap.size w w') : RdT w' v l := by
  obtain ⟨A, c, rfl, hc, h⟩ := h
  refine ⟨A, c, rfl, hc, fun k r hk => ?_⟩
  obtain ⟨g, o, rfl, hg, h1⟩ := h k r hk
  exact ⟨g, o, rfl, Nat.lt_of_lt_of_le hg hb.size, (World.cell?_of_block (hb.block g hg)).trans h1⟩
theorem rdt_form {w : World} {v : Value} {l : List (List UInt8)} (h : RdT w v l) : ∃ A c, v = .slice A l.length c := by
  obtain ⟨A, c, rfl, _⟩ := h
  exact ⟨A, c, rfl⟩
theorem RdT.at {w : World} {A : Option Addr} {c n : Nat} {l : List (List UInt8)} (h : RdT w (.slice A n c) l) (k : Nat) (hk : k < l.length) : ∃ g o, A = some ⟨g, o, none⟩ ∧ g < w.heap.size ∧ w.cell? ⟨g, o + k, none⟩ = some (tv l[k]) := by
  obtain ⟨A', c', e, hc, hA⟩ := h
  cases e
  exact hA k _ (List.getElem?_eq_getElem hk)
/-- two texts are not the same -/
theorem str_neq (x y : ByteArray) (a b : List UInt8) (hx : x = ⟨a.toArray⟩) (hy : y = ⟨b.toArray⟩) : (!x.toList == y.toList) = !decide (a = b) := by
  rw [hx, hy, ByteArray.toList_eq, ByteArray.toList_eq]
  show (!a == b) = _
  by_cases h : a = b <;> simp [h]
theorem take_eq_step {α : Type} {a b : List α} {k : Nat} (h : a.take k = b.take k) (ha : k < a.length) (hb : k < b.length) (he : a[k] = b[k]) : a.take (k + 1) = b.take (k + 1) := by
  rw [List.take_succ_eq_append_getElem ha, List.take_succ_eq_append_getElem hb, h, he]
theorem Tryd.infoStrK : (Tryd.prog.info? 9).map (fun i => (i.zero, i.size, i.bytes)) = some (some (.string ⟨#[]⟩), 1, 16) := by kernel_rfl
def tcells (l : List (List UInt8)) : List Value := l.map tv
theorem tcells_app (a b : List (List UInt8)) : tcells (a ++ b) = tcells a ++ tcells b := by simp [tcells]
/-- texts of the call's own -/
def TRow (w : World) (B : Nat) (v : Value) (l : List (List UInt8)) : Prop := w.ownsRow B 9 1 v l.length (tcells l)
theorem TRow.cut {w : World} {B n : Nat} {v : Value} {l : List (List UInt8)} {xs : List Value} (h : w.ownsRow B 9 1 v n xs) (hn : n = l.length) (hx : xs = tcells l) : TRow w B v l := by subst hn; subst hx; exact h
theorem TRow.rd {w : World} {B : Nat} {v : Value} {l : List (List UInt8)} (h : TRow w B v l) : RdT w v l := by
  have hc := fun g => World.ownsRow.cells (g := g) h
  rcases h.2 with ⟨rfl, h0⟩ | ⟨g, cap, cur, rfl, hB, hg, h4, h5, _⟩
  · obtain rfl := List.length_eq_zero_iff.1 h0
    exact ⟨none, 0, rfl, Nat.le_refl _, fun k l hk => by simp only [List.getElem?_nil] at hk; cases hk⟩
  · refine ⟨_, cap, rfl, h4, fun k x hk => ⟨g, 0, rfl, (Array.getElem?_eq_some_iff.1 hg).1, ?_⟩⟩
    have := hc g rfl k (tv x) (by unfold tcells; rw [List.getElem?_map, hk]; rfl)
    rwa [Addr.add_lit] at this
/-- a row of texts that has just been made -/
theorem rdt_new {W : World} {R : Nat} {C : Array Value} {t : TypeId} {fr : Nat × Nat} {l : List (List UInt8)} (h : W.heap[R]? = some (.cells C t fr)) (hC : C.toList = tcells l) : RdT W (.slice (some ⟨R, 0, none⟩) l.length l.length) l :=
  ⟨_, _, rfl, Nat.le_refl _, fun k x hk => ⟨R, 0, rfl, (Array.getElem?_eq_some_iff.1 h).1, by
    rw [Nat.zero_add, cell_here h]
    have : C.toList[k]? = some (tv x) := by rw [hC]; unfold tcells; rw [List.getElem?_map, hk]; rfl
    simpa using this⟩⟩
end Go.Proofs.YtobicmpgfiddhaaDoor
