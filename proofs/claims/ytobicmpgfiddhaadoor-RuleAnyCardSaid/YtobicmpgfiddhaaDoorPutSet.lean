/- An object that is being built: one of its values is another one. -/
import Derived.Test.YtobicmpgfiddhaaDoorJsonRows
import Derived.Laws.OwnMore
namespace Go.Proofs.YtobicmpgfiddhaaDoor
open Go.RowKit
set_option linter.unusedVariables false
set_option linter.unusedSimpArgs false

def put5 (xs : List Value) (j : Nat) (c0 c1 c2 c3 c4 : Value) : List Value := ((((xs.set j c0).set (j + 1) c1).set (j + 2) c2).set (j + 3) c3).set (j + 4) c4
theorem put5_at {xs : List Value} {j : Nat} (h : j + 5 ≤ xs.length) (c0 c1 c2 c3 c4 : Value) : (put5 xs j c0 c1 c2 c3 c4)[j]? = some c0 ∧ (put5 xs j c0 c1 c2 c3 c4)[j + 1]? = some c1 ∧ (put5 xs j c0 c1 c2 c3 c4)[j + 2]? = some c2 ∧ (put5 xs j c0 c1 c2 c3 c4)[j + 3]? = some c3 ∧ (put5 xs j c0 c1 c2 c3 c4)[j + 4]? = some c4 := by
  unfold put5
  refine ⟨?_, ?_, ?_, ?_, ?_⟩ <;> simp [List.getElem?_set] <;> omega
theorem put5_other {xs : List Value} {j k : Nat} (h : k < j ∨ j + 5 ≤ k) (c0 c1 c2 c3 c4 : Value) : (put5 xs j c0 c1 c2 c3 c4)[k]? = xs[k]? := by
  unfold put5
  rw [List.getElem?_set_ne (by omega), List.getElem?_set_ne (by omega), List.getElem?_set_ne (by omega), List.getElem?_set_ne (by omega), List.getElem?_set_ne (by omega)]
theorem OSt.put {B p L N : Nat} {w wr : World} {g c : Nat} {kv : Value} {l : List V} {ks : List (List UInt8)} {xs : List Value} (h : OSt B p L N w wr (.slice (some ⟨g, 0, none⟩) l.length c) kv l ks xs) (j : Nat) (hj : j < l.length) (x : V) {c0 c1 c2 c3 c4 : Value} (hx : VIs w L N x [c0, c1, c2, c3, c4]) :
    OSt B p L N w (set5 wr g (j * 5) c0 c1 c2 c3 c4) (.slice (some ⟨g, 0, none⟩) l.length c) kv (l.set j x) ks (put5 xs (j * 5) c0 c1 c2 c3 c4) := by
  have hone := five_oneR hx
  have hgp : g ≠ p := fun e => h.far (by rw [e]; rfl)
  have hgB : B ≤ g := (h.rowL.lt g rfl).1
  have hlen : xs.length = l.length * 5 := h.rowL.1
  have hr : (set5 wr g (j * 5) c0 c1 c2 c3 c4).ownsRow B 25 5 (.slice (some ⟨g, 0, none⟩) l.length c) l.length (put5 xs (j * 5) c0 c1 c2 c3 c4) := by
    have r0 := (h.rowL.stored (j * 5) c0).1
    have r1 := (r0.stored (j * 5 + 1) c1).1
    have r2 := (r1.stored (j * 5 + 2) c2).1
    have r3 := (r2.stored (j * 5 + 3) c3).1
    exact (r3.stored (j * 5 + 4) c4).1
  refine ⟨(set5_there (Ne.symm hgp)).trans h.var, by rw [List.length_set]; exact hr, own_kept h.rowK fun g' hg' => set5_there (fun e => ?_), h.far, fun i hi => ?_, h.low.trans (set5_below hgB)⟩
  · exact own_apart h.rowL h.rowK (by decide) g rfl (by rw [← e]; exact hg')
  · rw [List.length_set] at hi
    by_cases hij : i = j
    · subst hij
      obtain ⟨e0, e1, e2, e3, e4⟩ := put5_at (xs := xs) (j := i * 5) (by omega) c0 c1 c2 c3 c4
      exact ⟨c0, c1, c2, c3, c4, e0, e1, e2, e3, e4, by rw [List.getElem_set_self]; exact hx⟩
    · obtain ⟨d0, d1, d2, d3, d4, e0, e1, e2, e3, e4, hv⟩ := h.elem i hi
      have ho : ∀ k, k < 5 → (put5 xs (j * 5) c0 c1 c2 c3 c4)[i * 5 + k]? = xs[i * 5 + k]? := fun k hk => put5_other (by omega) c0 c1 c2 c3 c4
      exact ⟨d0, d1, d2, d3, d4, (ho 0 (by decide)).trans e0, (ho 1 (by decide)).trans e1, (ho 2 (by decide)).trans e2, (ho 3 (by decide)).trans e3, (ho 4 (by decide)).trans e4, by rw [List.getElem_set_ne (Ne.symm hij)]; exact hv⟩
end Go.Proofs.YtobicmpgfiddhaaDoor
