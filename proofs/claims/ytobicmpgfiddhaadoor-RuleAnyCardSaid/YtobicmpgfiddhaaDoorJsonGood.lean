/- JSON: how deep a value is, and whether it is good but for that. -/
import Derived.Test.YtobicmpgfiddhaaDoorJsonMem
namespace Go.Proofs.YtobicmpgfiddhaaDoor
open Go.RowKit

mutual
def V.depth : V → Nat
  | .mk _ _ _ l _ => 1 + V.depths l
def V.depths : List V → Nat
  | [] => 0
  | v :: r => max v.depth (V.depths r)
end
mutual
/-- good, however deep -/
def V.good : V → Bool
  | .mk k n t l ks => headB k n t l.length ks && V.goods l
def V.goods : List V → Bool
  | [] => true
  | v :: r => v.good && V.goods r
end
theorem depth_mk (k n : Int) (t : List UInt8) (l : List V) (ks : List (List UInt8)) : (V.mk k n t l ks).depth = 1 + V.depths l := by conv => lhs; unfold V.depth
theorem depths_cons (v : V) (r : List V) : V.depths (v :: r) = max v.depth (V.depths r) := by conv => lhs; unfold V.depths
theorem depths_nil : V.depths [] = 0 := by unfold V.depths; rfl
theorem good_mk (k n : Int) (t : List UInt8) (l : List V) (ks : List (List UInt8)) : (V.mk k n t l ks).good = (headB k n t l.length ks && V.goods l) := by conv => lhs; unfold V.good
theorem goods_cons (v : V) (r : List V) : V.goods (v :: r) = (v.good && V.goods r) := by conv => lhs; unfold V.goods
theorem goods_nil : V.goods [] = true := by unfold V.goods; rfl
theorem goods_iff (l : List V) : V.goods l = true ↔ ∀ i (h : i < l.length), l[i].good = true := by
  induction l with
  | nil => simp [goods_nil]
  | cons v r ih =>
    rw [goods_cons, Bool.and_eq_true, ih]
    constructor
    · intro ⟨h1, h2⟩ i hi
      cases i with
      | zero => exact h1
      | succ i => exact h2 i (by simpa using hi)
    · intro h
      exact ⟨h 0 (by simp), fun i hi => h (i + 1) (by simpa using hi)⟩
theorem depths_iff (l : List V) (d : Nat) : V.depths l ≤ d ↔ ∀ i (h : i < l.length), l[i].depth ≤ d := by
  induction l with
  | nil => simp [depths_nil]
  | cons v r ih =>
    rw [depths_cons]
    constructor
    · intro h i hi
      cases i with
      | zero => show v.depth ≤ d; omega
      | succ i => exact ih.1 (by omega) i (by simpa using hi)
    · intro h
      have h0 := h 0 (by simp)
      have h1 := ih.2 (fun i hi => h (i + 1) (by simpa using hi))
      have h0' : v.depth ≤ d := h0
      omega
theorem fits_mk (k n : Int) (t : List UInt8) (l : List V) (ks : List (List UInt8)) (d : Nat) : (V.mk k n t l ks).fits (d + 1) = (headB k n t l.length ks && V.fitsAll l d) := by conv => lhs; unfold V.fits
theorem fits_zero (v : V) : v.fits 0 = false := by obtain ⟨k, n, t, l, ks⟩ := v; unfold V.fits; rfl
/-- good, and so deep: good, and how deep -/
theorem fits_good : ∀ (d : Nat) (v : V), v.fits d = (decide (v.depth ≤ d) && v.good)
  | 0, v => by
    rw [fits_zero]
    obtain ⟨k, n, t, l, ks⟩ := v
    rw [depth_mk]
    have : decide (1 + V.depths l ≤ 0) = false := by simp
    rw [this]; rfl
  | d + 1, v => by
    obtain ⟨k, n, t, l, ks⟩ := v
    rw [fits_mk, depth_mk, good_mk]
    have h : V.fitsAll l d = (decide (V.depths l ≤ d) && V.goods l) := by
      rw [Bool.eq_iff_iff, fitsAll_iff, Bool.and_eq_true, decide_eq_true_eq, depths_iff, goods_iff]
      constructor
      · intro h
        refine ⟨fun i hi => ?_, fun i hi => ?_⟩
        · have := h l[i] (List.getElem_mem hi)
          rw [fits_good d] at this
          simp only [Bool.and_eq_true, decide_eq_true_eq] at this
          exact this.1
        · have := h l[i] (List.getElem_mem hi)
          rw [fits_good d] at this
          simp only [Bool.and_eq_true, decide_eq_true_eq] at this
          exact this.2
      · intro ⟨h1, h2⟩ v hv
        obtain ⟨i, hi, rfl⟩ := List.getElem_of_mem hv
        rw [fits_good d, h2 i hi]
        simpa using h1 i hi
    rw [h]
    have e : decide (1 + V.depths l ≤ d + 1) = decide (V.depths l ≤ d) := by
      rw [decide_eq_decide]; omega
    rw [e]
    cases headB k n t l.length ks <;> cases decide (V.depths l ≤ d) <;> rfl
theorem good_fits {v : V} (h : v.good = true) : v.fits v.depth = true := by rw [fits_good, h]; simp
theorem fits_isgood {v : V} {d : Nat} (h : v.fits d = true) : v.good = true := by rw [fits_good] at h; simp at h; exact h.2
end Go.Proofs.YtobicmpgfiddhaaDoor
