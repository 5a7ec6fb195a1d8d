/- Eight words in an array: shifted by one, added to. -/
import Derived.Test.YtdflghphjhejdaaDoorSum4
namespace Go.Proofs.YtdflghphjhejdaaDoor
open Go.RowKit

def S8.get (s : S8) : Nat → UInt32
  | 0 => s.a
  | 1 => s.b
  | 2 => s.c
  | 3 => s.d
  | 4 => s.e
  | 5 => s.f
  | 6 => s.g
  | _ => s.h
/-- an array of eight words -/
def eightC (f : Nat → UInt32) : Array Value := #[.int .u32 ((f 0).toNat : Int), .int .u32 ((f 1).toNat : Int), .int .u32 ((f 2).toNat : Int), .int .u32 ((f 3).toNat : Int), .int .u32 ((f 4).toNat : Int), .int .u32 ((f 5).toNat : Int), .int .u32 ((f 6).toNat : Int), .int .u32 ((f 7).toNat : Int)]
theorem eightC_at (f : Nat → UInt32) (i : Nat) (h : i < 8) : (eightC f)[i]? = some (.int .u32 ((f i).toNat : Int)) := by
  match i, h with
  | 0, _ => rfl
  | 1, _ => rfl
  | 2, _ => rfl
  | 3, _ => rfl
  | 4, _ => rfl
  | 5, _ => rfl
  | 6, _ => rfl
  | 7, _ => rfl
theorem eightC_set (f : Nat → UInt32) (i : Nat) (h : i < 8) (x : UInt32) : (eightC f).setIfInBounds i (.int .u32 (x.toNat : Int)) = eightC (fun j => if j = i then x else f j) := by
  match i, h with
  | 0, _ => rfl
  | 1, _ => rfl
  | 2, _ => rfl
  | 3, _ => rfl
  | 4, _ => rfl
  | 5, _ => rfl
  | 6, _ => rfl
  | 7, _ => rfl
theorem eightC_congr {f g : Nat → UInt32} (h : ∀ i, i < 8 → f i = g i) : eightC f = eightC g := by
  unfold eightC
  rw [h 0 (by decide), h 1 (by decide), h 2 (by decide), h 3 (by decide), h 4 (by decide), h 5 (by decide), h 6 (by decide), h 7 (by decide)]
theorem eightC_s (s : S8) : h0Cells s = eightC s.get := rfl
/-- shifted by one, down to j -/
def shiftF (s : S8) (j i : Nat) : UInt32 := if j < i then s.get (i - 1) else s.get i
theorem shiftF_next (s : S8) (j : Nat) (h : 0 < j) (h7 : j ≤ 7) : (eightC (shiftF s j)).setIfInBounds j (.int .u32 ((s.get (j - 1)).toNat : Int)) = eightC (shiftF s (j - 1)) := by
  rw [eightC_set _ _ (by omega)]
  apply eightC_congr
  intro i hi
  unfold shiftF
  by_cases e : i = j
  · subst e; rw [if_pos rfl, if_pos (by omega)]
  · rw [if_neg e]
    by_cases e2 : j < i
    · rw [if_pos e2, if_pos (by omega)]
    · rw [if_neg e2, if_neg (by omega)]
theorem shiftF_start (s : S8) : eightC (shiftF s 7) = h0Cells s := by
  rw [eightC_s]; apply eightC_congr; intro i hi; unfold shiftF; rw [if_neg (by omega)]
/-- added, up to i -/
def sumF (h s : S8) (k i : Nat) : UInt32 := if i < k then addW (h.get i) (s.get i) else h.get i
theorem sumF_next (h s : S8) (k : Nat) (hk : k < 8) : (eightC (sumF h s k)).setIfInBounds k (.int .u32 ((addW (h.get k) (s.get k)).toNat : Int)) = eightC (sumF h s (k + 1)) := by
  rw [eightC_set _ _ hk]
  apply eightC_congr
  intro i hi
  unfold sumF
  by_cases e : i = k
  · subst e; rw [if_pos rfl, if_pos (by omega)]
  · rw [if_neg e]
    by_cases e2 : i < k
    · rw [if_pos e2, if_pos (by omega)]
    · rw [if_neg e2, if_neg (by omega)]
theorem sumF_start (h s : S8) : eightC (sumF h s 0) = h0Cells h := by
  rw [eightC_s]; apply eightC_congr; intro i hi; unfold sumF; rw [if_neg (by omega)]
theorem sumF_end (h s : S8) : eightC (sumF h s 8) = h0Cells (addS h s) := rfl
theorem shiftF_end (s : S8) (x y : UInt32) : ((eightC (shiftF s 0)).setIfInBounds 4 (.int .u32 ((addW s.d x).toNat : Int))).setIfInBounds 0 (.int .u32 ((addW x y).toNat : Int)) = h0Cells ⟨addW x y, s.a, s.b, s.c, addW s.d x, s.e, s.f, s.g⟩ := rfl
theorem cell_of_heap {w : World} {b : Nat} {C : Array Value} {t : TypeId} {fr : Nat × Nat} (h : w.heap[b]? = some (.cells C t fr)) (k : Nat) : w.cell? ⟨b, k, none⟩ = C[k]? := by
  show (match w.heap[b]? with | some (.cells cs _ _) => cs[k]? | _ => none) = _
  rw [h]
theorem heap_set_cell {w : World} {b k : Nat} {C : Array Value} {t : TypeId} (h : w.heap[b]? = some (.cells C t)) (v : Value) : (w.setCell ⟨b, k, none⟩ v).heap[b]? = some (.cells (C.setIfInBounds k v) t) := by
  rw [setCell_eq_setRow w b k C t (0, 0) v h, setRow_heap w b _ _ t _ h]
theorem frozen_of_heap {w : World} {b k : Nat} {C : Array Value} {t : TypeId} (h : w.heap[b]? = some (.cells C t)) : w.frozen? ⟨b, k, none⟩ = false := by
  show (match w.heap[b]? with | some (.cells _ _ (lo, hi)) => decide (lo ≤ k) && decide (k < hi) | _ => false) = false
  rw [h]; simp
end Go.Proofs.YtdflghphjhejdaaDoor
