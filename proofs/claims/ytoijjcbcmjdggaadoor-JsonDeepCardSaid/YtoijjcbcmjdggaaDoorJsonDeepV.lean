/- JSON: lists in lists, and lists of nothing, as values; what Parse answers of a good value's text. -/
import Derived.Test.YtoijjcbcmjdggaaDoorJsonGood
namespace Go.Proofs.YtoijjcbcmjdggaaDoor

theorem parseV_show {v : V} (hg : v.good = true) (hl : v.show.length ≤ 4096) : parseV v.show = if v.fits 8 then (v, 0) else (V.zero, 4) := by
  unfold parseV
  rw [if_neg (by omega), readV_of (s := v.show) (v := v) ⟨⟨_, good_fits hg⟩, rfl⟩ hl]
/-- a list in a list, so many times -/
def nestV : Nat → V
  | 0 => .mk 5 0 [] [] []
  | k + 1 => .mk 5 0 [] [nestV k] []
def nestT : Nat → List UInt8
  | 0 => []
  | k + 1 => 91 :: (nestT k ++ [93])
theorem nestT_len : ∀ k, (nestT k).length = 2 * k
  | 0 => rfl
  | k + 1 => by unfold nestT; rw [List.length_cons, List.length_append, nestT_len k]; simp; omega
theorem nest_show : ∀ k, (nestV k).show = nestT (k + 1)
  | 0 => by unfold nestV; rw [show_list]; unfold V.items; rfl
  | k + 1 => by
    unfold nestV
    rw [show_list, items_cons, nest_show k]
    conv => rhs; unfold nestT
    unfold V.itemsMore; simp
theorem nest_depth : ∀ k, (nestV k).depth = k + 1
  | 0 => by unfold nestV; rw [depth_mk, depths_nil]
  | k + 1 => by unfold nestV; rw [depth_mk, depths_cons, depths_nil, nest_depth k]; omega
theorem head_list (l : List V) (h : l.length ≤ 64) : headB 5 0 [] l.length [] = true := by
  unfold headB unlikeB; simp [h]
theorem nest_good : ∀ k, (nestV k).good = true
  | 0 => by unfold nestV; rw [good_mk, goods_nil]; exact (Bool.and_true _).trans (head_list [] (by decide))
  | k + 1 => by unfold nestV; rw [good_mk, goods_cons, goods_nil, nest_good k]; exact (Bool.and_true _).trans (head_list [nestV k] (by simp))
theorem nest_fits (k : Nat) : (nestV k).fits 8 = decide (k + 1 ≤ 8) := by rw [fits_good, nest_good, nest_depth]; simp
theorem nest_parse (k : Nat) (h : k < 12) : parseV (nestT (k + 1)) = if k + 1 ≤ 8 then (nestV k, 0) else (V.zero, 4) := by
  have := parseV_show (nest_good k) (by rw [nest_show, nestT_len]; omega)
  rw [nest_show, nest_fits] at this
  rw [this]; simp
def nullV : V := .mk 1 0 [] [] []
def nullsV (m : Nat) : V := .mk 5 0 [] (List.replicate m nullV) []
theorem null_good : nullV.good = true := by unfold nullV; rw [good_mk, goods_nil]; decide
theorem null_depth : nullV.depth = 1 := by unfold nullV; rw [depth_mk, depths_nil]
theorem nulls_fits (m : Nat) : (nullsV m).fits 8 = decide (m ≤ 64) := by
  unfold nullsV
  rw [fits_good, good_mk, depth_mk]
  have h1 : V.goods (List.replicate m nullV) = true := (goods_iff _).2 fun i hi => by rw [List.getElem_replicate]; exact null_good
  have h2 : V.depths (List.replicate m nullV) ≤ 1 := (depths_iff _ 1).2 fun i hi => by rw [List.getElem_replicate, null_depth]; exact Nat.le_refl _
  rw [h1, decide_eq_true (show 1 + V.depths (List.replicate m nullV) ≤ 8 by omega), List.length_replicate]
  unfold headB unlikeB; simp
end Go.Proofs.YtoijjcbcmjdggaaDoor
