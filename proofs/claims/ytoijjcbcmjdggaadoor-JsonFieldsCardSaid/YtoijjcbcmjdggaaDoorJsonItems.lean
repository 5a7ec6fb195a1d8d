/- JSON: the text of the first so many items. -/
import Derived.Test.YtoijjcbcmjdggaaDoorJsonGood
namespace Go.Proofs.YtoijjcbcmjdggaaDoor

theorem items_nil : V.items [] = [] := by unfold V.items; rfl
theorem itemsMore_nil : V.itemsMore [] = [] := by unfold V.itemsMore; rfl
theorem itemsMore_cons (v : V) (r : List V) : V.itemsMore (v :: r) = 44 :: (v.show ++ V.itemsMore r) := by conv => lhs; unfold V.itemsMore
theorem pairs_nil (ks : List (List UInt8)) : V.pairs [] ks = [] := by unfold V.pairs; rfl
theorem pairsMore_nil (ks : List (List UInt8)) : V.pairsMore [] ks = [] := by unfold V.pairsMore; rfl
theorem pairsMore_cons (v : V) (r : List V) (ks : List (List UInt8)) : V.pairsMore (v :: r) ks = 44 :: (quoteJ (ks.headD []) ++ 58 :: (v.show ++ V.pairsMore r ks.tail)) := by conv => lhs; unfold V.pairsMore
theorem itemsMore_app (a b : List V) : V.itemsMore (a ++ b) = V.itemsMore a ++ V.itemsMore b := by
  induction a with
  | nil => rw [itemsMore_nil]; rfl
  | cons v a ih => rw [List.cons_append, itemsMore_cons, itemsMore_cons, ih]; simp
theorem items_app (v : V) (a b : List V) : V.items (v :: a ++ b) = V.items (v :: a) ++ V.itemsMore b := by
  rw [List.cons_append, items_cons, items_cons, itemsMore_app, List.append_assoc]
theorem pairsMore_app (a b : List V) : ∀ ks : List (List UInt8), V.pairsMore (a ++ b) ks = V.pairsMore a ks ++ V.pairsMore b (ks.drop a.length) := by
  induction a with
  | nil => intro ks; rw [pairsMore_nil]; rfl
  | cons v a ih =>
    intro ks
    rw [List.cons_append, pairsMore_cons, pairsMore_cons, ih]
    have e : ks.tail.drop a.length = ks.drop (v :: a).length := by rw [List.length_cons]; cases ks <;> simp
    rw [e]; simp
theorem pairs_app (v : V) (a b : List V) (ks : List (List UInt8)) : V.pairs (v :: a ++ b) ks = V.pairs (v :: a) ks ++ V.pairsMore b (ks.drop (a.length + 1)) := by
  rw [List.cons_append, pairs_cons, pairs_cons, pairsMore_app]
  have e : ks.tail.drop a.length = ks.drop (a.length + 1) := by cases ks <;> simp
  rw [e]; simp
theorem items_zero (l : List V) : V.items (l.take 0) = [] := by rw [List.take_zero]; exact items_nil
theorem items_one (l : List V) (h : 0 < l.length) : V.items (l.take (0 + 1)) = l[0].show := by
  obtain ⟨v, r, rfl⟩ : ∃ v r, l = v :: r := by cases l with | nil => simp at h | cons v r => exact ⟨v, r, rfl⟩
  show V.items [v] = _
  rw [items_cons, itemsMore_nil, List.append_nil]; rfl
theorem items_next (l : List V) (j : Nat) (h : j < l.length) (h0 : 0 < j) : V.items (l.take (j + 1)) = V.items (l.take j) ++ (44 : UInt8) :: l[j].show := by
  rw [List.take_succ_eq_append_getElem h]
  obtain ⟨v, r, e⟩ : ∃ v r, l.take j = v :: r := by
    cases hl : l.take j with
    | nil => have := congrArg List.length hl; rw [List.length_take, List.length_nil] at this; omega
    | cons v r => exact ⟨v, r, rfl⟩
  rw [e, items_app, itemsMore_cons, itemsMore_nil, List.append_nil]
theorem pairs_zero (l : List V) (ks : List (List UInt8)) : V.pairs (l.take 0) ks = [] := by rw [List.take_zero]; exact pairs_nil ks
theorem pairs_one (l : List V) (ks : List (List UInt8)) (h : 0 < l.length) (hk : 0 < ks.length) : V.pairs (l.take (0 + 1)) ks = quoteJ ks[0] ++ (58 : UInt8) :: l[0].show := by
  obtain ⟨v, r, rfl⟩ : ∃ v r, l = v :: r := by cases l with | nil => simp at h | cons v r => exact ⟨v, r, rfl⟩
  obtain ⟨k, s, rfl⟩ : ∃ v r, ks = v :: r := by cases ks with | nil => simp at hk | cons v r => exact ⟨v, r, rfl⟩
  show V.pairs [v] (k :: s) = _
  rw [pairs_cons, pairsMore_nil, List.append_nil]; rfl
theorem pairs_next (l : List V) (ks : List (List UInt8)) (j : Nat) (h : j < l.length) (hk : j < ks.length) (h0 : 0 < j) : V.pairs (l.take (j + 1)) ks = V.pairs (l.take j) ks ++ (44 : UInt8) :: (quoteJ ks[j] ++ (58 : UInt8) :: l[j].show) := by
  rw [List.take_succ_eq_append_getElem h]
  have hlen : (l.take j).length = j := by rw [List.length_take]; omega
  obtain ⟨v, r, e⟩ : ∃ v r, l.take j = v :: r := by
    cases hl : l.take j with
    | nil => have := congrArg List.length hl; rw [hlen] at this; simp at this; omega
    | cons v r => exact ⟨v, r, rfl⟩
  rw [e] at hlen ⊢
  have e2 : r.length + 1 = j := by simpa using hlen
  rw [pairs_app, pairsMore_cons, pairsMore_nil, List.append_nil, e2]
  have e3 : (ks.drop j).headD [] = ks[j] := by rw [List.drop_eq_getElem_cons hk]; rfl
  rw [e3]
theorem items_len (l : List V) (j : Nat) : (V.items (l.take j)).length ≤ (V.items l).length := by
  by_cases hz : l.take j = []
  · rw [hz, items_nil]; simp
  · obtain ⟨v, r, e⟩ : ∃ v r, l.take j = v :: r := by
      cases hl : l.take j with
      | nil => exact absurd hl hz
      | cons v r => exact ⟨v, r, rfl⟩
    have : V.items l = V.items (l.take j) ++ V.itemsMore (l.drop j) := by
      conv => lhs; rw [← List.take_append_drop j l]
      rw [e, items_app]
    rw [this, List.length_append]; omega
theorem pairs_len (l : List V) (ks : List (List UInt8)) (j : Nat) : (V.pairs (l.take j) ks).length ≤ (V.pairs l ks).length := by
  by_cases hz : l.take j = []
  · rw [hz, pairs_nil]; simp
  · obtain ⟨v, r, e⟩ : ∃ v r, l.take j = v :: r := by
      cases hl : l.take j with
      | nil => exact absurd hl hz
      | cons v r => exact ⟨v, r, rfl⟩
    have : V.pairs l ks = V.pairs (l.take j) ks ++ V.pairsMore (l.drop j) (ks.drop (r.length + 1)) := by
      conv => lhs; rw [← List.take_append_drop j l]
      rw [e, pairs_app]
    rw [this, List.length_append]; omega
theorem show_one (n : Int) (t : List UInt8) (l : List V) (ks : List (List UInt8)) : (V.mk 1 n t l ks).show = nullT := by unfold V.show; simp
theorem show_two (n : Int) (t : List UInt8) (l : List V) (ks : List (List UInt8)) : (V.mk 2 n t l ks).show = if n = 1 then trueT else falseT := by unfold V.show; simp
theorem show_three (n : Int) (t : List UInt8) (l : List V) (ks : List (List UInt8)) : (V.mk 3 n t l ks).show = decI n := by unfold V.show; simp
theorem show_four (n : Int) (t : List UInt8) (l : List V) (ks : List (List UInt8)) : (V.mk 4 n t l ks).show = quoteJ t := by unfold V.show; simp
/-- a good list's items are good -/
theorem good_item {k n : Int} {t : List UInt8} {l : List V} {ks : List (List UInt8)} (h : (V.mk k n t l ks).good = true) (i : Nat) (hi : i < l.length) : l[i].good = true := by
  rw [good_mk, Bool.and_eq_true, goods_iff] at h
  exact h.2 i hi
theorem good_head {k n : Int} {t : List UInt8} {l : List V} {ks : List (List UInt8)} (h : (V.mk k n t l ks).good = true) : HeadIs k n t l.length ks := by
  rw [good_mk, Bool.and_eq_true] at h
  exact head_says h.1
end Go.Proofs.YtoijjcbcmjdggaaDoor
