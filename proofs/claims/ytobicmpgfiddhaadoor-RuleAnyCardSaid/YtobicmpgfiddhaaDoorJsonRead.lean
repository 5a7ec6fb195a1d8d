/- JSON: the document's reader reads every good value's text. -/
import Derived.Test.YtobicmpgfiddhaaDoorJsonPure
namespace Go.Proofs.YtobicmpgfiddhaaDoor

mutual
/-- the value at the front, and how many bytes it takes (0: there is none) -/
def valueT : Nat → List UInt8 → V × Nat
  | 0, _ => (V.zero, 0)
  | f + 1, s =>
    if beginsB s nullT then (.mk 1 0 [] [] [], 4) else if beginsB s trueT then (.mk 2 1 [] [] [], 4) else if beginsB s falseT then (.mk 2 0 [] [] [], 5)
    else if beginsB s [34] then (match wordT (s.drop 1) [] 1 with
      | some (t, n) => (.mk 4 0 t [] [], n)
      | none => (.mk 4 0 [] [] [], 0))
    else if beginsB s [91] then (if beginsB (s.drop 1) [93] then (.mk 5 0 [] [] [], 2) else loopT f false (s.drop 1) 1 [] [])
    else if beginsB s [123] then (if beginsB (s.drop 1) [125] then (.mk 6 0 [] [] [], 2) else loopT f true (s.drop 1) 1 [] [])
    else if beginsB s [45] then (match numT (s.drop 1) 17 0 1 with
      | (v, n) => (.mk 3 (-v) [] [] [], n))
    else match numT s 18 0 0 with
      | (v, n) => (.mk 3 v [] [] [], n)
/-- what a list, or an object, holds: what is left, how many bytes are behind, the keys and the values so far -/
def loopT : Nat → Bool → List UInt8 → Nat → List (List UInt8) → List V → V × Nat
  | 0, _, _, _, _, _ => (V.zero, 0)
  | f + 1, obj, s, n, ks, l =>
    match (if obj then (if beginsB s [34] then (match wordT (s.drop 1) [] 1 with
      | some (t, k) => if beginsB (s.drop k) [58] then some (ks ++ [t], k + 1) else none
      | none => none) else none) else some (ks, 0)) with
    | none => (.mk (if obj then 6 else 5) 0 [] l ks, 0)
    | some (ks', j) =>
      match valueT f (s.drop j) with
      | (x, k) =>
        if k = 0 then (.mk (if obj then 6 else 5) 0 [] l ks', 0)
        else if beginsB (s.drop (j + k)) [if obj then 125 else 93] then (.mk (if obj then 6 else 5) 0 [] (l ++ [x]) ks', n + j + k + 1)
        else if beginsB (s.drop (j + k)) [44] then loopT f obj (s.drop (j + k + 1)) (n + j + k + 1) ks' (l ++ [x])
        else (.mk (if obj then 6 else 5) 0 [] (l ++ [x]) ks', 0)
end
mutual
def V.size : V → Nat
  | .mk _ _ _ l _ => 2 + V.sizes l
def V.sizes : List V → Nat
  | [] => 0
  | v :: r => 1 + v.size + V.sizes r
end
theorem begins_app (t r : List UInt8) : beginsB (t ++ r) t = true := by simp [beginsB]
theorem begins_cons (c d : UInt8) (r : List UInt8) : beginsB (c :: r) [d] = (c == d) := by simp [beginsB]
theorem begins_first (c d : UInt8) (r t : List UInt8) (h : c ≠ d) : beginsB (c :: r) (d :: t) = false := by
  simp [beginsB, h]
theorem b_null {c : UInt8} {r : List UInt8} (h : c ≠ 110) : beginsB (c :: r) nullT = false := begins_first _ _ _ _ h
theorem b_true {c : UInt8} {r : List UInt8} (h : c ≠ 116) : beginsB (c :: r) trueT = false := begins_first _ _ _ _ h
theorem b_false {c : UInt8} {r : List UInt8} (h : c ≠ 102) : beginsB (c :: r) falseT = false := begins_first _ _ _ _ h
theorem b_one {c d : UInt8} {r : List UInt8} (h : c ≠ d) : beginsB (c :: r) [d] = false := begins_first _ _ _ _ h
theorem b_same {d : UInt8} {r : List UInt8} : beginsB (d :: r) [d] = true := by rw [begins_cons]; simp
theorem show_pos (v : V) : 0 < v.show.length := by
  match v with
  | .mk k n t l ks =>
    unfold V.show decI quoteJ
    split
    · decide
    · split
      · split <;> decide
      · split
        · split
          · simp
          · exact decL_pos _
        · split
          · simp
          · split <;> simp
structure HeadIs (k n : Int) (t : List UInt8) (ll : Nat) (ks : List (List UInt8)) : Prop where
  kind : 1 ≤ k ∧ k ≤ 6
  bool : k = 2 → n = 0 ∨ n = 1
  num : k = 3 → -9007199254740992 ≤ n ∧ n ≤ 9007199254740992
  zero : k ≠ 2 → k ≠ 3 → n = 0
  text : k ≠ 4 → t = []
  list : k ≠ 5 → k ≠ 6 → ll = 0
  most : ll ≤ 64
  keys : k = 6 → ks.length = ll
  none : k ≠ 6 → ks = []
  unlike : unlikeB ks = true
theorem head_says {k n : Int} {t : List UInt8} {ll : Nat} {ks : List (List UInt8)} (h : headB k n t ll ks = true) : HeadIs k n t ll ks := by
  unfold headB at h
  simp only [Bool.and_eq_true, decide_eq_true_eq] at h
  obtain ⟨⟨⟨⟨⟨⟨⟨⟨⟨h1, h2⟩, h3⟩, h4⟩, h5⟩, h6⟩, h7⟩, h8⟩, h9⟩, h10⟩ := h
  exact ⟨h1, h2, h3, h4, h5, h6, h7, h8, h9, h10⟩
theorem zero_list {l : List V} (h : l.length = 0) : l = [] := List.length_eq_zero_iff.1 h
theorem decI_len (n : Int) (h : -9007199254740992 ≤ n ∧ n ≤ 9007199254740992) : (decL n.natAbs).length ≤ 16 := decL_len n.natAbs 16 (by have : (10 : Nat) ^ 16 = 10000000000000000 := by decide
                                                                                                                                        omega) (by decide)
theorem decL_first (n : Nat) : ∃ c r, decL n = c :: r ∧ isDigit c = true := by
  induction n using Nat.strongRecOn with
  | _ n ih =>
    by_cases h : n < 10
    · exact ⟨digit n, [], by unfold decL; rw [if_pos h], digit_is n⟩
    · obtain ⟨c, r, e, hc⟩ := ih (n / 10) (by omega)
      exact ⟨c, r ++ [digit n], by rw [decL, if_neg h, e]; rfl, hc⟩
theorem digit_ne {c d : UInt8} (h : isDigit c = true) (hd : isDigit d = false) : c ≠ d := fun e => by rw [e, hd] at h; cases h
theorem numT_whole (n : Nat) (r : List UInt8) (m k : Nat) (hl : (decL n).length ≤ m) (hr : noDigit r = true) : numT (decL n ++ r) m 0 k = ((n : Int), k + (decL n).length) := by
  rw [numT_dec n r m k 0 hl, numT_stop _ _ _ _ hr]; simp
theorem number_back (n : Int) (hn : -9007199254740992 ≤ n ∧ n ≤ 9007199254740992) (f : Nat) (r : List UInt8) (hr : noDigit r = true) : valueT (f + 1) (decI n ++ r) = (.mk 3 n [] [] [], (decI n).length) := by
  have hl := decI_len n hn
  obtain ⟨c, r', e, hc⟩ := decL_first n.natAbs
  unfold decI
  by_cases h : n < 0
  · rw [if_pos h]
    show valueT (f + 1) (45 :: (decL n.natAbs ++ r)) = _
    unfold valueT
    rw [b_null (by decide), b_true (by decide), b_false (by decide), b_one (d := 34) (by decide), b_one (d := 91) (by decide), b_one (d := 123) (by decide), b_same]
    simp only [Bool.false_eq_true, if_false, if_true, List.drop_succ_cons, List.drop_zero]
    rw [numT_whole n.natAbs r 17 1 (by omega) hr]
    simp only [Prod.mk.injEq, V.mk.injEq, and_true, true_and]
    refine ⟨by omega, ?_⟩
    simp; omega
  · rw [if_neg h]
    have hw := numT_whole n.natAbs r 18 0 (by omega) hr
    rw [e] at hw ⊢
    show valueT (f + 1) (c :: (r' ++ r)) = _
    unfold valueT
    rw [b_null (digit_ne hc rfl), b_true (digit_ne hc rfl), b_false (digit_ne hc rfl), b_one (d := 34) (digit_ne hc rfl), b_one (d := 91) (digit_ne hc rfl), b_one (d := 123) (digit_ne hc rfl), b_one (d := 45) (digit_ne hc rfl)]
    simp only [Bool.false_eq_true, if_false]
    have hw' : numT (c :: (r' ++ r)) 18 0 0 = (((n.natAbs : Nat) : Int), 0 + (c :: r').length) := hw
    rw [hw']
    simp only [Prod.mk.injEq, V.mk.injEq, and_true, true_and, Nat.zero_add]
    omega
theorem wordT_at (t r : List UInt8) : wordT (quoteT t ++ r) [] 1 = some (t, 1 + (quoteT t).length) := by
  have := wordT_quote t r [] 1; simpa using this
theorem text_back (t : List UInt8) (f : Nat) (r : List UInt8) : valueT (f + 1) (quoteJ t ++ r) = (.mk 4 0 t [] [], (quoteJ t).length) := by
  unfold quoteJ
  show valueT (f + 1) (34 :: (quoteT t ++ r)) = _
  unfold valueT
  rw [b_null (by decide), b_true (by decide), b_false (by decide), b_same]
  simp only [Bool.false_eq_true, if_false, if_true, List.drop_succ_cons, List.drop_zero]
  rw [wordT_at]
  simp; omega
theorem drop_app (a b : List UInt8) : (a ++ b).drop a.length = b := by simp
theorem noDigit_cons {c : UInt8} {r : List UInt8} (h : isDigit c = false) : noDigit (c :: r) = true := by simp [noDigit, h]
theorem show_first (v : V) : ∃ c r, v.show = c :: r ∧ c ≠ 93 := by
  match v with
  | .mk k n t l ks =>
    unfold V.show decI quoteJ
    split
    · exact ⟨110, [117, 108, 108], rfl, by decide⟩
    · split
      · split
        · exact ⟨116, [114, 117, 101], rfl, by decide⟩
        · exact ⟨102, [97, 108, 115, 101], rfl, by decide⟩
      · split
        · split
          · exact ⟨45, _, rfl, by decide⟩
          · obtain ⟨c, r, e, hc⟩ := decL_first n.natAbs
            exact ⟨c, r, e, digit_ne hc rfl⟩
        · split
          · exact ⟨34, _, rfl, by decide⟩
          · split
            · exact ⟨91, _, rfl, by decide⟩
            · exact ⟨123, _, rfl, by decide⟩
theorem list_back (f : Nat) (c : UInt8) (r : List UInt8) (hc : c ≠ 93) : valueT (f + 1) (91 :: c :: r) = loopT f false (c :: r) 1 [] [] := by
  conv => lhs; unfold valueT
  rw [b_null (by decide), b_true (by decide), b_false (by decide), b_one (d := 34) (by decide), b_same]
  simp only [Bool.false_eq_true, if_false, if_true, List.drop_succ_cons, List.drop_zero]
  rw [b_one hc]; simp
theorem object_back (f : Nat) (r : List UInt8) : valueT (f + 1) (123 :: 34 :: r) = loopT f true (34 :: r) 1 [] [] := by
  conv => lhs; unfold valueT
  rw [b_null (by decide), b_true (by decide), b_false (by decide), b_one (d := 34) (by decide), b_one (d := 91) (by decide), b_same]
  simp only [Bool.false_eq_true, if_false, if_true, List.drop_succ_cons, List.drop_zero]
  rw [b_one (by decide)]; simp
theorem empty_list (f : Nat) (r : List UInt8) : valueT (f + 1) (91 :: 93 :: r) = (.mk 5 0 [] [] [], 2) := by
  conv => lhs; unfold valueT
  rw [b_null (by decide), b_true (by decide), b_false (by decide), b_one (d := 34) (by decide), b_same]
  simp only [Bool.false_eq_true, if_false, if_true, List.drop_succ_cons, List.drop_zero]
  rw [b_same]; simp
theorem empty_object (f : Nat) (r : List UInt8) : valueT (f + 1) (123 :: 125 :: r) = (.mk 6 0 [] [] [], 2) := by
  conv => lhs; unfold valueT
  rw [b_null (by decide), b_true (by decide), b_false (by decide), b_one (d := 34) (by decide), b_one (d := 91) (by decide), b_same]
  simp only [Bool.false_eq_true, if_false, if_true, List.drop_succ_cons, List.drop_zero]
  rw [b_same]; simp
theorem null_back (f : Nat) (r : List UInt8) : valueT (f + 1) (nullT ++ r) = (.mk 1 0 [] [] [], 4) := by
  unfold valueT; rw [begins_app, if_pos rfl]
theorem true_back (f : Nat) (r : List UInt8) : valueT (f + 1) (trueT ++ r) = (.mk 2 1 [] [] [], 4) := by
  unfold valueT
  have e : beginsB (trueT ++ r) nullT = false := b_null (by decide)
  rw [e, begins_app]; simp
theorem false_back (f : Nat) (r : List UInt8) : valueT (f + 1) (falseT ++ r) = (.mk 2 0 [] [] [], 5) := by
  unfold valueT
  have e : beginsB (falseT ++ r) nullT = false := b_null (by decide)
  have e2 : beginsB (falseT ++ r) trueT = false := b_true (by decide)
  rw [e, e2, begins_app]; simp
/-- one item of a list -/
theorem loop_item (f : Nat) (v : V) (rest : List UInt8) (n : Nat) (l : List V) (hv : ∀ r, noDigit r = true → valueT f (v.show ++ r) = (v, v.show.length)) :
    loopT (f + 1) false (v.show ++ 93 :: rest) n [] l = (.mk 5 0 [] (l ++ [v]) [], n + v.show.length + 1) ∧
    loopT (f + 1) false (v.show ++ 44 :: rest) n [] l = loopT f false rest (n + v.show.length + 1) [] (l ++ [v]) := by
  have hp := show_pos v
  constructor
  · conv => lhs; unfold loopT
    simp only [Bool.false_eq_true, if_false, List.drop_zero]
    rw [hv _ (noDigit_cons rfl)]
    simp only [Nat.zero_add]
    rw [if_neg (by omega), drop_app, b_same, if_pos rfl]
    simp
  · conv => lhs; unfold loopT
    simp only [Bool.false_eq_true, if_false, List.drop_zero]
    rw [hv _ (noDigit_cons rfl)]
    simp only [Nat.zero_add]
    rw [if_neg (by omega), drop_app, b_one (d := 93) (by decide), b_same]
    simp only [Bool.false_eq_true, if_false, if_true]
    have e : (v.show ++ 44 :: rest).drop (v.show.length + 1) = rest := by
      rw [← List.drop_drop, drop_app]; rfl
    rw [e]
    simp
/-- one pair of an object -/
theorem loop_pair (f : Nat) (k : List UInt8) (v : V) (rest : List UInt8) (n : Nat) (ks : List (List UInt8)) (l : List V) (hv : ∀ r, noDigit r = true → valueT f (v.show ++ r) = (v, v.show.length)) :
    loopT (f + 1) true (quoteJ k ++ 58 :: (v.show ++ 125 :: rest)) n ks l = (.mk 6 0 [] (l ++ [v]) (ks ++ [k]), n + ((quoteJ k).length + 1 + v.show.length) + 1) ∧
    loopT (f + 1) true (quoteJ k ++ 58 :: (v.show ++ 44 :: rest)) n ks l = loopT f true rest (n + ((quoteJ k).length + 1 + v.show.length) + 1) (ks ++ [k]) (l ++ [v]) := by
  have hp := show_pos v
  have hq : (quoteJ k).length = 1 + (quoteT k).length := by unfold quoteJ; rw [List.length_cons]; omega
  have e1 : ∀ r : List UInt8, beginsB (quoteJ k ++ r) [34] = true := fun r => by unfold quoteJ; exact b_same
  have e2 : ∀ r : List UInt8, wordT ((quoteJ k ++ r).drop 1) [] 1 = some (k, (quoteJ k).length) := fun r => by
    rw [hq]; unfold quoteJ; exact wordT_at k r
  have e3 : ∀ r : List UInt8, (quoteJ k ++ 58 :: r).drop ((quoteJ k).length + 1) = r := fun r => by rw [← List.drop_drop, drop_app]; rfl
  have e4 : ∀ (r : List UInt8) (j : Nat), (quoteJ k ++ 58 :: r).drop ((quoteJ k).length + 1 + j) = r.drop j := fun r j => by rw [← List.drop_drop, e3]
  constructor
  · conv => lhs; unfold loopT
    simp only [if_true, e1, e2, drop_app, b_same]
    rw [e3, hv _ (noDigit_cons rfl)]
    simp only
    rw [if_neg (by omega), e4, drop_app, b_same, if_pos rfl]
    simp; omega
  · conv => lhs; unfold loopT
    simp only [if_true, e1, e2, drop_app, b_same]
    rw [e3, hv _ (noDigit_cons rfl)]
    simp only
    rw [if_neg (by omega), e4, drop_app, b_one (d := 125) (by decide), b_same]
    simp only [Bool.false_eq_true, if_false, if_true]
    have e : (v.show ++ 44 :: rest).drop (v.show.length + 1) = rest := by
      rw [← List.drop_drop, drop_app]; rfl
    rw [show (quoteJ k).length + 1 + v.show.length + 1 = (quoteJ k).length + 1 + (v.show.length + 1) by omega, e4, e]
    congr 1
    omega
/-- what the reader answers, with so much to go: a value's text; what is left of a list; of an object -/
def BackV (f : Nat) : Prop := ∀ (v : V) (d : Nat) (r : List UInt8), v.fits d = true → v.size ≤ f → noDigit r = true → valueT f (v.show ++ r) = (v, v.show.length)
def BackL (f : Nat) : Prop := ∀ (v : V) (l : List V) (d n : Nat) (acc : List V) (r : List UInt8), v.fits d = true → V.fitsAll l d = true → 1 + v.size + V.sizes l ≤ f →
    loopT f false (v.show ++ V.itemsMore l ++ 93 :: r) n [] acc = (.mk 5 0 [] (acc ++ v :: l) [], n + (v.show ++ V.itemsMore l).length + 1)
def BackO (f : Nat) : Prop := ∀ (k : List UInt8) (v : V) (l : List V) (ks : List (List UInt8)) (d n : Nat) (akc : List (List UInt8)) (acc : List V) (r : List UInt8), v.fits d = true → V.fitsAll l d = true → 1 + v.size + V.sizes l ≤ f → ks.length = l.length →
    loopT f true (quoteJ k ++ 58 :: (v.show ++ V.pairsMore l ks ++ 125 :: r)) n akc acc = (.mk 6 0 [] (acc ++ v :: l) (akc ++ k :: ks), n + (quoteJ k ++ 58 :: (v.show ++ V.pairsMore l ks)).length + 1)
theorem size_pos (v : V) : 2 ≤ v.size := by
  match v with
  | .mk _ _ _ _ _ => unfold V.size; omega
theorem backV (f : Nat) (ihQ : BackL f) (ihR : BackO f) : BackV (f + 1) := by
  intro v d r hf hs hr
  obtain ⟨k, n, t, l, ks⟩ := v
  cases d with
  | zero => unfold V.fits at hf; cases hf
  | succ d =>
      unfold V.fits at hf
      simp only [Bool.and_eq_true] at hf
      obtain ⟨hh, hl⟩ := hf
      have H := head_says hh
      have hs' : 2 + V.sizes l ≤ f + 1 := by unfold V.size at hs; exact hs
      obtain ⟨h1, h6⟩ := H.kind
      have hk : k = 1 ∨ k = 2 ∨ k = 3 ∨ k = 4 ∨ k = 5 ∨ k = 6 := by omega
      rcases hk with rfl | rfl | rfl | rfl | rfl | rfl
      · obtain rfl := H.zero (by decide) (by decide)
        obtain rfl := H.text (by decide)
        obtain rfl := zero_list (H.list (by decide) (by decide))
        obtain rfl := H.none (by decide)
        have e : (V.mk 1 0 [] [] []).show = nullT := by unfold V.show; simp
        rw [e]; exact null_back f r
      · obtain rfl := H.text (by decide)
        obtain rfl := zero_list (H.list (by decide) (by decide))
        obtain rfl := H.none (by decide)
        rcases H.bool rfl with rfl | rfl
        · have e : (V.mk 2 0 [] [] []).show = falseT := by unfold V.show; simp
          rw [e]; exact false_back f r
        · have e : (V.mk 2 1 [] [] []).show = trueT := by unfold V.show; simp
          rw [e]; exact true_back f r
      · obtain rfl := H.text (by decide)
        obtain rfl := zero_list (H.list (by decide) (by decide))
        obtain rfl := H.none (by decide)
        have e : (V.mk 3 n [] [] []).show = decI n := by unfold V.show; simp
        rw [e]
        exact number_back n (H.num rfl) f r hr
      · obtain rfl := H.zero (by decide) (by decide)
        obtain rfl := zero_list (H.list (by decide) (by decide))
        obtain rfl := H.none (by decide)
        have e : (V.mk 4 0 t [] []).show = quoteJ t := by unfold V.show; simp
        rw [e]
        exact text_back t f r
      · obtain rfl := H.zero (by decide) (by decide)
        obtain rfl := H.text (by decide)
        obtain rfl := H.none (by decide)
        have e : (V.mk 5 0 [] l []).show = 91 :: (V.items l ++ [93]) := by unfold V.show; simp
        rw [e]
        rcases l with _ | ⟨v, l⟩
        · have e1 : V.items [] = [] := by unfold V.items; rfl
          rw [e1]; exact empty_list f r
        · unfold V.fitsAll at hl
          simp only [Bool.and_eq_true] at hl
          unfold V.sizes at hs'
          obtain ⟨c, rr, ec, hc⟩ := show_first v
          have h2 := ihQ v l d 1 [] r hl.1 hl.2 (by omega)
          have e2 : 91 :: (V.items (v :: l) ++ [93]) ++ r = 91 :: (v.show ++ V.itemsMore l ++ 93 :: r) := by
            conv => lhs; unfold V.items
            simp
          rw [e2]
          have e3 : v.show ++ V.itemsMore l ++ 93 :: r = c :: (rr ++ V.itemsMore l ++ 93 :: r) := by rw [ec]; rfl
          have h1 := list_back f c (rr ++ V.itemsMore l ++ 93 :: r) hc
          rw [← e3] at h1
          rw [h1, h2]
          conv => rhs; unfold V.items
          simp; omega
      · obtain rfl := H.zero (by decide) (by decide)
        obtain rfl := H.text (by decide)
        have e : (V.mk 6 0 [] l ks).show = 123 :: (V.pairs l ks ++ [125]) := by unfold V.show; simp
        rw [e]
        have hkl := H.keys rfl
        rcases l with _ | ⟨v, l⟩
        · obtain rfl := List.length_eq_zero_iff.1 hkl
          have e1 : V.pairs [] [] = [] := by unfold V.pairs; rfl
          rw [e1]; exact empty_object f r
        · rcases ks with _ | ⟨k, ks⟩
          · simp at hkl
          unfold V.fitsAll at hl
          simp only [Bool.and_eq_true] at hl
          unfold V.sizes at hs'
          have h2 := ihR k v l ks d 1 [] [] r hl.1 hl.2 (by omega) (by simpa using hkl)
          have e2 : 123 :: (V.pairs (v :: l) (k :: ks) ++ [125]) ++ r = 123 :: 34 :: (quoteT k ++ 58 :: (v.show ++ V.pairsMore l ks ++ 125 :: r)) := by
            conv => lhs; unfold V.pairs
            simp [quoteJ]
          rw [e2, object_back]
          have e3 : 34 :: (quoteT k ++ 58 :: (v.show ++ V.pairsMore l ks ++ 125 :: r)) = quoteJ k ++ 58 :: (v.show ++ V.pairsMore l ks ++ 125 :: r) := rfl
          rw [e3, h2]
          conv => rhs; unfold V.pairs
          simp; omega
theorem backL (f : Nat) (ihP : BackV f) (ihQ : BackL f) : BackL (f + 1) := by
  intro v l d n acc r hv hl hs
  rcases l with _ | ⟨u, l⟩
  · have e1 : V.itemsMore [] = [] := by unfold V.itemsMore; rfl
    rw [e1, List.append_nil]
    exact (loop_item f v r n acc (fun r' hr' => ihP v d r' hv (by omega) hr')).1
  · unfold V.fitsAll at hl
    simp only [Bool.and_eq_true] at hl
    unfold V.sizes at hs
    have h1 := (loop_item f v (u.show ++ V.itemsMore l ++ 93 :: r) n acc (fun r' hr' => ihP v d r' hv (by omega) hr')).2
    have h2 := ihQ u l d (n + v.show.length + 1) (acc ++ [v]) r hl.1 hl.2 (by omega)
    have e : v.show ++ V.itemsMore (u :: l) ++ 93 :: r = v.show ++ 44 :: (u.show ++ V.itemsMore l ++ 93 :: r) := by
      conv => lhs; unfold V.itemsMore
      simp
    rw [e, h1, h2]
    conv => rhs; unfold V.itemsMore
    simp; omega
theorem backO (f : Nat) (ihP : BackV f) (ihR : BackO f) : BackO (f + 1) := by
  intro k v l ks d n akc acc r hv hl hs hk
  rcases l with _ | ⟨u, l⟩
  · obtain rfl := List.length_eq_zero_iff.1 hk
    have e1 : V.pairsMore [] [] = [] := by unfold V.pairsMore; rfl
    rw [e1, List.append_nil]
    have h1 := (loop_pair f k v r n akc acc (fun r' hr' => ihP v d r' hv (by omega) hr')).1
    rw [h1]
    simp; omega
  · rcases ks with _ | ⟨k2, ks⟩
    · simp at hk
    unfold V.fitsAll at hl
    simp only [Bool.and_eq_true] at hl
    unfold V.sizes at hs
    have h1 := (loop_pair f k v (quoteJ k2 ++ 58 :: (u.show ++ V.pairsMore l ks ++ 125 :: r)) n akc acc (fun r' hr' => ihP v d r' hv (by omega) hr')).2
    have h2 := ihR k2 u l ks d (n + ((quoteJ k).length + 1 + v.show.length) + 1) (akc ++ [k]) (acc ++ [v]) r hl.1 hl.2 (by omega) (by simpa using hk)
    have e : quoteJ k ++ 58 :: (v.show ++ V.pairsMore (u :: l) (k2 :: ks) ++ 125 :: r) = quoteJ k ++ 58 :: (v.show ++ 44 :: (quoteJ k2 ++ 58 :: (u.show ++ V.pairsMore l ks ++ 125 :: r))) := by
      conv => lhs; unfold V.pairsMore
      simp
    rw [e, h1, h2]
    conv => rhs; unfold V.pairsMore
    simp; omega
theorem back_all : ∀ f, BackV f ∧ BackL f ∧ BackO f
  | 0 => ⟨fun v _ _ _ h _ => absurd h (by have := size_pos v; omega), fun v _ _ _ _ _ _ _ h => absurd h (by omega), fun _ v _ _ _ _ _ _ _ _ _ h _ => absurd h (by omega)⟩
  | f + 1 => ⟨backV f (back_all f).2.1 (back_all f).2.2, backL f (back_all f).1 (back_all f).2.1, backO f (back_all f).1 (back_all f).2.2⟩
/-- the reader reads a good value's text -/
theorem show_back (v : V) (d f : Nat) (r : List UInt8) (hf : v.fits d = true) (hs : v.size ≤ f) (hr : noDigit r = true) : valueT f (v.show ++ r) = (v, v.show.length) := (back_all f).1 v d r hf hs hr
end Go.Proofs.YtobicmpgfiddhaaDoor
