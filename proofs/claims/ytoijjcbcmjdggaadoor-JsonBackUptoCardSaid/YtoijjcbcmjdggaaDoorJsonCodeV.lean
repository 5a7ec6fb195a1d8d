/- JSON: the code's reader of values as a function of lists: it reads just the good values' texts. -/
import Derived.Test.YtoijjcbcmjdggaaDoorJsonCode
namespace Go.Proofs.YtoijjcbcmjdggaaDoor

mutual
/-- the value at the front, and what is behind it -/
def valueC : Nat → List UInt8 → Option (V × List UInt8)
  | 0, _ => none
  | f + 1, s =>
    if beginsB s nullT then some (.mk 1 0 [] [] [], s.drop 4) else if beginsB s trueT then some (.mk 2 1 [] [] [], s.drop 4) else if beginsB s falseT then some (.mk 2 0 [] [] [], s.drop 5)
    else if beginsB s [34] then (match quotedC s with
      | some (t, r) => some (.mk 4 0 t [] [], r)
      | none => none)
    else if beginsB s [91] then (if beginsB (s.drop 1) [93] then some (.mk 5 0 [] [] [], s.drop 2) else groupC f false (s.drop 1) [] [])
    else if beginsB s [123] then (if beginsB (s.drop 1) [125] then some (.mk 6 0 [] [] [], s.drop 2) else groupC f true (s.drop 1) [] [])
    else (match numberC s with
      | some (n, r) => some (.mk 3 n [] [] [], r)
      | none => none)
/-- what a list, or an object, holds behind so many keys and values, and what is behind its end -/
def groupC : Nat → Bool → List UInt8 → List (List UInt8) → List V → Option (V × List UInt8)
  | 0, _, _, _, _ => none
  | f + 1, obj, s, ks, l =>
    match (if obj then (match quotedC s with
      | some (t, r) => if beginsB r [58] then some (ks ++ [t], r.drop 1) else none
      | none => none) else some (ks, s)) with
    | none => none
    | some (ks', s') =>
      match valueC f s' with
      | none => none
      | some (x, r) =>
        if beginsB r [44] then groupC f obj (r.drop 1) ks' (l ++ [x])
        else if beginsB r [if obj then 125 else 93] then some (.mk (if obj then 6 else 5) 0 [] (l ++ [x]) ks', r.drop 1)
        else none
end
theorem items_two (x y : V) (r : List V) : V.items (x :: y :: r) = x.show ++ (44 : UInt8) :: V.items (y :: r) := by rw [items_cons, itemsMore_cons, items_cons]
theorem pairs_two (x y : V) (r : List V) (k : List UInt8) (ks : List (List UInt8)) : V.pairs (x :: y :: r) (k :: ks) = quoteJ k ++ (58 : UInt8) :: (x.show ++ (44 : UInt8) :: V.pairs (y :: r) ks) := by
  rw [pairs_cons, pairsMore_cons, pairs_cons]; rfl
theorem begins_full {s t : List UInt8} (h : beginsB s t = true) : s = t ++ s.drop t.length := by
  unfold beginsB at h
  have : s.take t.length = t := by simpa using h
  conv => lhs; rw [← List.take_append_drop t.length s, this]
/-- what is read is a value's text -/
def OnlyV (f : Nat) : Prop := ∀ (s : List UInt8) (v : V) (r : List UInt8), valueC f s = some (v, r) → s = v.show ++ r
def OnlyG (f : Nat) : Prop := ∀ (obj : Bool) (s : List UInt8) (ks : List (List UInt8)) (l : List V) (v : V) (r : List UInt8), groupC f obj s ks l = some (v, r) →
  ∃ x l2 ks2, v = .mk (if obj then 6 else 5) 0 [] (l ++ x :: l2) (ks ++ ks2) ∧ (if obj then ks2.length = l2.length + 1 ∧ s = V.pairs (x :: l2) ks2 ++ 125 :: r else ks2 = [] ∧ s = V.items (x :: l2) ++ 93 :: r)
theorem onlyV (f : Nat) (hg : OnlyG f) : OnlyV (f + 1) := by
  intro s v r h
  unfold valueC at h
  split at h
  · rename_i hb
    injection h with h; injection h with h1 h2
    rw [← h1, ← h2, show_one]; exact begins_full hb
  · split at h
    · rename_i hb
      injection h with h; injection h with h1 h2
      rw [← h1, ← h2, show_two, if_pos rfl]; exact begins_full hb
    · split at h
      · rename_i hb
        injection h with h; injection h with h1 h2
        rw [← h1, ← h2, show_two, if_neg (by decide)]; exact begins_full hb
      · split at h
        · split at h
          · rename_i hq
            injection h with h; injection h with h1 h2
            rw [← h1, ← h2, show_four]; exact quotedC_only hq
          · cases h
        · split at h
          · rename_i hb
            have e := begins_one hb
            split at h
            · rename_i hb2
              have e2 := begins_one hb2
              injection h with h; injection h with h1 h2
              rw [← h1, ← h2, show_list, items_nil]
              rw [List.drop_drop] at e2
              conv => lhs; rw [e, e2]
              rfl
            · obtain ⟨x, l2, ks2, e1, e2⟩ := hg _ _ _ _ _ _ h
              simp only [Bool.false_eq_true, if_false] at e1 e2
              obtain ⟨rfl, e2⟩ := e2
              rw [e1, show_list]
              conv => lhs; rw [e, e2]
              simp
          · split at h
            · rename_i hb
              have e := begins_one hb
              split at h
              · rename_i hb2
                have e2 := begins_one hb2
                injection h with h; injection h with h1 h2
                rw [← h1, ← h2, show_object, pairs_nil]
                rw [List.drop_drop] at e2
                conv => lhs; rw [e, e2]
                rfl
              · obtain ⟨x, l2, ks2, e1, e2⟩ := hg _ _ _ _ _ _ h
                simp only [if_true] at e1 e2
                obtain ⟨_, e2⟩ := e2
                rw [e1, show_object]
                conv => lhs; rw [e, e2]
                simp
            · split at h
              · rename_i hn
                injection h with h; injection h with h1 h2
                rw [← h1, ← h2, show_three]; exact numberC_only hn
              · cases h
theorem onlyG (f : Nat) (hv : OnlyV f) (hg : OnlyG f) : OnlyG (f + 1) := by
  intro obj s ks l v r h
  unfold groupC at h
  cases obj with
  | false =>
    simp only [Bool.false_eq_true, if_false] at h ⊢
    split at h
    · cases h
    · rename_i x r1 hx
      have e := hv _ _ _ hx
      split at h
      · rename_i hb
        have e1 := begins_one hb
        obtain ⟨y, l2, ks2, h1, h2⟩ := hg _ _ _ _ _ _ h
        simp only [Bool.false_eq_true, if_false] at h1 h2
        obtain ⟨rfl, h2⟩ := h2
        refine ⟨x, y :: l2, [], by rw [h1]; simp, rfl, ?_⟩
        rw [items_two, e, e1, h2]; simp
      · split at h
        · rename_i hb
          have e1 := begins_one hb
          injection h with h; injection h with h1 h2
          refine ⟨x, [], [], by rw [← h1]; simp, rfl, ?_⟩
          rw [items_cons, itemsMore_nil, e, e1, ← h2]; simp
        · cases h
  | true =>
    simp only [if_true] at h ⊢
    split at h
    · cases h
    · rename_i ks' s' hk
      split at hk
      · rename_i t r0 hq
        have eq := quotedC_only hq
        split at hk
        · rename_i hb0
          have e0 := begins_one hb0
          injection hk with hk; injection hk with hk1 hk2
          subst hk1
          rw [← hk2] at h
          split at h
          · cases h
          · rename_i x r1 hx
            have e := hv _ _ _ hx
            split at h
            · rename_i hb
              have e1 := begins_one hb
              obtain ⟨y, l2, ks2, h1, h2⟩ := hg _ _ _ _ _ _ h
              simp only [if_true] at h1 h2
              obtain ⟨hl, h2⟩ := h2
              refine ⟨x, y :: l2, t :: ks2, by rw [h1]; simp, by simp [hl], ?_⟩
              rw [pairs_two, eq, e0, e, e1, h2]
              simp only [List.append_assoc, List.cons_append]
            · split at h
              · rename_i hb
                have e1 := begins_one hb
                injection h with h; injection h with h1 h2
                refine ⟨x, [], [t], by rw [← h1], rfl, ?_⟩
                have q1 : s = quoteJ t ++ 58 :: (x.show ++ 125 :: r1.drop 1) := by rw [← e1, ← e, ← e0]; exact eq
                rw [pairs_cons, pairsMore_nil, q1, ← h2]; simp
              · cases h
        · cases hk
      · cases hk
theorem only_all : ∀ f, OnlyV f ∧ OnlyG f
  | 0 => by
    constructor
    · intro s v r h; unfold valueC at h; cases h
    · intro obj s ks l v r h; unfold groupC at h; cases h
  | f + 1 => ⟨onlyV f (only_all f).2, onlyG f (only_all f).1 (only_all f).2⟩

/-! ## every good value's text is read -/
theorem noNum_cons {c : UInt8} {r : List UInt8} (h : numC c = false) : noNum (c :: r) = true := by simp [noNum, h]
def BkV (f : Nat) : Prop := ∀ (v : V) (d : Nat) (r : List UInt8), v.fits d = true → v.size ≤ f → noNum r = true → valueC f (v.show ++ r) = some (v, r)
def BkL (f : Nat) : Prop := ∀ (x : V) (l : List V) (d : Nat) (acc : List V) (r : List UInt8), x.fits d = true → V.fitsAll l d = true → V.sizes (x :: l) ≤ f → groupC f false (V.items (x :: l) ++ 93 :: r) [] acc = some (.mk 5 0 [] (acc ++ x :: l) [], r)
def BkO (f : Nat) : Prop := ∀ (k : List UInt8) (x : V) (l : List V) (ks : List (List UInt8)) (d : Nat) (akc : List (List UInt8)) (acc : List V) (r : List UInt8), x.fits d = true → V.fitsAll l d = true → V.sizes (x :: l) ≤ f → ks.length = l.length →
  groupC f true (V.pairs (x :: l) (k :: ks) ++ 125 :: r) akc acc = some (.mk 6 0 [] (acc ++ x :: l) (akc ++ k :: ks), r)
theorem bkL (f : Nat) (ihV : BkV f) (ihL : BkL f) : BkL (f + 1) := by
  intro x l d acc r hx hl hs
  rw [sizes_cons] at hs
  unfold groupC
  simp only [Bool.false_eq_true, if_false]
  cases l with
  | nil =>
    have e : V.items [x] ++ 93 :: r = x.show ++ 93 :: r := by rw [items_cons, itemsMore_nil]; simp
    rw [e, ihV x d _ hx (by omega) (noNum_cons rfl)]
    simp only
    rw [b_one (d := 44) (by decide), b_same]; simp
  | cons y l =>
    have e : V.items (x :: y :: l) ++ 93 :: r = x.show ++ 44 :: (V.items (y :: l) ++ 93 :: r) := by rw [items_two]; simp
    rw [e, ihV x d _ hx (by omega) (noNum_cons rfl)]
    simp only
    rw [b_same, if_pos rfl]
    unfold V.fitsAll at hl
    simp only [Bool.and_eq_true] at hl
    show groupC f false (V.items (y :: l) ++ 93 :: r) [] (acc ++ [x]) = _
    rw [ihL y l d (acc ++ [x]) r hl.1 hl.2 (by omega)]
    simp
theorem bkO (f : Nat) (ihV : BkV f) (ihO : BkO f) : BkO (f + 1) := by
  intro k x l ks d akc acc r hx hl hs hk
  rw [sizes_cons] at hs
  unfold groupC
  simp only [if_true]
  cases l with
  | nil =>
    obtain rfl : ks = [] := List.length_eq_zero_iff.1 hk
    have e : V.pairs [x] [k] ++ 125 :: r = quoteJ k ++ 58 :: (x.show ++ 125 :: r) := by rw [pairs_cons, pairsMore_nil]; simp
    rw [e, quotedC_back]
    simp only
    rw [b_same, if_pos rfl]
    show (match valueC f (x.show ++ 125 :: r) with | none => none | some (x, r) => _) = _
    rw [ihV x d _ hx (by omega) (noNum_cons rfl)]
    simp only
    rw [b_one (d := 44) (by decide), b_same]; simp
  | cons y l =>
    cases ks with
    | nil => simp at hk
    | cons k2 ks =>
      have e : V.pairs (x :: y :: l) (k :: k2 :: ks) ++ 125 :: r = quoteJ k ++ 58 :: (x.show ++ 44 :: (V.pairs (y :: l) (k2 :: ks) ++ 125 :: r)) := by rw [pairs_two]; simp
      rw [e, quotedC_back]
      simp only
      rw [b_same, if_pos rfl]
      show (match valueC f (x.show ++ 44 :: (V.pairs (y :: l) (k2 :: ks) ++ 125 :: r)) with | none => none | some (x, r) => _) = _
      rw [ihV x d _ hx (by omega) (noNum_cons rfl)]
      simp only
      rw [b_same, if_pos rfl]
      unfold V.fitsAll at hl
      simp only [Bool.and_eq_true] at hl
      show groupC f true (V.pairs (y :: l) (k2 :: ks) ++ 125 :: r) (akc ++ [k]) (acc ++ [x]) = _
      rw [ihO k2 y l ks d (akc ++ [k]) (acc ++ [x]) r hl.1 hl.2 (by omega) (by simpa using hk)]
      simp
theorem bkV (f : Nat) (ihL : BkL f) (ihO : BkO f) : BkV (f + 1) := by
  intro v d r hf hs hr
  obtain ⟨k, n, t, l, ks⟩ := v
  cases d with
  | zero => rw [fits_zero] at hf; cases hf
  | succ d =>
    rw [fits_mk, Bool.and_eq_true] at hf
    obtain ⟨hh, hl⟩ := hf
    have H := head_says hh
    rw [size_mk] at hs
    have hk : k = 1 ∨ k = 2 ∨ k = 3 ∨ k = 4 ∨ k = 5 ∨ k = 6 := by have := H.kind; omega
    rcases hk with rfl | rfl | rfl | rfl | rfl | rfl
    · obtain rfl := H.zero (by decide) (by decide)
      obtain rfl := H.text (by decide)
      obtain rfl := zero_list (H.list (by decide) (by decide))
      obtain rfl := H.none (by decide)
      rw [show_one]
      unfold valueC; rw [begins_app, if_pos rfl]; rfl
    · obtain rfl := H.text (by decide)
      obtain rfl := zero_list (H.list (by decide) (by decide))
      obtain rfl := H.none (by decide)
      rw [show_two]
      rcases H.bool rfl with rfl | rfl
      · rw [if_neg (by decide)]
        unfold valueC
        have e : beginsB (falseT ++ r) nullT = false := b_null (by decide)
        have e2 : beginsB (falseT ++ r) trueT = false := b_true (by decide)
        rw [e, e2, begins_app]; rfl
      · rw [if_pos rfl]
        unfold valueC
        have e : beginsB (trueT ++ r) nullT = false := b_null (by decide)
        rw [e, begins_app]; rfl
    · obtain rfl := H.text (by decide)
      obtain rfl := zero_list (H.list (by decide) (by decide))
      obtain rfl := H.none (by decide)
      rw [show_three]
      have hb := numberC_back n (H.num rfl) r hr
      obtain ⟨c, r', e, hc⟩ : ∃ c r', decI n ++ r = c :: r' ∧ (isDigit c = true ∨ c = 45) := by
        obtain ⟨c, r', e, hc⟩ := decL_first n.natAbs
        unfold decI
        by_cases h : n < 0
        · rw [if_pos h]; exact ⟨45, _, rfl, .inr rfl⟩
        · rw [if_neg h, e]; exact ⟨c, _, rfl, .inl hc⟩
      rw [e] at hb ⊢
      have hne : ∀ x : UInt8, isDigit x = false → x ≠ 45 → c ≠ x := fun x h1 h2 => by
        rcases hc with h | h
        · exact digit_ne h h1
        · intro e; exact h2 (e.symm.trans h)
      unfold valueC
      rw [b_null (hne _ rfl (by decide)), b_true (hne _ rfl (by decide)), b_false (hne _ rfl (by decide)), b_one (d := 34) (hne _ rfl (by decide)), b_one (d := 91) (hne _ rfl (by decide)), b_one (d := 123) (hne _ rfl (by decide)), hb]
      rfl
    · obtain rfl := H.zero (by decide) (by decide)
      obtain rfl := zero_list (H.list (by decide) (by decide))
      obtain rfl := H.none (by decide)
      rw [show_four]
      have hq := quotedC_back t r
      have e : quoteJ t ++ r = 34 :: (quoteT t ++ r) := rfl
      rw [e] at hq ⊢
      unfold valueC
      rw [b_null (by decide), b_true (by decide), b_false (by decide), b_same, hq]; rfl
    · obtain rfl := H.zero (by decide) (by decide)
      obtain rfl := H.text (by decide)
      obtain rfl := H.none (by decide)
      rw [show_list]
      cases l with
      | nil =>
        rw [items_nil]
        show valueC (f + 1) (91 :: 93 :: r) = _
        unfold valueC
        rw [b_null (by decide), b_true (by decide), b_false (by decide), b_one (d := 34) (by decide), b_same]
        simp only [List.drop_succ_cons, List.drop_zero, Bool.false_eq_true, if_false, if_true]
        rw [b_same]; rfl
      | cons x l =>
        unfold V.fitsAll at hl
        simp only [Bool.and_eq_true] at hl
        obtain ⟨c, rr, ec, hc⟩ := show_first x
        have e : 91 :: (V.items (x :: l) ++ [93]) ++ r = 91 :: (V.items (x :: l) ++ 93 :: r) := by simp
        have e2 : V.items (x :: l) ++ 93 :: r = c :: (rr ++ V.itemsMore l ++ 93 :: r) := by rw [items_cons, ec]; simp
        have h2 := ihL x l d [] r hl.1 hl.2 (by omega)
        rw [e]
        rw [e2] at h2 ⊢
        unfold valueC
        rw [b_null (by decide), b_true (by decide), b_false (by decide), b_one (d := 34) (by decide), b_same]
        show (if beginsB (c :: (rr ++ V.itemsMore l ++ 93 :: r)) [93] then _ else groupC f false (c :: (rr ++ V.itemsMore l ++ 93 :: r)) [] []) = _
        rw [b_one hc, h2]; rfl
    · obtain rfl := H.zero (by decide) (by decide)
      obtain rfl := H.text (by decide)
      rw [show_object]
      have hkl := H.keys rfl
      cases l with
      | nil =>
        obtain rfl := List.length_eq_zero_iff.1 hkl
        rw [pairs_nil]
        show valueC (f + 1) (123 :: 125 :: r) = _
        unfold valueC
        rw [b_null (by decide), b_true (by decide), b_false (by decide), b_one (d := 34) (by decide), b_one (d := 91) (by decide), b_same]
        simp only [List.drop_succ_cons, List.drop_zero, Bool.false_eq_true, if_false, if_true]
        rw [b_same]; rfl
      | cons x l =>
        cases ks with
        | nil => simp at hkl
        | cons k ks =>
          unfold V.fitsAll at hl
          simp only [Bool.and_eq_true] at hl
          have e : 123 :: (V.pairs (x :: l) (k :: ks) ++ [125]) ++ r = 123 :: (V.pairs (x :: l) (k :: ks) ++ 125 :: r) := by simp
          have e2 : V.pairs (x :: l) (k :: ks) ++ 125 :: r = 34 :: (quoteT k ++ 58 :: (x.show ++ V.pairsMore l ks) ++ 125 :: r) := by rw [pairs_cons]; rfl
          have h2 := ihO k x l ks d [] [] r hl.1 hl.2 (by omega) (by simpa using hkl)
          rw [e]
          rw [e2] at h2 ⊢
          unfold valueC
          rw [b_null (by decide), b_true (by decide), b_false (by decide), b_one (d := 34) (by decide), b_one (d := 91) (by decide), b_same]
          show (if beginsB (34 :: (quoteT k ++ 58 :: (x.show ++ V.pairsMore l ks) ++ 125 :: r)) [125] then _ else groupC f true (34 :: (quoteT k ++ 58 :: (x.show ++ V.pairsMore l ks) ++ 125 :: r)) [] []) = _
          rw [b_one (by decide), h2]; rfl
theorem bk_all : ∀ f, BkV f ∧ BkL f ∧ BkO f
  | 0 => by
    refine ⟨?_, ?_, ?_⟩
    · intro v d r _ h; exact absurd h (by have := size_pos v; omega)
    · intro x l d acc r _ _ h; rw [sizes_cons] at h; omega
    · intro k x l ks d akc acc r _ _ h; rw [sizes_cons] at h; omega
  | f + 1 => ⟨bkV f (bk_all f).2.1 (bk_all f).2.2, bkL f (bk_all f).1 (bk_all f).2.1, bkO f (bk_all f).1 (bk_all f).2.2⟩
/-- what the code's Parse answers -/
def parseC (f : Nat) (s : List UInt8) : V × Int :=
  if 4096 < s.length then (V.zero, 3) else
    match valueC f s with
    | some (v, []) => if v.good then (if v.depth ≤ 8 then (v, 0) else (V.zero, 4)) else (V.zero, 2)
    | _ => (V.zero, 2)
/-- it is the document's -/
theorem parseC_eq (f : Nat) (s : List UInt8) (hf : 2 * s.length ≤ f) : parseC f s = parseV s := by
  unfold parseC parseV
  by_cases hl : 4096 < s.length
  · rw [if_pos hl, if_pos hl]
  · rw [if_neg hl, if_neg hl]
    cases hr : readV s with
    | some v =>
      obtain ⟨⟨d, hd⟩, hs⟩ := readV_some hr
      have hb := (bk_all f).1 v d [] hd (by have := size_show d v hd; rw [hs] at this; omega) rfl
      rw [List.append_nil, hs] at hb
      rw [hb]
      simp only
      rw [if_pos (fits_isgood hd), fits_good, fits_isgood hd]
      simp
    | none =>
      simp only
      cases hv : valueC f s with
      | none => rfl
      | some x =>
        obtain ⟨v, r⟩ := x
        cases r with
        | cons c r => rfl
        | nil =>
          simp only
          by_cases hg : v.good = true
          · have e := (only_all f).1 s v [] hv
            rw [List.append_nil] at e
            have := readV_of (s := s) (v := v) ⟨⟨_, good_fits hg⟩, e.symm⟩ (by omega)
            rw [this] at hr; cases hr
          · rw [if_neg hg]
end Go.Proofs.YtoijjcbcmjdggaaDoor
