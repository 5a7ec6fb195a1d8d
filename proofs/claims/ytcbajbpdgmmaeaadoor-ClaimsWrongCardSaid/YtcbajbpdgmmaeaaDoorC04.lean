/- Texts merged by program, in build order: JsonCodeV, JwkText, JsonCloneV, JsonSet. -/
import Derived.Test.YtcbajbpdgmmaeaaDoorC03
import Derived.Test.YtcbajbpdgmmaeaaDoorC01
import Derived.Test.YtcbajbpdgmmaeaaDoorC02
import Derived.Lib.SliceRun
import Derived.Deep.WholeRow
namespace Go.Proofs.YtcbajbpdgmmaeaaDoor

mutual
/-- the value at the front, and what is behind it -/
def valueC : Nat → List UInt8 → Option (V × List UInt8)
  | 0, _ => none
  | f + 1, s =>
    if beginsB s nullT then some (.mk 1 0 [] [] [], s.drop 4) else if beginsB s trueT then some (.mk 2 1 [] [] [], s.drop 4) else if beginsB s falseT then some (.mk 2 0 [] [] [], s.drop 5)
    else if beginsB s [34] then (match quotedC s with
      | some (t, r) => some (.mk 4 0 t [] [], r)
      | none => none)
    else if beginsB s [91] then (if beginsB (s.drop 1) [93] then some (.mk 5 0 [] [] [], s.drop 2) else groupC f false (s.drop 1) [] [])
    else if beginsB s [123] then (if beginsB (s.drop 1) [125] then some (.mk 6 0 [] [] [], s.drop 2) else groupC f true (s.drop 1) [] [])
    else (match numberC s with
      | some (n, r) => some (.mk 3 n [] [] [], r)
      | none => none)
/-- what a list, or an object, holds behind so many keys and values, and what is behind its end -/
def groupC : Nat → Bool → List UInt8 → List (List UInt8) → List V → Option (V × List UInt8)
  | 0, _, _, _, _ => none
  | f + 1, obj, s, ks, l =>
    match (if obj then (match quotedC s with
      | some (t, r) => if beginsB r [58] then some (ks ++ [t], r.drop 1) else none
      | none => none) else some (ks, s)) with
    | none => none
    | some (ks', s') =>
      match valueC f s' with
      | none => none
      | some (x, r) =>
        if beginsB r [44] then groupC f obj (r.drop 1) ks' (l ++ [x])
        else if beginsB r [if obj then 125 else 93] then some (.mk (if obj then 6 else 5) 0 [] (l ++ [x]) ks', r.drop 1)
        else none
end
theorem items_two (x y : V) (r : List V) : V.items (x :: y :: r) = x.show ++ (44 : UInt8) :: V.items (y :: r) := by rw [items_cons, itemsMore_cons, items_cons]
theorem pairs_two (x y : V) (r : List V) (k : List UInt8) (ks : List (List UInt8)) : V.pairs (x :: y :: r) (k :: ks) = quoteJ k ++ (58 : UInt8) :: (x.show ++ (44 : UInt8) :: V.pairs (y :: r) ks) := by
  rw [pairs_cons, pairsMore_cons, pairs_cons]; rfl
theorem begins_full {s t : List UInt8} (h : beginsB s t = true) : s = t ++ s.drop t.length := by
  unfold beginsB at h
  have : s.take t.length = t := by simpa using h
  conv => lhs; rw [← List.take_append_drop t.length s, this]
/-- what is read is a value's text -/
def OnlyV (f : Nat) : Prop := ∀ (s : List UInt8) (v : V) (r : List UInt8), valueC f s = some (v, r) → s = v.show ++ r
def OnlyG (f : Nat) : Prop := ∀ (obj : Bool) (s : List UInt8) (ks : List (List UInt8)) (l : List V) (v : V) (r : List UInt8), groupC f obj s ks l = some (v, r) →
  ∃ x l2 ks2, v = .mk (if obj then 6 else 5) 0 [] (l ++ x :: l2) (ks ++ ks2) ∧ (if obj then ks2.length = l2.length + 1 ∧ s = V.pairs (x :: l2) ks2 ++ 125 :: r else ks2 = [] ∧ s = V.items (x :: l2) ++ 93 :: r)
theorem onlyV (f : Nat) (hg : OnlyG f) : OnlyV (f + 1) := by
  intro s v r h
  unfold valueC at h
  split at h
  · rename_i hb
    injection h with h; injection h with h1 h2
    rw [← h1, ← h2, show_one]; exact begins_full hb
  · split at h
    · rename_i hb
      injection h with h; injection h with h1 h2
      rw [← h1, ← h2, show_two, if_pos rfl]; exact begins_full hb
    · split at h
      · rename_i hb
        injection h with h; injection h with h1 h2
        rw [← h1, ← h2, show_two, if_neg (by decide)]; exact begins_full hb
      · split at h
        · split at h
          · rename_i hq
            injection h with h; injection h with h1 h2
            rw [← h1, ← h2, show_four]; exact quotedC_only hq
          · cases h
        · split at h
          · rename_i hb
            have e := begins_one hb
            split at h
            · rename_i hb2
              have e2 := begins_one hb2
              injection h with h; injection h with h1 h2
              rw [← h1, ← h2, show_list, items_nil]
              rw [List.drop_drop] at e2
              conv => lhs; rw [e, e2]
              rfl
            · obtain ⟨x, l2, ks2, e1, e2⟩ := hg _ _ _ _ _ _ h
              simp only [Bool.false_eq_true, if_false] at e1 e2
              obtain ⟨rfl, e2⟩ := e2
              rw [e1, show_list]
              conv => lhs; rw [e, e2]
              simp
          · split at h
            · rename_i hb
              have e := begins_one hb
              split at h
              · rename_i hb2
                have e2 := begins_one hb2
                injection h with h; injection h with h1 h2
                rw [← h1, ← h2, show_object, pairs_nil]
                rw [List.drop_drop] at e2
                conv => lhs; rw [e, e2]
                rfl
              · obtain ⟨x, l2, ks2, e1, e2⟩ := hg _ _ _ _ _ _ h
                simp only [if_true] at e1 e2
                obtain ⟨_, e2⟩ := e2
                rw [e1, show_object]
                conv => lhs; rw [e, e2]
                simp
            · split at h
              · rename_i hn
                injection h with h; injection h with h1 h2
                rw [← h1, ← h2, show_three]; exact numberC_only hn
              · cases h
theorem onlyG (f : Nat) (hv : OnlyV f) (hg : OnlyG f) : OnlyG (f + 1) := by
  intro obj s ks l v r h
  unfold groupC at h
  cases obj with
  | false =>
    simp only [Bool.false_eq_true, if_false] at h ⊢
    split at h
    · cases h
    · rename_i x r1 hx
      have e := hv _ _ _ hx
      split at h
      · rename_i hb
        have e1 := begins_one hb
        obtain ⟨y, l2, ks2, h1, h2⟩ := hg _ _ _ _ _ _ h
        simp only [Bool.false_eq_true, if_false] at h1 h2
        obtain ⟨rfl, h2⟩ := h2
        refine ⟨x, y :: l2, [], by rw [h1]; simp, rfl, ?_⟩
        rw [items_two, e, e1, h2]; simp
      · split at h
        · rename_i hb
          have e1 := begins_one hb
          injection h with h; injection h with h1 h2
          refine ⟨x, [], [], by rw [← h1]; simp, rfl, ?_⟩
          rw [items_cons, itemsMore_nil, e, e1, ← h2]; simp
        · cases h
  | true =>
    simp only [if_true] at h ⊢
    split at h
    · cases h
    · rename_i ks' s' hk
      split at hk
      · rename_i t r0 hq
        have eq := quotedC_only hq
        split at hk
        · rename_i hb0
          have e0 := begins_one hb0
          injection hk with hk; injection hk with hk1 hk2
          subst hk1
          rw [← hk2] at h
          split at h
          · cases h
          · rename_i x r1 hx
            have e := hv _ _ _ hx
            split at h
            · rename_i hb
              have e1 := begins_one hb
              obtain ⟨y, l2, ks2, h1, h2⟩ := hg _ _ _ _ _ _ h
              simp only [if_true] at h1 h2
              obtain ⟨hl, h2⟩ := h2
              refine ⟨x, y :: l2, t :: ks2, by rw [h1]; simp, by simp [hl], ?_⟩
              rw [pairs_two, eq, e0, e, e1, h2]
              simp only [List.append_assoc, List.cons_append]
            · split at h
              · rename_i hb
                have e1 := begins_one hb
                injection h with h; injection h with h1 h2
                refine ⟨x, [], [t], by rw [← h1], rfl, ?_⟩
                have q1 : s = quoteJ t ++ 58 :: (x.show ++ 125 :: r1.drop 1) := by rw [← e1, ← e, ← e0]; exact eq
                rw [pairs_cons, pairsMore_nil, q1, ← h2]; simp
              · cases h
        · cases hk
      · cases hk
theorem only_all : ∀ f, OnlyV f ∧ OnlyG f
  | 0 => by
    constructor
    · intro s v r h; unfold valueC at h; cases h
    · intro obj s ks l v r h; unfold groupC at h; cases h
  | f + 1 => ⟨onlyV f (only_all f).2, onlyG f (only_all f).1 (only_all f).2⟩

/-! ## every good value's text is read -/
theorem noNum_cons {c : UInt8} {r : List UInt8} (h : numC c = false) : noNum (c :: r) = true := by simp [noNum, h]
def BkV (f : Nat) : Prop := ∀ (v : V) (d : Nat) (r : List UInt8), v.fits d = true → v.size ≤ f → noNum r = true → valueC f (v.show ++ r) = some (v, r)
def BkL (f : Nat) : Prop := ∀ (x : V) (l : List V) (d : Nat) (acc : List V) (r : List UInt8), x.fits d = true → V.fitsAll l d = true → V.sizes (x :: l) ≤ f → groupC f false (V.items (x :: l) ++ 93 :: r) [] acc = some (.mk 5 0 [] (acc ++ x :: l) [], r)
def BkO (f : Nat) : Prop := ∀ (k : List UInt8) (x : V) (l : List V) (ks : List (List UInt8)) (d : Nat) (akc : List (List UInt8)) (acc : List V) (r : List UInt8), x.fits d = true → V.fitsAll l d = true → V.sizes (x :: l) ≤ f → ks.length = l.length →
  groupC f true (V.pairs (x :: l) (k :: ks) ++ 125 :: r) akc acc = some (.mk 6 0 [] (acc ++ x :: l) (akc ++ k :: ks), r)
theorem bkL (f : Nat) (ihV : BkV f) (ihL : BkL f) : BkL (f + 1) := by
  intro x l d acc r hx hl hs
  rw [sizes_cons] at hs
  unfold groupC
  simp only [Bool.false_eq_true, if_false]
  cases l with
  | nil =>
    have e : V.items [x] ++ 93 :: r = x.show ++ 93 :: r := by rw [items_cons, itemsMore_nil]; simp
    rw [e, ihV x d _ hx (by omega) (noNum_cons rfl)]
    simp only
    rw [b_one (d := 44) (by decide), b_same]; simp
  | cons y l =>
    have e : V.items (x :: y :: l) ++ 93 :: r = x.show ++ 44 :: (V.items (y :: l) ++ 93 :: r) := by rw [items_two]; simp
    rw [e, ihV x d _ hx (by omega) (noNum_cons rfl)]
    simp only
    rw [b_same, if_pos rfl]
    unfold V.fitsAll at hl
    simp only [Bool.and_eq_true] at hl
    show groupC f false (V.items (y :: l) ++ 93 :: r) [] (acc ++ [x]) = _
    rw [ihL y l d (acc ++ [x]) r hl.1 hl.2 (by omega)]
    simp
theorem bkO (f : Nat) (ihV : BkV f) (ihO : BkO f) : BkO (f + 1) := by
  intro k x l ks d akc acc r hx hl hs hk
  rw [sizes_cons] at hs
  unfold groupC
  simp only [if_true]
  cases l with
  | nil =>
    obtain rfl : ks = [] := List.length_eq_zero_iff.1 hk
    have e : V.pairs [x] [k] ++ 125 :: r = quoteJ k ++ 58 :: (x.show ++ 125 :: r) := by rw [pairs_cons, pairsMore_nil]; simp
    rw [e, quotedC_back]
    simp only
    rw [b_same, if_pos rfl]
    show (match valueC f (x.show ++ 125 :: r) with | none => none | some (x, r) => _) = _
    rw [ihV x d _ hx (by omega) (noNum_cons rfl)]
    simp only
    rw [b_one (d := 44) (by decide), b_same]; simp
  | cons y l =>
    cases ks with
    | nil => simp at hk
    | cons k2 ks =>
      have e : V.pairs (x :: y :: l) (k :: k2 :: ks) ++ 125 :: r = quoteJ k ++ 58 :: (x.show ++ 44 :: (V.pairs (y :: l) (k2 :: ks) ++ 125 :: r)) := by rw [pairs_two]; simp
      rw [e, quotedC_back]
      simp only
      rw [b_same, if_pos rfl]
      show (match valueC f (x.show ++ 44 :: (V.pairs (y :: l) (k2 :: ks) ++ 125 :: r)) with | none => none | some (x, r) => _) = _
      rw [ihV x d _ hx (by omega) (noNum_cons rfl)]
      simp only
      rw [b_same, if_pos rfl]
      unfold V.fitsAll at hl
      simp only [Bool.and_eq_true] at hl
      show groupC f true (V.pairs (y :: l) (k2 :: ks) ++ 125 :: r) (akc ++ [k]) (acc ++ [x]) = _
      rw [ihO k2 y l ks d (akc ++ [k]) (acc ++ [x]) r hl.1 hl.2 (by omega) (by simpa using hk)]
      simp
theorem bkV (f : Nat) (ihL : BkL f) (ihO : BkO f) : BkV (f + 1) := by
  intro v d r hf hs hr
  obtain ⟨k, n, t, l, ks⟩ := v
  cases d with
  | zero => rw [fits_zero] at hf; cases hf
  | succ d =>
    rw [fits_mk, Bool.and_eq_true] at hf
    obtain ⟨hh, hl⟩ := hf
    have H := head_says hh
    rw [size_mk] at hs
    have hk : k = 1 ∨ k = 2 ∨ k = 3 ∨ k = 4 ∨ k = 5 ∨ k = 6 := by have := H.kind; omega
    rcases hk with rfl | rfl | rfl | rfl | rfl | rfl
    · obtain rfl := H.zero (by decide) (by decide)
      obtain rfl := H.text (by decide)
      obtain rfl := zero_list (H.list (by decide) (by decide))
      obtain rfl := H.none (by decide)
      rw [show_one]
      unfold valueC; rw [begins_app, if_pos rfl]; rfl
    · obtain rfl := H.text (by decide)
      obtain rfl := zero_list (H.list (by decide) (by decide))
      obtain rfl := H.none (by decide)
      rw [show_two]
      rcases H.bool rfl with rfl | rfl
      · rw [if_neg (by decide)]
        unfold valueC
        have e : beginsB (falseT ++ r) nullT = false := b_null (by decide)
        have e2 : beginsB (falseT ++ r) trueT = false := b_true (by decide)
        rw [e, e2, begins_app]; rfl
      · rw [if_pos rfl]
        unfold valueC
        have e : beginsB (trueT ++ r) nullT = false := b_null (by decide)
        rw [e, begins_app]; rfl
    · obtain rfl := H.text (by decide)
      obtain rfl := zero_list (H.list (by decide) (by decide))
      obtain rfl := H.none (by decide)
      rw [show_three]
      have hb := numberC_back n (H.num rfl) r hr
      obtain ⟨c, r', e, hc⟩ : ∃ c r', decI n ++ r = c :: r' ∧ (isDigit c = true ∨ c = 45) := by
        obtain ⟨c, r', e, hc⟩ := decL_first n.natAbs
        unfold decI
        by_cases h : n < 0
        · rw [if_pos h]; exact ⟨45, _, rfl, .inr rfl⟩
        · rw [if_neg h, e]; exact ⟨c, _, rfl, .inl hc⟩
      rw [e] at hb ⊢
      have hne : ∀ x : UInt8, isDigit x = false → x ≠ 45 → c ≠ x := fun x h1 h2 => by
        rcases hc with h | h
        · exact digit_ne h h1
        · intro e; exact h2 (e.symm.trans h)
      unfold valueC
      rw [b_null (hne _ rfl (by decide)), b_true (hne _ rfl (by decide)), b_false (hne _ rfl (by decide)), b_one (d := 34) (hne _ rfl (by decide)), b_one (d := 91) (hne _ rfl (by decide)), b_one (d := 123) (hne _ rfl (by decide)), hb]
      rfl
    · obtain rfl := H.zero (by decide) (by decide)
      obtain rfl := zero_list (H.list (by decide) (by decide))
      obtain rfl := H.none (by decide)
      rw [show_four]
      have hq := quotedC_back t r
      have e : quoteJ t ++ r = 34 :: (quoteT t ++ r) := rfl
      rw [e] at hq ⊢
      unfold valueC
      rw [b_null (by decide), b_true (by decide), b_false (by decide), b_same, hq]; rfl
    · obtain rfl := H.zero (by decide) (by decide)
      obtain rfl := H.text (by decide)
      obtain rfl := H.none (by decide)
      rw [show_list]
      cases l with
      | nil =>
        rw [items_nil]
        show valueC (f + 1) (91 :: 93 :: r) = _
        unfold valueC
        rw [b_null (by decide), b_true (by decide), b_false (by decide), b_one (d := 34) (by decide), b_same]
        simp only [List.drop_succ_cons, List.drop_zero, Bool.false_eq_true, if_false, if_true]
        rw [b_same]; rfl
      | cons x l =>
        unfold V.fitsAll at hl
        simp only [Bool.and_eq_true] at hl
        obtain ⟨c, rr, ec, hc⟩ := show_first x
        have e : 91 :: (V.items (x :: l) ++ [93]) ++ r = 91 :: (V.items (x :: l) ++ 93 :: r) := by simp
        have e2 : V.items (x :: l) ++ 93 :: r = c :: (rr ++ V.itemsMore l ++ 93 :: r) := by rw [items_cons, ec]; simp
        have h2 := ihL x l d [] r hl.1 hl.2 (by omega)
        rw [e]
        rw [e2] at h2 ⊢
        unfold valueC
        rw [b_null (by decide), b_true (by decide), b_false (by decide), b_one (d := 34) (by decide), b_same]
        show (if beginsB (c :: (rr ++ V.itemsMore l ++ 93 :: r)) [93] then _ else groupC f false (c :: (rr ++ V.itemsMore l ++ 93 :: r)) [] []) = _
        rw [b_one hc, h2]; rfl
    · obtain rfl := H.zero (by decide) (by decide)
      obtain rfl := H.text (by decide)
      rw [show_object]
      have hkl := H.keys rfl
      cases l with
      | nil =>
        obtain rfl := List.length_eq_zero_iff.1 hkl
        rw [pairs_nil]
        show valueC (f + 1) (123 :: 125 :: r) = _
        unfold valueC
        rw [b_null (by decide), b_true (by decide), b_false (by decide), b_one (d := 34) (by decide), b_one (d := 91) (by decide), b_same]
        simp only [List.drop_succ_cons, List.drop_zero, Bool.false_eq_true, if_false, if_true]
        rw [b_same]; rfl
      | cons x l =>
        cases ks with
        | nil => simp at hkl
        | cons k ks =>
          unfold V.fitsAll at hl
          simp only [Bool.and_eq_true] at hl
          have e : 123 :: (V.pairs (x :: l) (k :: ks) ++ [125]) ++ r = 123 :: (V.pairs (x :: l) (k :: ks) ++ 125 :: r) := by simp
          have e2 : V.pairs (x :: l) (k :: ks) ++ 125 :: r = 34 :: (quoteT k ++ 58 :: (x.show ++ V.pairsMore l ks) ++ 125 :: r) := by rw [pairs_cons]; rfl
          have h2 := ihO k x l ks d [] [] r hl.1 hl.2 (by omega) (by simpa using hkl)
          rw [e]
          rw [e2] at h2 ⊢
          unfold valueC
          rw [b_null (by decide), b_true (by decide), b_false (by decide), b_one (d := 34) (by decide), b_one (d := 91) (by decide), b_same]
          show (if beginsB (34 :: (quoteT k ++ 58 :: (x.show ++ V.pairsMore l ks) ++ 125 :: r)) [125] then _ else groupC f true (34 :: (quoteT k ++ 58 :: (x.show ++ V.pairsMore l ks) ++ 125 :: r)) [] []) = _
          rw [b_one (by decide), h2]; rfl
theorem bk_all : ∀ f, BkV f ∧ BkL f ∧ BkO f
  | 0 => by
    refine ⟨?_, ?_, ?_⟩
    · intro v d r _ h; exact absurd h (by have := size_pos v; omega)
    · intro x l d acc r _ _ h; rw [sizes_cons] at h; omega
    · intro k x l ks d akc acc r _ _ h; rw [sizes_cons] at h; omega
  | f + 1 => ⟨bkV f (bk_all f).2.1 (bk_all f).2.2, bkL f (bk_all f).1 (bk_all f).2.1, bkO f (bk_all f).1 (bk_all f).2.2⟩
/-- what the code's Parse answers -/
def parseC (f : Nat) (s : List UInt8) : V × Int :=
  if 4096 < s.length then (V.zero, 3) else
    match valueC f s with
    | some (v, []) => if v.good then (if v.depth ≤ 8 then (v, 0) else (V.zero, 4)) else (V.zero, 2)
    | _ => (V.zero, 2)
/-- it is the document's -/
theorem parseC_eq (f : Nat) (s : List UInt8) (hf : 2 * s.length ≤ f) : parseC f s = parseV s := by
  unfold parseC parseV
  by_cases hl : 4096 < s.length
  · rw [if_pos hl, if_pos hl]
  · rw [if_neg hl, if_neg hl]
    cases hr : readV s with
    | some v =>
      obtain ⟨⟨d, hd⟩, hs⟩ := readV_some hr
      have hb := (bk_all f).1 v d [] hd (by have := size_show d v hd; rw [hs] at this; omega) rfl
      rw [List.append_nil, hs] at hb
      rw [hb]
      simp only
      rw [if_pos (fits_isgood hd), fits_good, fits_isgood hd]
      simp
    | none =>
      simp only
      cases hv : valueC f s with
      | none => rfl
      | some x =>
        obtain ⟨v, r⟩ := x
        cases r with
        | cons c r => rfl
        | nil =>
          simp only
          by_cases hg : v.good = true
          · have e := (only_all f).1 s v [] hv
            rw [List.append_nil] at e
            have := readV_of (s := s) (v := v) ⟨⟨_, good_fits hg⟩, e.symm⟩ (by omega)
            rw [this] at hr; cases hr
          · rw [if_neg hg]
end Go.Proofs.YtcbajbpdgmmaeaaDoor
namespace Go.Proofs.YtcbajbpdgmmaeaaDoor

def wKty : List UInt8 := [107, 116, 121]
def wOct : List UInt8 := [111, 99, 116]
def wAlg : List UInt8 := [97, 108, 103]
def wHs : List UInt8 := [72, 83, 50, 53, 54]
def wKid : List UInt8 := [107, 105, 100]
def wK : List UInt8 := [107]
def wKeys : List UInt8 := [107, 101, 121, 115]
def textV (t : List UInt8) : V := .mk 4 0 t [] []
/-- a key's object -/
def keyV (p : List UInt8 × List UInt8) : V := .mk 6 0 [] [textV wOct, textV wHs, textV p.1, textV (enc p.2)] [wKty, wAlg, wKid, wK]
def listV (l : PL) : V := .mk 5 0 [] (l.map keyV) []
def setV (l : PL) : V := .mk 6 0 [] [listV l] [wKeys]
/-- the text of a set of keys: of the first ones -/
def setT (l : PL) : List UInt8 := (setV (l.take 64)).show

/-! ## the value is good -/
theorem textV_fits (t : List UInt8) (d : Nat) : (textV t).fits (d + 1) = true := by
  unfold textV; rw [fits_mk]; simp [headB, V.fitsAll, unlikeB]
theorem keyV_fits (p : List UInt8 × List UInt8) (d : Nat) : (keyV p).fits (d + 2) = true := by
  unfold keyV; rw [fits_mk]
  have h : headB 6 0 [] 4 [wKty, wAlg, wKid, wK] = true := by decide +kernel
  simp only [List.length_cons, List.length_nil, h, Bool.true_and]
  simp [V.fitsAll, textV_fits]
theorem listV_fits (l : PL) (h : l.length ≤ 64) (d : Nat) : (listV l).fits (d + 3) = true := by
  unfold listV; rw [fits_mk]
  simp only [Bool.and_eq_true]
  refine ⟨?_, (fitsAll_iff _ _).2 fun v hv => ?_⟩
  · simp [headB, unlikeB, h]
  · obtain ⟨p, _, rfl⟩ := List.mem_map.1 hv
    exact keyV_fits p d
theorem setV_fits (l : PL) (h : l.length ≤ 64) (d : Nat) : (setV l).fits (d + 4) = true := by
  unfold setV; rw [fits_mk]
  simp only [Bool.and_eq_true]
  refine ⟨show headB 6 0 [] 1 [wKeys] = true by decide +kernel, ?_⟩
  simp [V.fitsAll, listV_fits l h d]
theorem setV_text (l : PL) (h : l.length ≤ 64) : TextOf (setV l).show (setV l) := ⟨⟨4, setV_fits l h 0⟩, rfl⟩

/-! ## its text -/
theorem quoteC_ltr : ∀ n : Nat, n < 64 → quoteC (ltr n) = [ltr n] := by decide +kernel
theorem quoteT_ds (l : List Nat) (h : ∀ d ∈ l, d < 64) : quoteT (ds l) = ds l ++ [34] := by
  induction l with
  | nil => rfl
  | cons d l ih =>
    show quoteT (ltr d :: ds l) = ltr d :: ds l ++ [34]
    rw [quoteT, quoteC_ltr d (h d (by simp)), ih fun x hx => h x (by simp [hx])]; rfl
theorem quoteT_enc (l : List UInt8) : quoteT (enc l) = enc l ++ [34] := by
  rcases letters (enc l) with ⟨l', e, h⟩ | ⟨p, c, r, e, hp, hc⟩
  · rw [e]; exact quoteT_ds l' h
  · have h1 := unS_enc l
    rw [e, unS_none p c r hp hc] at h1
    cases h1
theorem quoteJ_enc (l : List UInt8) : quoteJ (enc l) = 34 :: (enc l ++ [34]) := by rw [quoteJ, quoteT_enc]
/-- {"kty":"oct","alg":"HS256","kid": .. ,"k":" .. "} -/
def keyFront : List UInt8 := [123, 34, 107, 116, 121, 34, 58, 34, 111, 99, 116, 34, 44, 34, 97, 108, 103, 34, 58, 34, 72, 83, 50, 53, 54, 34, 44, 34, 107, 105, 100, 34, 58]
def keyMid : List UInt8 := [44, 34, 107, 34, 58, 34]
def jkT (p : List UInt8 × List UInt8) : List UInt8 := keyFront ++ quoteJ p.1 ++ keyMid ++ enc p.2 ++ [34, 125]
theorem textV_show (t : List UInt8) : (textV t).show = quoteJ t := by unfold textV V.show; simp
theorem qj_kty : quoteJ wKty = [34, 107, 116, 121, 34] := by decide +kernel
theorem qj_oct : quoteJ wOct = [34, 111, 99, 116, 34] := by decide +kernel
theorem qj_alg : quoteJ wAlg = [34, 97, 108, 103, 34] := by decide +kernel
theorem qj_hs : quoteJ wHs = [34, 72, 83, 50, 53, 54, 34] := by decide +kernel
theorem qj_kid : quoteJ wKid = [34, 107, 105, 100, 34] := by decide +kernel
theorem qj_k : quoteJ wK = [34, 107, 34] := by decide +kernel
theorem qj_keys : quoteJ wKeys = [34, 107, 101, 121, 115, 34] := by decide +kernel
theorem keyV_show (p : List UInt8 × List UInt8) : (keyV p).show = jkT p := by
  unfold keyV
  rw [show_object, pairs_cons, pairsMore_cons, pairsMore_cons, pairsMore_cons, pairsMore_nil]
  simp only [textV_show, List.headD_cons, List.tail_cons, qj_kty, qj_oct, qj_alg, qj_hs, qj_kid, qj_k, quoteJ_enc]
  simp [jkT, keyFront, keyMid]
/-- the items, each behind a comma but the first -/
def itemsT (l : PL) : List UInt8 := V.items (l.map keyV)
theorem more_snoc (l : List V) (x : V) : V.itemsMore (l ++ [x]) = V.itemsMore l ++ 44 :: x.show := by
  induction l with
  | nil => show V.itemsMore [x] = _; rw [itemsMore_cons, itemsMore_nil]; simp
  | cons v l ih => rw [List.cons_append, itemsMore_cons, itemsMore_cons, ih]; simp
theorem itemsT_nil : itemsT [] = [] := by unfold itemsT; rw [List.map_nil, items_nil]
theorem itemsT_one (p : List UInt8 × List UInt8) : itemsT [p] = jkT p := by
  unfold itemsT
  show V.items [keyV p] = _
  rw [items_cons, itemsMore_nil, keyV_show]; simp
theorem itemsT_snoc (l : PL) (p : List UInt8 × List UInt8) (h : 0 < l.length) : itemsT (l ++ [p]) = itemsT l ++ [44] ++ jkT p := by
  unfold itemsT
  cases l with
  | nil => simp at h
  | cons q l =>
    rw [List.map_append, List.map_cons, List.map_cons, List.map_nil, List.cons_append, items_cons, items_cons, more_snoc, keyV_show p]; simp
theorem listV_show (l : PL) : (listV l).show = 91 :: (itemsT l ++ [93]) := by unfold listV; rw [show_list]; rfl
/-- {"keys":[ .. ]} -/
def setFront : List UInt8 := [123, 34, 107, 101, 121, 115, 34, 58, 91]
theorem setV_show (l : PL) : (setV l).show = setFront ++ itemsT l ++ [93, 125] := by
  unfold setV
  rw [show_object, pairs_cons, pairsMore_nil, listV_show]
  simp only [List.headD_cons, qj_keys]
  simp [setFront]
theorem setT_is (l : PL) : setT l = setFront ++ itemsT (l.take 64) ++ [93, 125] := setV_show _
theorem quoteT_le7 (l : List UInt8) : (quoteT l).length ≤ 6 * l.length + 1 := by
  induction l with
  | nil => simp [quoteT]
  | cons c r ih =>
    have h1 : (quoteC c).length ≤ 6 := by
      unfold quoteC; split
      · simp
      · split <;> simp
    rw [quoteT, List.length_append, List.length_cons]; omega
theorem jkT_le (p : List UInt8 × List UInt8) : (jkT p).length ≤ 6 * p.1.length + 2 * p.2.length + 50 := by
  have h1 := quoteT_le7 p.1
  have h2 := enc_len p.2
  unfold jkT
  simp only [List.length_append, List.length_cons, List.length_nil, quoteJ, keyFront, keyMid]
  omega
theorem itemsMore_le (M : Nat) : ∀ (l : PL), (∀ p ∈ l, (jkT p).length ≤ M) → (V.itemsMore (l.map keyV)).length ≤ l.length * (M + 1)
  | [], _ => by rw [List.map_nil, itemsMore_nil]; simp
  | p :: l, h => by
    have ih := itemsMore_le M l fun q hq => h q (by simp [hq])
    have hp := h p (by simp)
    rw [List.map_cons, itemsMore_cons, List.length_cons, List.length_append, keyV_show, List.length_cons, Nat.succ_mul]; omega
theorem itemsT_le {M : Nat} {l : PL} (h : ∀ p ∈ l, (jkT p).length ≤ M) : (itemsT l).length ≤ l.length * (M + 1) := by
  unfold itemsT
  cases l with
  | nil => rw [List.map_nil, items_nil]; simp
  | cons p l =>
    have h2 := itemsMore_le M l fun q hq => h q (by simp [hq])
    have hp := h p (by simp)
    rw [List.map_cons, items_cons, List.length_append, keyV_show, List.length_cons, Nat.succ_mul]; omega
theorem setT_le {M : Nat} {l : PL} (h : ∀ p ∈ l, (jkT p).length ≤ M) : (setT l).length ≤ 64 * (M + 1) + 11 := by
  have h1 := itemsT_le (M := M) (l := l.take 64) fun p hp => h p (List.mem_of_mem_take hp)
  have h2 : (l.take 64).length ≤ 64 := by rw [List.length_take]; omega
  have h3 := Nat.mul_le_mul_right (M + 1) h2
  rw [setT_is]
  simp only [List.length_append, setFront, List.length_cons, List.length_nil]
  omega
theorem setT_pos (l : PL) : 0 < (setT l).length := by
  rw [setT_is]; simp [setFront]

/-! ## one text ends where it ends -/
theorem size_mk6 (k n : Int) (t : List UInt8) (l : List V) (ks : List (List UInt8)) : (V.mk k n t l ks).size = 2 + V.sizes l := by unfold V.size; rfl
/-- an object's text is read whatever stands behind it -/
theorem object_more {n : Int} {t : List UInt8} {l : List V} {ks : List (List UInt8)} {d : Nat} (h : (V.mk 6 n t l ks).fits d = true) (r : List UInt8) (f : Nat) (hf : (V.mk 6 n t l ks).size ≤ f) : valueC f ((V.mk 6 n t l ks).show ++ r) = some (.mk 6 n t l ks, r) := by
  obtain ⟨d, rfl⟩ : ∃ e, d = e + 1 := by cases d with
    | zero => unfold V.fits at h; cases h
    | succ e => exact ⟨e, rfl⟩
  rw [fits_mk] at h
  simp only [Bool.and_eq_true] at h
  have H := head_says h.1
  have hn := H.zero (by decide) (by decide)
  have ht := H.text (by decide)
  have hk := H.keys rfl
  subst hn; subst ht
  rw [size_mk6] at hf
  obtain ⟨f, rfl⟩ : ∃ g, f = g + 1 := ⟨f - 1, by omega⟩
  cases l with
  | nil =>
    obtain rfl : ks = [] := List.length_eq_zero_iff.1 hk
    have e : (V.mk 6 0 [] [] []).show ++ r = 123 :: 125 :: r := by rw [show_object]; unfold V.pairs; rfl
    rw [e]
    unfold valueC
    rw [b_null (by decide), b_true (by decide), b_false (by decide), b_one (d := 34) (by decide), b_one (d := 91) (by decide), b_same]
    show (if beginsB (125 :: r) [125] then some (V.mk 6 0 [] [] [], r) else groupC f true (125 :: r) [] []) = _
    rw [b_same]; rfl
  | cons x l =>
    cases ks with
    | nil => simp at hk
    | cons k ks =>
      have hl := h.2
      unfold V.fitsAll at hl
      simp only [Bool.and_eq_true] at hl
      have e : (V.mk 6 0 [] (x :: l) (k :: ks)).show ++ r = 123 :: (V.pairs (x :: l) (k :: ks) ++ 125 :: r) := by rw [show_object]; simp
      have e2 : V.pairs (x :: l) (k :: ks) ++ 125 :: r = 34 :: (quoteT k ++ 58 :: (x.show ++ V.pairsMore l ks) ++ 125 :: r) := by rw [pairs_cons]; rfl
      have h2 := (bk_all f).2.2 k x l ks d [] [] r hl.1 hl.2 (by omega) (by simpa using hk)
      rw [e]
      rw [e2] at h2 ⊢
      unfold valueC
      rw [b_null (by decide), b_true (by decide), b_false (by decide), b_one (d := 34) (by decide), b_one (d := 91) (by decide), b_same]
      show (if beginsB (34 :: (quoteT k ++ 58 :: (x.show ++ V.pairsMore l ks) ++ 125 :: r)) [125] then _ else groupC f true (34 :: (quoteT k ++ 58 :: (x.show ++ V.pairsMore l ks) ++ 125 :: r)) [] []) = _
      rw [b_one (by decide), h2]; rfl
/-- what begins with a brace is an object -/
theorem brace_object {v : V} {d : Nat} (h : v.fits d = true) {r : List UInt8} (hs : v.show = 123 :: r) : v.kind = 6 := by
  obtain ⟨k, n, t, l, ks⟩ := v
  obtain ⟨d, rfl⟩ : ∃ e, d = e + 1 := by cases d with
    | zero => unfold V.fits at h; cases h
    | succ e => exact ⟨e, rfl⟩
  rw [fits_mk] at h
  simp only [Bool.and_eq_true] at h
  have H := head_says h.1
  show k = 6
  by_cases h6 : k = 6
  · exact h6
  exfalso
  have hk := H.kind
  unfold V.show at hs
  have hd : ∀ n : Nat, ∀ r, decL n ≠ 123 :: r := fun n r e => by
    have := decL_all n 123 (by rw [e]; simp)
    revert this; decide
  rcases (show k = 1 ∨ k = 2 ∨ k = 3 ∨ k = 4 ∨ k = 5 by omega) with rfl | rfl | rfl | rfl | rfl
  · simp [nullT] at hs
  · simp only [show ¬ (2 : Int) = 1 by decide, if_false, if_true] at hs
    split at hs
    · simp [trueT] at hs
    · simp [falseT] at hs
  · simp only [show ¬ (3 : Int) = 1 by decide, show ¬ (3 : Int) = 2 by decide, if_false, if_true] at hs
    unfold decI at hs
    split at hs
    · simp at hs
    · exact hd _ _ hs
  · simp [quoteJ] at hs
  · simp at hs
/-- of two objects' texts none is the other's beginning -/
theorem object_end {a b : List UInt8} {u v : V} (hu : TextOf a u) (hv : TextOf (a ++ b) v) (eu : u.kind = 6) (ev : v.kind = 6) : b = [] := by
  obtain ⟨⟨d, hd⟩, hs⟩ := hu
  obtain ⟨⟨d', hd'⟩, hs'⟩ := hv
  obtain ⟨k, n, t, l, ks⟩ := u
  obtain ⟨k', n', t', l', ks'⟩ := v
  obtain rfl : k = 6 := eu
  obtain rfl : k' = 6 := ev
  have h1 := object_more hd b ((V.mk 6 n t l ks).size + (V.mk 6 n' t' l' ks').size) (by omega)
  have h2 := object_more hd' [] ((V.mk 6 n t l ks).size + (V.mk 6 n' t' l' ks').size) (by omega)
  rw [List.append_nil, hs', ← hs, h1] at h2
  injection h2 with h2
  exact ((Prod.mk.injEq _ _ _ _).mp h2).2
theorem readV_none {s : List UInt8} (h : ∀ v, TextOf s v → False) : readV s = none := by
  cases hr : readV s with
  | none => rfl
  | some v => exact (h v (readV_some hr)).elim
theorem parseV_form {s : List UInt8} (hl : s.length ≤ 4096) (h : ∀ v, TextOf s v → False) : parseV s = (V.zero, 2) := by
  unfold parseV
  rw [if_neg (by omega), readV_none h]
theorem setT_object (l : PL) : TextOf (setT l) (setV (l.take 64)) := setV_text _ (by rw [List.length_take]; omega)
theorem text_brace {s r : List UInt8} {v : V} (h : TextOf s v) (hs : s = 123 :: r) : v.kind = 6 := by
  obtain ⟨⟨d, hd⟩, h2⟩ := h
  exact brace_object hd (h2.trans hs)
theorem setT_brace (l : PL) : ∃ r, setT l = 123 :: r := ⟨_, by rw [setT_is]; rfl⟩
/-- a set that is cut off is none -/
theorem cut_none (l : PL) (n : Nat) (h : n < (setT l).length) (hl : (setT l).length ≤ 4096) : parseV ((setT l).take n) = (V.zero, 2) := by
  refine parseV_form (by rw [List.length_take]; omega) fun v hv => ?_
  obtain ⟨r, hr⟩ := setT_brace l
  have hne : (setT l).take n ≠ [] := fun e => by
    obtain ⟨-, h2⟩ := hv
    have := show_pos v
    rw [h2, e] at this; simp at this
  have hb : ∃ q, (setT l).take n = 123 :: q := by
    cases n with
    | zero => simp at hne
    | succ n => exact ⟨r.take n, by rw [hr]; rfl⟩
  obtain ⟨q, hq⟩ := hb
  have h0 := object_end (a := (setT l).take n) (b := (setT l).drop n) (v := setV (l.take 64)) hv (by rw [List.take_append_drop]; exact setT_object l) (text_brace hv hq) rfl
  have : ((setT l).drop n).length = 0 := by rw [h0]; rfl
  rw [List.length_drop] at this; omega
/-- a set behind which something stands is none -/
theorem more_none (l : PL) (c : UInt8) (hl : (setT l).length < 4096) : parseV (setT l ++ [c]) = (V.zero, 2) := by
  refine parseV_form (by rw [List.length_append, List.length_singleton]; omega) fun v hv => ?_
  obtain ⟨r, hr⟩ := setT_brace l
  have h0 := object_end (setT_object l) hv rfl (text_brace hv (r := r ++ [c]) (by rw [hr]; rfl))
  cases h0
theorem parse_set (l : PL) (hl : (setT l).length ≤ 4096) : parseV (setT l) = (setV (l.take 64), 0) := by
  unfold parseV
  rw [if_neg (by omega), readV_of (setT_object l) hl]
  simp only
  rw [if_pos (setV_fits _ (by rw [List.length_take]; omega) 4)]
end Go.Proofs.YtcbajbpdgmmaeaaDoor
namespace Go.Proofs.YtcbajbpdgmmaeaaDoor
open Go.RowKit
set_option linter.unusedVariables false
set_option linter.unusedSimpArgs false

theorem Tryd.infoValue : (Tryd.prog.info? 28).map (fun i => (i.zero, i.size, i.bytes)) = some (some (.agg #[.int .i64 0, .int .i64 0, .string ⟨#[]⟩, .slice none 0 0, .slice none 0 0]), 5, 80) := by kernel_rfl
/-- a row of values of the call's own, in block g -/
def VRow (w : World) (B g nl : Nat) : Prop := B ≤ g ∧ g < w.heap.size ∧ ∃ C : Array Value, w.heap[g]? = some (.cells C 28 (0, 0)) ∧ nl * 5 ≤ C.size
set_option maxRecDepth 100000 in
set_option maxHeartbeats 1000000 in
theorem cloneV_any (l : List V) (A : Option Addr) (c L N : Nat) (w : World) (hl : l.length ≤ 1000000) (hN : N ≤ w.heap.size) (h : l = [] ∨ ∃ b o, A = some ⟨b, o, none⟩ ∧ LIs w L N l b o) :
    Calls Tryd.prog 46 #[.slice A l.length c] w fun e w' => (∃ A' c', e = .returned (.slice A' l.length c') ∧ (l = [] ∨ ∃ g, A' = some ⟨g, 0, none⟩ ∧ VRow w' w.heap.size g l.length)) ∧ Below w.heap.size w w' := by
  obtain ⟨i0, hi, hz0, hz1, hz2⟩ := info_parts Tryd.infoValue
  have heq := fun (W : World) (a : Option Addr) (n c : Nat) => Lib.run_eql_slice_nil (P := Tryd.prog) W 25 28 a n c 0 0 Tryd.underlying25
  cases A with
  | none =>
    have hl0 : l = [] := by
      rcases h with h | ⟨b, o, e, _⟩
      · exact h
      · cases e
    subst hl0
    have heq0 := fun (W : World) => heq W none 0 c
    simp only [Option.isNone_none] at heq0
    show Calls Tryd.prog _ #[.slice none 0 c] w _
    clear heq h
    go_enter Tryd.func46, Tryd.ntmps46
    go_wp2
    go_ret
    exact ⟨⟨none, 0, rfl, .inl trivial⟩, Below.refl _ _⟩
  | some a =>
    obtain ⟨news, n1, n2, n3⟩ : ∃ news : List Value, news.length = l.length * 5 ∧ (∀ (o : Obj) j u, news[j]? = some u → (w.alloc o).cell? (a.add j) = some u) ∧ ∀ u ∈ news, u.oneCell' = true := by
      rcases h with rfl | ⟨b, o, e, h⟩
      · exact ⟨[], rfl, by simp, by simp⟩
      · obtain ⟨news, n1, n2, n3⟩ := h.flat
        injection e with e; subst e
        refine ⟨news, n1, ?_, n3⟩
        intro ob j u hu
        have h2 := n2 j u hu
        rw [Addr.add_lit]
        refine (((Below.refl w.heap.size w).alloc (Nat.le_refl _) ob).cell (p := ⟨b, o + j, none⟩) ?_).trans h2
        show b < w.heap.size
        refine Nat.lt_of_not_le fun hle => ?_
        have : w.cell? ⟨b, o + j, none⟩ = none := by simp [World.cell?, Array.getElem?_eq_none hle]
        rw [this] at h2; cases h2
    obtain ⟨nl, hnl⟩ : ∃ nl, l.length = nl := ⟨_, rfl⟩
    have NL := Lib.hid hnl
    rw [hnl] at hl n1 ⊢
    clear hnl h
    go_enter Tryd.func46, Tryd.ntmps46
    have hown : (w.alloc (.cells #[] 28)).ownsRow w.heap.size 28 5 (.slice (some ⟨w.heap.size, 0, none⟩) 0 0) 0 [] := ⟨by simp, Or.inr ⟨w.heap.size, 0, #[], rfl, Nat.le_refl _, heap_alloc_last w _, Nat.le_refl _, by unfold maxLen; decide, by simp, by simp⟩⟩
    go_wp2_with (at_builtin; refine wpList_append_own _ rfl (.tmp 5) (.tmp 6) 25 rfl w.heap.size 28 i0 _ 5 80 Tryd.underlying25 hi hz0 hz1 hz2 rfl (by decide) _ _ _ rfl hown a nl c news rfl n1 (n2 _) n3 (by unfold maxLen; omega) (by omega) (by simp) ?_)
    intro v' w1 hown' hg' _
    have hb1 : Below w.heap.size w w1 := ((Below.refl w.heap.size w).alloc (Nat.le_refl _) _).grown hg' (by simp) (fun j hj => (hown.lt j hj).1)
    obtain ⟨A', c', rfl, hr⟩ : ∃ A' c', v' = .slice A' nl c' ∧ (l = [] ∨ ∃ g, A' = some ⟨g, 0, none⟩ ∧ VRow w1 w.heap.size g nl) := by
      rcases hown'.2 with ⟨rfl, h0⟩ | ⟨g, cap, cur, rfl, hB, hg, h1, h2, h3, h4⟩
      · have : nl = 0 := by omega
        subst this
        exact ⟨none, 0, rfl, .inl (List.length_eq_zero_iff.1 NL.out)⟩
      · refine ⟨_, _, rfl, .inr ⟨g, rfl, hB, (Array.getElem?_eq_some_iff.1 hg).1, cur, hg, by omega⟩⟩
    go_wp2
    go_ret
    exact ⟨⟨_, _, rfl, hr⟩, hb1⟩
end Go.Proofs.YtcbajbpdgmmaeaaDoor
namespace Go.Proofs.YtcbajbpdgmmaeaaDoor
open Go.RowKit

theorem set_here {w : World} {b o : Nat} {C : Array Value} {t : TypeId} {fr : Nat × Nat} (h : w.heap[b]? = some (.cells C t fr)) (v : Value) : (w.setCell ⟨b, o, none⟩ v).heap[b]? = some (.cells (C.setIfInBounds o v) t fr) := by
  unfold World.setCell
  simp only [Array.getElem?_modify, if_true]
  rw [h]; rfl
theorem set_there {w : World} {b o b' : Nat} (v : Value) (h : b' ≠ b) : (w.setCell ⟨b, o, none⟩ v).heap[b']? = w.heap[b']? := Below.heap_setCell w ⟨b, o, none⟩ v b' h
theorem set_size (w : World) (a : Addr) (v : Value) : (w.setCell a v).heap.size = w.heap.size := by unfold World.setCell; simp
theorem cell_here {w : World} {b o : Nat} {C : Array Value} {t : TypeId} {fr : Nat × Nat} (h : w.heap[b]? = some (.cells C t fr)) : w.cell? ⟨b, o, none⟩ = C[o]? := by
  unfold World.cell?; simp only [h]; rfl
theorem cell_block {w w' : World} {b o : Nat} (h : w'.heap[b]? = w.heap[b]?) : w'.cell? ⟨b, o, none⟩ = w.cell? ⟨b, o, none⟩ := by unfold World.cell?; simp only [h]
theorem frozen_here {w : World} {b : Nat} {C : Array Value} {t : TypeId} (h : w.heap[b]? = some (.cells C t (0, 0))) (o : Nat) : w.frozen? ⟨b, o, none⟩ = false := by
  unfold World.frozen?; simp only [h]; simp
/-- five cells set -/
def set5 (w : World) (b o : Nat) (c0 c1 c2 c3 c4 : Value) : World := ((((w.setCell ⟨b, o, none⟩ c0).setCell ⟨b, o + 1, none⟩ c1).setCell ⟨b, o + 2, none⟩ c2).setCell ⟨b, o + 3, none⟩ c3).setCell ⟨b, o + 4, none⟩ c4
theorem set5_there {w : World} {b o b' : Nat} {c0 c1 c2 c3 c4 : Value} (h : b' ≠ b) : (set5 w b o c0 c1 c2 c3 c4).heap[b']? = w.heap[b']? := by
  unfold set5; rw [set_there _ h, set_there _ h, set_there _ h, set_there _ h, set_there _ h]
theorem set5_size (w : World) (b o : Nat) (c0 c1 c2 c3 c4 : Value) : (set5 w b o c0 c1 c2 c3 c4).heap.size = w.heap.size := by
  unfold set5; rw [set_size, set_size, set_size, set_size, set_size]
theorem set5_here {w : World} {b o : Nat} {c0 c1 c2 c3 c4 : Value} {C : Array Value} {t : TypeId} {fr : Nat × Nat} (h : w.heap[b]? = some (.cells C t fr)) :
    (set5 w b o c0 c1 c2 c3 c4).heap[b]? = some (.cells (((((C.setIfInBounds o c0).setIfInBounds (o + 1) c1).setIfInBounds (o + 2) c2).setIfInBounds (o + 3) c3).setIfInBounds (o + 4) c4) t fr) := by
  unfold set5; exact set_here (set_here (set_here (set_here (set_here h c0) c1) c2) c3) c4
theorem set5_five {w : World} {b o : Nat} {c0 c1 c2 c3 c4 : Value} {C : Array Value} {t : TypeId} {fr : Nat × Nat} (h : w.heap[b]? = some (.cells C t fr)) (ho : o + 5 ≤ C.size) : Five (set5 w b o c0 c1 c2 c3 c4) b o [c0, c1, c2, c3, c4] := by
  have hh := set5_here (o := o) (c0 := c0) (c1 := c1) (c2 := c2) (c3 := c3) (c4 := c4) h
  refine ⟨c0, c1, c2, c3, c4, rfl, ?_, ?_, ?_, ?_, ?_⟩ <;> rw [cell_here hh] <;> simp [Array.getElem?_setIfInBounds] <;> omega
theorem set5_other {w : World} {b o : Nat} {c0 c1 c2 c3 c4 : Value} {C : Array Value} {t : TypeId} {fr : Nat × Nat} (h : w.heap[b]? = some (.cells C t fr)) {q : Nat} (hq : q < o ∨ o + 5 ≤ q) : (set5 w b o c0 c1 c2 c3 c4).cell? ⟨b, q, none⟩ = w.cell? ⟨b, q, none⟩ := by
  have hh := set5_here (o := o) (c0 := c0) (c1 := c1) (c2 := c2) (c3 := c3) (c4 := c4) h
  rw [cell_here hh, cell_here h]
  simp only [Array.getElem?_setIfInBounds]
  rw [if_neg (by omega), if_neg (by omega), if_neg (by omega), if_neg (by omega), if_neg (by omega)]
theorem set5_below {w : World} {b o B : Nat} {c0 c1 c2 c3 c4 : Value} (hB : B ≤ b) : Below B w (set5 w b o c0 c1 c2 c3 c4) := by
  unfold set5
  exact (((((Below.refl B w).setCell (p := ⟨b, o, none⟩) hB c0).setCell (p := ⟨b, o + 1, none⟩) hB c1).setCell (p := ⟨b, o + 2, none⟩) hB c2).setCell (p := ⟨b, o + 3, none⟩) hB c3).setCell (p := ⟨b, o + 4, none⟩) hB c4
theorem five_other {w : World} {b o : Nat} {c0 c1 c2 c3 c4 : Value} {C : Array Value} {t : TypeId} {fr : Nat × Nat} (h : w.heap[b]? = some (.cells C t fr)) {q : Nat} {cs : List Value} (hf : Five w b q cs) (hq : q + 5 ≤ o) : Five (set5 w b o c0 c1 c2 c3 c4) b q cs := by
  obtain ⟨d0, d1, d2, d3, d4, e, m0, m1, m2, m3, m4⟩ := hf
  exact ⟨d0, d1, d2, d3, d4, e, (set5_other h (.inl (by omega))).trans m0, (set5_other h (.inl (by omega))).trans m1, (set5_other h (.inl (by omega))).trans m2, (set5_other h (.inl (by omega))).trans m3, (set5_other h (.inl (by omega))).trans m4⟩
/-- cells in a row of five that a block holds -/
theorem five_of {w : World} {b o : Nat} {C : Array Value} {t : TypeId} {fr : Nat × Nat} (h : w.heap[b]? = some (.cells C t fr)) (ho : o + 5 ≤ C.size) : ∃ c0 c1 c2 c3 c4, w.cell? ⟨b, o, none⟩ = some c0 ∧ w.cell? ⟨b, o + 1, none⟩ = some c1 ∧ w.cell? ⟨b, o + 2, none⟩ = some c2 ∧ w.cell? ⟨b, o + 3, none⟩ = some c3 ∧ w.cell? ⟨b, o + 4, none⟩ = some c4 := by
  refine ⟨C[o]'(by omega), C[o + 1]'(by omega), C[o + 2]'(by omega), C[o + 3]'(by omega), C[o + 4]'(by omega), ?_, ?_, ?_, ?_, ?_⟩ <;> rw [cell_here h] <;> exact Array.getElem?_eq_getElem _
theorem there5 {W : World} {q g k0 k1 k2 k3 k4 : Nat} {c0 c1 c2 c3 c4 : Value} (h : q ≠ g) :
    (((((W.setCell ⟨g, k0, none⟩ c0).setCell ⟨g, k1, none⟩ c1).setCell ⟨g, k2, none⟩ c2).setCell ⟨g, k3, none⟩ c3).setCell ⟨g, k4, none⟩ c4).heap[q]? = W.heap[q]? := by
  rw [set_there _ h, set_there _ h, set_there _ h, set_there _ h, set_there _ h]
theorem cell5 {W : World} {q o g k0 k1 k2 k3 k4 : Nat} {c0 c1 c2 c3 c4 : Value} (h : q ≠ g) :
    (((((W.setCell ⟨g, k0, none⟩ c0).setCell ⟨g, k1, none⟩ c1).setCell ⟨g, k2, none⟩ c2).setCell ⟨g, k3, none⟩ c3).setCell ⟨g, k4, none⟩ c4).cell? ⟨q, o, none⟩ = W.cell? ⟨q, o, none⟩ := cell_block (there5 h)
theorem box_of {w : World} {b : Nat} {c0 c1 c2 c3 c4 : Value} {t : TypeId} (h : w.heap[b]? = some (.cells #[c0, c1, c2, c3, c4] t (0, 0))) : Box w b c0 c1 c2 c3 c4 ∧ w.frozen? ⟨b, 0, none⟩ = false ∧ w.frozen? ⟨b, 1, none⟩ = false ∧ w.frozen? ⟨b, 2, none⟩ = false ∧ w.frozen? ⟨b, 3, none⟩ = false ∧ w.frozen? ⟨b, 4, none⟩ = false :=
  ⟨⟨cell_here h, cell_here h, cell_here h, cell_here h, cell_here h⟩, frozen_here h _, frozen_here h _, frozen_here h _, frozen_here h _, frozen_here h _⟩
end Go.Proofs.YtcbajbpdgmmaeaaDoor
