/- JSON: how far the document's reader reads, and how much it makes; how long a text is. -/
import Derived.Test.YtoijjcbcmjdggaaDoorJsonItems
import Derived.Test.YtoijjcbcmjdggaaDoorJsonSpec
import Derived.Test.YtoijjcbcmjdggaaDoorJsonMem
namespace Go.Proofs.YtoijjcbcmjdggaaDoor
set_option linter.unusedVariables false
set_option linter.unusedSimpArgs false

theorem wordT_le : ∀ (m : Nat) (l acc t : List UInt8) (k n : Nat), l.length ≤ m → wordT l acc k = some (t, n) → t.length + k + 1 ≤ n + acc.length ∧ n ≤ k + l.length ∧ k < n
  | 0, l, acc, t, k, n, hl, h => by
    have : l = [] := List.length_eq_zero_iff.1 (by omega)
    subst this
    unfold wordT at h; cases h
  | m + 1, [], acc, t, k, n, hl, h => by unfold wordT at h; cases h
  | m + 1, c :: r, acc, t, k, n, hl, h => by
    rw [List.length_cons] at hl ⊢
    unfold wordT at h
    by_cases h34 : c = 34
    · rw [if_pos h34] at h
      injection h with h; injection h with h1 h2
      subst h1; subst h2
      omega
    · rw [if_neg h34] at h
      by_cases h92 : c = 92
      · rw [if_pos h92] at h
        match r, hl, h with
        | [], hl, h => cases h
        | e :: r', hl, h =>
          dsimp only at h
          by_cases he : e = 34 ∨ e = 92
          · rw [if_pos he] at h
            have := wordT_le m r' _ t _ n (by simp at hl; omega) h
            rw [List.length_append, List.length_singleton] at this
            rw [List.length_cons]
            omega
          · rw [if_neg he] at h
            match r', hl, h with
            | x :: y :: h' :: l' :: r'', hl, h =>
              dsimp only at h
              split at h
              · have := wordT_le m r'' _ t _ n (by simp at hl; omega) h
                rw [List.length_append, List.length_singleton] at this
                simp only [List.length_cons]
                omega
              · cases h
            | [], _, h => cases h
            | [_], _, h => cases h
            | [_, _], _, h => cases h
            | [_, _, _], _, h => cases h
      · rw [if_neg h92] at h
        have := wordT_le m r _ t _ n (by omega) h
        rw [List.length_append, List.length_singleton] at this
        omega
theorem numT_le : ∀ (l : List UInt8) (m : Nat) (v : Int) (n : Nat), n ≤ (numT l m v n).2 ∧ (numT l m v n).2 ≤ n + l.length
  | [], m, v, n => by cases m <;> exact ⟨Nat.le_refl _, Nat.le_refl _⟩
  | c :: r, 0, v, n => ⟨Nat.le_refl _, by show n ≤ n + _; omega⟩
  | c :: r, m + 1, v, n => by
    rw [numT]
    by_cases h : isDigit c
    · rw [if_pos h]
      have := numT_le r m (v * 10 + (c.toNat - 48 : Int)) (n + 1)
      rw [List.length_cons]; omega
    · rw [if_neg h]
      exact ⟨Nat.le_refl _, by show n ≤ n + _; omega⟩
theorem begins_len {s t : List UInt8} (h : beginsB s t = true) : t.length ≤ s.length := by
  unfold beginsB at h
  have := congrArg List.length (eq_of_beq h)
  rw [List.length_take] at this
  omega
mutual
/-- how much a value holds -/
def V.wt : V → Nat
  | .mk _ _ t l ks => 1 + t.length + V.wts l + kwts ks
def V.wts : List V → Nat
  | [] => 0
  | v :: r => v.wt + V.wts r
def kwts : List (List UInt8) → Nat
  | [] => 0
  | k :: r => 1 + k.length + kwts r
end
theorem wt_mk (k n : Int) (t : List UInt8) (l : List V) (ks : List (List UInt8)) : (V.mk k n t l ks).wt = 1 + t.length + V.wts l + kwts ks := by conv => lhs; unfold V.wt
theorem wts_cons (v : V) (r : List V) : V.wts (v :: r) = v.wt + V.wts r := by conv => lhs; unfold V.wts
theorem wts_nil : V.wts [] = 0 := by unfold V.wts; rfl
theorem kwts_cons (k : List UInt8) (r : List (List UInt8)) : kwts (k :: r) = 1 + k.length + kwts r := by conv => lhs; unfold kwts
theorem kwts_nil : kwts [] = 0 := by unfold kwts; rfl
theorem wts_snoc (l : List V) (v : V) : V.wts (l ++ [v]) = V.wts l + v.wt := by
  induction l with
  | nil => rw [List.nil_append, wts_cons, wts_nil]; omega
  | cons u r ih => rw [List.cons_append, wts_cons, wts_cons, ih]; omega
theorem kwts_snoc (l : List (List UInt8)) (k : List UInt8) : kwts (l ++ [k]) = kwts l + (1 + k.length) := by
  induction l with
  | nil => rw [List.nil_append, kwts_cons, kwts_nil]; omega
  | cons u r ih => rw [List.cons_append, kwts_cons, kwts_cons, ih]; omega
theorem wt_pos (v : V) : 1 ≤ v.wt := by obtain ⟨k, n, t, l, ks⟩ := v; rw [wt_mk]; omega
theorem wts_mem {l : List V} {v : V} (h : v ∈ l) : v.wt ≤ V.wts l := by
  induction l with
  | nil => cases h
  | cons u r ih =>
    rw [wts_cons]
    rcases List.mem_cons.1 h with rfl | h
    · omega
    · have := ih h; omega
def ReadV (f : Nat) : Prop := ∀ s : List UInt8, (valueT f s).2 ≤ s.length ∧ ((valueT f s).2 ≠ 0 → (valueT f s).1.wt ≤ (valueT f s).2)
def ReadL (f : Nat) : Prop := ∀ (obj : Bool) (s : List UInt8) (n : Nat) (ks : List (List UInt8)) (l : List V), (loopT f obj s n ks l).2 ≤ n + s.length ∧
  ((loopT f obj s n ks l).2 ≠ 0 → n < (loopT f obj s n ks l).2 ∧ (loopT f obj s n ks l).1.wt + n ≤ (loopT f obj s n ks l).2 + V.wts l + kwts ks)
theorem wt_plain (k n : Int) (t : List UInt8) : (V.mk k n t [] []).wt = 1 + t.length := by rw [wt_mk, wts_nil, kwts_nil]; rfl
/-- the key ahead of an item -/
def keyT (obj : Bool) (s : List UInt8) (ks : List (List UInt8)) : Option (List (List UInt8) × Nat) :=
  if obj then (if beginsB s [34] then (match wordT (s.drop 1) [] 1 with
      | some (t, k) => if beginsB (s.drop k) [58] then some (ks ++ [t], k + 1) else none
      | none => none) else none) else some (ks, 0)
theorem loopT_succ (f : Nat) (obj : Bool) (s : List UInt8) (n : Nat) (ks : List (List UInt8)) (l : List V) : loopT (f + 1) obj s n ks l = (match keyT obj s ks with
    | none => (.mk (if obj then 6 else 5) 0 [] l ks, 0)
    | some (ks', j) =>
      match valueT f (s.drop j) with
      | (x, k) =>
        if k = 0 then (.mk (if obj then 6 else 5) 0 [] l ks', 0)
        else if beginsB (s.drop (j + k)) [if obj then 125 else 93] then (.mk (if obj then 6 else 5) 0 [] (l ++ [x]) ks', n + j + k + 1)
        else if beginsB (s.drop (j + k)) [44] then loopT f obj (s.drop (j + k + 1)) (n + j + k + 1) ks' (l ++ [x])
        else (.mk (if obj then 6 else 5) 0 [] (l ++ [x]) ks', 0)) := by
  conv => lhs; unfold loopT
  rfl
theorem readL (f : Nat) (hv : ReadV f) (hl : ReadL f) : ReadL (f + 1) := by
  intro obj s n ks l
  rw [loopT_succ]
  obtain ⟨K, hK⟩ : ∃ K, keyT obj s ks = K := ⟨_, rfl⟩
  rw [hK]
  unfold keyT at hK
  cases K with
  | none => exact ⟨Nat.zero_le _, fun h => absurd rfl h⟩
  | some y =>
    obtain ⟨ks', j⟩ := y
    have hj : j ≤ s.length ∧ kwts ks' ≤ kwts ks + j := by
      cases obj with
      | false =>
        rw [if_neg (by decide)] at hK
        injection hK with hK; injection hK with h1 h2
        subst h1; subst h2; exact ⟨Nat.zero_le _, Nat.le_refl _⟩
      | true =>
        rw [if_pos rfl] at hK
        by_cases hb : beginsB s [34] = true
        · rw [if_pos hb] at hK
          have h1 := begins_len hb
          cases hw : wordT (s.drop 1) [] 1 with
          | none => rw [hw] at hK; cases hK
          | some z =>
            obtain ⟨t, k⟩ := z
            rw [hw] at hK
            dsimp only at hK
            by_cases hc : beginsB (s.drop k) [58] = true
            · rw [if_pos hc] at hK
              injection hK with hK; injection hK with h3 h4
              subst h3; subst h4
              have h2 := wordT_le _ _ _ _ _ _ (Nat.le_refl _) hw
              have h5 := begins_len hc
              simp only [List.length_drop, List.length_nil, List.length_singleton, List.length_cons] at h1 h2 h5
              rw [kwts_snoc]
              omega
            · rw [if_neg hc] at hK; cases hK
        · rw [if_neg hb] at hK; cases hK
    dsimp only
    have h1 := hv (s.drop j)
    cases hvv : valueT f (s.drop j) with
    | mk x k =>
    rw [hvv] at h1
    dsimp only at h1 ⊢
    rw [List.length_drop] at h1
    by_cases hk : k = 0
    · rw [if_pos hk]; exact ⟨Nat.zero_le _, fun h => absurd rfl h⟩
    · rw [if_neg hk]
      have hw := h1.2 hk
      by_cases he : beginsB (s.drop (j + k)) [if obj then 125 else 93] = true
      · rw [if_pos he]
        have h5 := begins_len he
        rw [List.length_drop, List.length_singleton] at h5
        dsimp only
        rw [wt_mk, wts_snoc, List.length_nil]
        refine ⟨by omega, fun _ => by omega⟩
      · rw [if_neg he]
        by_cases hc : beginsB (s.drop (j + k)) [44] = true
        · rw [if_pos hc]
          have h5 := begins_len hc
          rw [List.length_drop, List.length_singleton] at h5
          have h2 := hl obj (s.drop (j + k + 1)) (n + j + k + 1) ks' (l ++ [x])
          rw [List.length_drop, wts_snoc] at h2
          refine ⟨by omega, fun h => ?_⟩
          have := h2.2 h
          omega
        · rw [if_neg hc]; exact ⟨Nat.zero_le _, fun h => absurd rfl h⟩
theorem readVs (f : Nat) (hl : ReadL f) : ReadV (f + 1) := by
  intro s
  unfold valueT
  by_cases h1 : beginsB s nullT = true
  · rw [if_pos h1]
    have := begins_len h1
    exact ⟨this, fun _ => by rw [wt_plain]; decide⟩
  rw [if_neg h1]
  by_cases h2 : beginsB s trueT = true
  · rw [if_pos h2]
    have := begins_len h2
    exact ⟨this, fun _ => by rw [wt_plain]; decide⟩
  rw [if_neg h2]
  by_cases h3 : beginsB s falseT = true
  · rw [if_pos h3]
    have := begins_len h3
    exact ⟨this, fun _ => by rw [wt_plain]; decide⟩
  rw [if_neg h3]
  by_cases h4 : beginsB s [34] = true
  · rw [if_pos h4]
    have h5 := begins_len h4
    cases hw : wordT (s.drop 1) [] 1 with
    | none => exact ⟨Nat.zero_le _, fun h => absurd rfl h⟩
    | some z =>
      obtain ⟨t, n⟩ := z
      have h6 := wordT_le _ _ _ _ _ _ (Nat.le_refl _) hw
      rw [List.length_drop, List.length_nil] at h6
      rw [List.length_singleton] at h5
      dsimp only
      rw [wt_plain]
      exact ⟨by omega, fun _ => by omega⟩
  rw [if_neg h4]
  by_cases h5 : beginsB s [91] = true
  · rw [if_pos h5]
    have h6 := begins_len h5
    rw [List.length_singleton] at h6
    by_cases h7 : beginsB (s.drop 1) [93] = true
    · rw [if_pos h7]
      have h8 := begins_len h7
      rw [List.length_drop, List.length_singleton] at h8
      exact ⟨by show 2 ≤ _; omega, fun _ => by rw [wt_plain]; decide⟩
    · rw [if_neg h7]
      have h9 := hl false (s.drop 1) 1 [] []
      rw [List.length_drop, wts_nil, kwts_nil] at h9
      exact ⟨by omega, fun h => by have := h9.2 h; omega⟩
  rw [if_neg h5]
  by_cases h5b : beginsB s [123] = true
  · rw [if_pos h5b]
    have h6 := begins_len h5b
    rw [List.length_singleton] at h6
    by_cases h7 : beginsB (s.drop 1) [125] = true
    · rw [if_pos h7]
      have h8 := begins_len h7
      rw [List.length_drop, List.length_singleton] at h8
      exact ⟨by show 2 ≤ _; omega, fun _ => by rw [wt_plain]; decide⟩
    · rw [if_neg h7]
      have h9 := hl true (s.drop 1) 1 [] []
      rw [List.length_drop, wts_nil, kwts_nil] at h9
      exact ⟨by omega, fun h => by have := h9.2 h; omega⟩
  rw [if_neg h5b]
  by_cases h6 : beginsB s [45] = true
  · rw [if_pos h6]
    have h7 := begins_len h6
    rw [List.length_singleton] at h7
    have h8 := numT_le (s.drop 1) 17 0 1
    rw [List.length_drop] at h8
    cases hn : numT (s.drop 1) 17 0 1 with
    | mk v n =>
    rw [hn] at h8
    dsimp only at h8 ⊢
    rw [wt_plain]
    exact ⟨by omega, fun h => by simp; omega⟩
  · rw [if_neg h6]
    have h8 := numT_le s 18 0 0
    cases hn : numT s 18 0 0 with
    | mk v n =>
    rw [hn] at h8
    dsimp only at h8 ⊢
    rw [wt_plain]
    exact ⟨by omega, fun h => by simp; omega⟩
theorem read_all : ∀ f, ReadV f ∧ ReadL f
  | 0 => ⟨fun s => by unfold valueT; exact ⟨Nat.zero_le _, fun h => absurd rfl h⟩, fun obj s n ks l => by unfold loopT; exact ⟨Nat.zero_le _, fun h => absurd rfl h⟩⟩
  | f + 1 => ⟨readVs f (read_all f).2, readL f (read_all f).1 (read_all f).2⟩
theorem quoteT_wt (t : List UInt8) : (quoteT t).length ≤ 6 * t.length + 1 := by
  induction t with
  | nil => unfold quoteT; simp
  | cons c r ih =>
    unfold quoteT
    have h : (quoteC c).length ≤ 6 := by
      unfold quoteC; split
      · simp
      · split
        · simp
        · simp
    rw [List.length_append, List.length_cons]; omega
theorem quoteJ_wt (t : List UInt8) : (quoteJ t).length ≤ 6 * t.length + 2 := by
  have := quoteT_wt t
  unfold quoteJ; rw [List.length_cons]; omega
theorem itemsMore_wt (l : List V) (h : ∀ v ∈ l, v.show.length + 1 ≤ 24 * v.wt) : (V.itemsMore l).length ≤ 24 * V.wts l := by
  induction l with
  | nil => rw [itemsMore_nil]; simp
  | cons v r ih =>
    rw [itemsMore_cons, wts_cons, List.length_cons, List.length_append]
    have h1 := h v (by simp)
    have h2 := ih (fun u hu => h u (by simp [hu]))
    omega
theorem pairsMore_wt (l : List V) : ∀ (ks : List (List UInt8)), ks.length = l.length → (∀ v ∈ l, v.show.length + 1 ≤ 24 * v.wt) → (V.pairsMore l ks).length ≤ 24 * (V.wts l + kwts ks) := by
  induction l with
  | nil => intro ks _ _; rw [pairsMore_nil]; simp
  | cons v r ih =>
    intro ks hk h
    match ks, hk with
    | k :: ks, hk =>
      rw [pairsMore_cons, wts_cons, kwts_cons]
      have h1 := h v (by simp)
      have h2 := ih ks (by simpa using hk) (fun u hu => h u (by simp [hu]))
      have h3 := quoteJ_wt k
      simp only [List.headD_cons, List.tail_cons, List.length_cons, List.length_append]
      omega
theorem show_wt : ∀ (m : Nat) (v : V), v.size ≤ m → v.good = true → v.show.length + 1 ≤ 24 * v.wt
  | 0, v, hm, _ => absurd (by obtain ⟨k, n, t, l, ks⟩ := v; rw [size_mk]; omega : 0 < v.size) (by omega)
  | m + 1, v, hm, hg => by
    obtain ⟨k, n, t, l, ks⟩ := v
    have hh := good_head hg
    have ih : ∀ v ∈ l, v.show.length + 1 ≤ 24 * v.wt := fun v hv => by
      obtain ⟨i, hi, rfl⟩ := List.mem_iff_getElem.1 hv
      exact show_wt m l[i] (by have := size_get (k := k) (n := n) (t := t) (ks := ks) i hi; omega) (good_item hg i hi)
    have hk := hh.kind
    rw [wt_mk]
    have hkk : k = 1 ∨ k = 2 ∨ k = 3 ∨ k = 4 ∨ k = 5 ∨ k = 6 := by omega
    rcases hkk with rfl | rfl | rfl | rfl | rfl | rfl
    · have e : (V.mk 1 n t l ks).show = nullT := by unfold V.show; rfl
      rw [e]; show 4 + 1 ≤ _; omega
    · have e : (V.mk 2 n t l ks).show = trueT ∨ (V.mk 2 n t l ks).show = falseT := by
        unfold V.show
        by_cases h : n = 1
        · left; simp [h]
        · right; simp [h]
      rcases e with e | e <;> rw [e]
      · show 4 + 1 ≤ _; omega
      · show 5 + 1 ≤ _; omega
    · have e : (V.mk 3 n t l ks).show = decI n := by unfold V.show; rfl
      have := decI_len n (hh.num rfl)
      have h2 : (decI n).length ≤ 17 := by
        unfold decI; split
        · rw [List.length_cons]; omega
        · omega
      rw [e]; omega
    · have e : (V.mk 4 n t l ks).show = quoteJ t := by unfold V.show; rfl
      have := quoteJ_wt t
      rw [e]; omega
    · rw [show_list]
      rw [List.length_cons, List.length_append, List.length_singleton]
      have h1 : (V.items l).length ≤ 24 * V.wts l := by
        cases l with
        | nil => rw [items_nil]; simp
        | cons v r =>
          have h2 := itemsMore_wt (v :: r) ih
          rw [itemsMore_cons, List.length_cons] at h2
          rw [items_cons]; omega
      omega
    · rw [show_object]
      rw [List.length_cons, List.length_append, List.length_singleton]
      have hkl := hh.keys rfl
      have h1 : (V.pairs l ks).length ≤ 24 * (V.wts l + kwts ks) := by
        cases l with
        | nil => rw [pairs_nil]; simp
        | cons v r =>
          have h2 := pairsMore_wt (v :: r) ks hkl ih
          rw [pairsMore_cons, List.length_cons] at h2
          rw [pairs_cons]; omega
      omega
end Go.Proofs.YtoijjcbcmjdggaaDoor
