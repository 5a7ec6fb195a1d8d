/- Forms as functions of lists: nothing of the program. -/
import Derived.Test.YtobicmpgfiddhaaDoorForm
namespace Go.Proofs.YtobicmpgfiddhaaDoor

/-- where a byte stands first; the length: nowhere -/
def atL (c : UInt8) : List UInt8 → Nat
  | [] => 0
  | x :: r => if x = c then 0 else atL c r + 1
theorem atL_le (c : UInt8) (l : List UInt8) : atL c l ≤ l.length := by
  induction l with
  | nil => simp [atL]
  | cons x r ih => unfold atL; split <;> simp <;> omega
theorem atL_hit (c : UInt8) (l : List UInt8) (h : atL c l < l.length) : l[atL c l] = c := by
  induction l with
  | nil => simp at h
  | cons x r ih =>
    by_cases e : x = c
    · simp [atL, e]
    · have e' : atL c (x :: r) = atL c r + 1 := by simp [atL, e]
      simp only [e'] at h ⊢
      simp at h ⊢
      exact ih h
theorem atL_before (c : UInt8) (l : List UInt8) (k : Nat) (hk : k < atL c l) (h : k < l.length) : l[k] ≠ c := by
  induction l generalizing k with
  | nil => simp at h
  | cons x r ih =>
    by_cases e : x = c
    · simp [atL, e] at hk
    · have e' : atL c (x :: r) = atL c r + 1 := by simp [atL, e]
      cases k with
      | zero => simpa using e
      | succ k => simp at h ⊢; exact ih k (by omega) h
theorem atL_is (c : UInt8) (l : List UInt8) (k : Nat) (hk : k ≤ l.length) (hb : ∀ j (hj : j < l.length), j < k → l[j] ≠ c) (hh : ∀ h : k < l.length, l[k] = c) : atL c l = k := by
  rcases Nat.lt_trichotomy (atL c l) k with h | h | h
  · exact absurd (atL_hit c l (by omega)) (hb _ (by omega) h)
  · exact h
  · have := atL_le c l
    exact absurd (hh (by omega)) (atL_before c l k h (by omega))
theorem atL_app (c : UInt8) (a b : List UInt8) (h : c ∉ a) : atL c (a ++ b) = a.length + atL c b := by
  induction a with
  | nil => simp
  | cons x r ih =>
    simp at h
    have hx : x ≠ c := fun e => h.1 e.symm
    simp [atL, hx, ih h.2]; omega
theorem atL_none (c : UInt8) (a : List UInt8) (h : c ∉ a) : atL c a = a.length := by
  have := atL_app c a [] h; simpa [atL] using this
theorem atL_index (c : UInt8) (l : List UInt8) : Lib.indexByte l c = if atL c l < l.length then (atL c l : Int) else -1 := by
  induction l with
  | nil => simp [Lib.indexByte]
  | cons x r ih =>
    by_cases e : x = c
    · simp [Lib.indexByte, atL, e]
    · have e' : (x == c) = false := by simpa using e
      unfold Lib.indexByte atL
      rw [if_neg e, e', ih]
      by_cases h : atL c r < r.length
      · have h' : atL c r + 1 < (x :: r).length := by simp; omega
        rw [if_pos h, if_pos h']
        have : ((atL c r : Int) == -1) = false := by simp
        simp [this]
      · have h' : ¬ atL c r + 1 < (x :: r).length := by simp; omega
        rw [if_neg h, if_neg h']; simp

/-- a text's parts between a byte -/
def splitL (c : UInt8) : List UInt8 → List (List UInt8)
  | [] => [[]]
  | x :: r => if x = c then [] :: splitL c r else (match splitL c r with | [] => [[x]] | h :: t => (x :: h) :: t)
theorem splitL_cons (c x : UInt8) (r : List UInt8) : splitL c (x :: r) = if x = c then [] :: splitL c r else (match splitL c r with | [] => [[x]] | h :: t => (x :: h) :: t) := rfl
theorem splitL_at (c : UInt8) (l : List UInt8) : splitL c l = if atL c l < l.length then l.take (atL c l) :: splitL c (l.drop (atL c l + 1)) else [l] := by
  induction l with
  | nil => simp [splitL]
  | cons x r ih =>
    by_cases e : x = c
    · simp [splitL, atL, e]
    · have e' : atL c (x :: r) = atL c r + 1 := by simp [atL, e]
      rw [splitL_cons, if_neg e, e', ih]
      by_cases h : atL c r < r.length
      · have h' : atL c r + 1 < (x :: r).length := by simp; omega
        rw [if_pos h, if_pos h']; simp
      · have h' : ¬ atL c r + 1 < (x :: r).length := by simp; omega
        rw [if_neg h, if_neg h']
theorem splitL_more {c : UInt8} {l : List UInt8} (h : atL c l < l.length) : splitL c l = l.take (atL c l) :: splitL c (l.drop (atL c l + 1)) := by
  rw [splitL_at, if_pos h]
theorem splitL_last {c : UInt8} {l : List UInt8} (h : l.length ≤ atL c l) : splitL c l = [l] := by
  rw [splitL_at, if_neg (by omega)]
theorem splitL_len (c : UInt8) (l : List UInt8) : (splitL c l).length ≤ l.length + 1 := by
  induction l with
  | nil => simp [splitL]
  | cons x r ih =>
    unfold splitL
    split
    · simp; omega
    · split
      · simp
      · rename_i h t e; rw [e] at ih; simp at ih ⊢; omega
theorem splitL_each (c : UInt8) (l : List UInt8) : ∀ p ∈ splitL c l, p.length ≤ l.length := by
  induction l with
  | nil => simp [splitL]
  | cons x r ih =>
    unfold splitL
    split
    · intro p hp; simp at hp; rcases hp with rfl | hp
      · simp
      · have := ih p hp; simp; omega
    · split
      · intro p hp; simp at hp; subst hp; simp
      · rename_i h t e
        rw [e] at ih
        intro p hp; simp at hp
        rcases hp with rfl | hp
        · have := ih h (by simp); simp; omega
        · have := ih p (by simp [hp]); simp; omega

/-- the parts between & that are not empty -/
def partsL (l : List UInt8) : List (List UInt8) := (splitL 38 l).filter (fun p => !p.isEmpty)
def one1 (p : List UInt8) : List (List UInt8) := if p = [] then [] else [p]
theorem filter_one1 (p : List UInt8) (r : List (List UInt8)) : (p :: r).filter (fun p => !p.isEmpty) = one1 p ++ r.filter (fun p => !p.isEmpty) := by
  cases p <;> simp [one1]
theorem partsL_more {l : List UInt8} (h : atL 38 l < l.length) : partsL l = one1 (l.take (atL 38 l)) ++ partsL (l.drop (atL 38 l + 1)) := by
  unfold partsL; rw [splitL_more h, filter_one1]
theorem partsL_last {l : List UInt8} (h : l.length ≤ atL 38 l) : partsL l = one1 l := by
  unfold partsL; rw [splitL_last h, filter_one1]; simp
theorem partsL_app (a b : List UInt8) (h : (38 : UInt8) ∉ a) : partsL (a ++ 38 :: b) = one1 a ++ partsL b := by
  have e : atL 38 (a ++ 38 :: b) = a.length := by rw [atL_app _ _ _ h]; simp [atL]
  rw [partsL_more (by rw [e]; simp), e]
  simp
theorem partsL_one (a : List UInt8) (h : (38 : UInt8) ∉ a) : partsL a = one1 a := partsL_last (by rw [atL_none _ _ h]; exact Nat.le_refl _)
theorem partsL_amp (b : List UInt8) : partsL (38 :: b) = partsL b := by
  have := partsL_app [] b (by simp); simpa [one1] using this
theorem partsL_amps (n : Nat) (b : List UInt8) : partsL (List.replicate n 38 ++ b) = partsL b := by
  induction n with
  | zero => simp
  | succ n ih => rw [List.replicate_succ, List.cons_append, partsL_amp, ih]

/-- the pair that a part stands for -/
def pairL (p : List UInt8) : Option (List UInt8 × List UInt8) :=
  match unq (p.take (atL 61 p)), unq (p.drop (atL 61 p + 1)) with
  | some a, some b => some (a, b)
  | _, _ => none
theorem pairL_some {p a b : List UInt8} (h : unq (p.take (atL 61 p)) = some a) (h' : unq (p.drop (atL 61 p + 1)) = some b) : pairL p = some (a, b) := by
  unfold pairL; rw [h, h']
theorem pairL_key {p : List UInt8} (h : unq (p.take (atL 61 p)) = none) : pairL p = none := by
  unfold pairL; rw [h]
theorem pairL_val {p : List UInt8} (h' : unq (p.drop (atL 61 p + 1)) = none) : pairL p = none := by
  unfold pairL; rw [h']; cases unq (p.take (atL 61 p)) <;> rfl
abbrev PL := List (List UInt8 × List UInt8)
def pairsL : List (List UInt8) → Option PL
  | [] => some []
  | p :: r => match pairL p, pairsL r with
    | some x, some xs => some (x :: xs)
    | _, _ => none
theorem pairsL_cons (p : List UInt8) (r : List (List UInt8)) : pairsL (p :: r) = match pairL p, pairsL r with
    | some x, some xs => some (x :: xs)
    | _, _ => none := rfl
theorem pairsL_app_some {l : List (List UInt8)} {xs : PL} (h : pairsL l = some xs) (r : List (List UInt8)) : pairsL (l ++ r) = (pairsL r).map (xs ++ ·) := by
  induction l generalizing xs with
  | nil => simp [pairsL] at h; subst h; simp
  | cons p l ih =>
    rw [pairsL_cons] at h
    rw [List.cons_append, pairsL_cons]
    cases hp : pairL p with
    | none => rw [hp] at h; simp at h
    | some x =>
      cases hl : pairsL l with
      | none => rw [hp, hl] at h; simp at h
      | some ys =>
        rw [hp, hl] at h
        simp at h; subst h
        rw [ih hl]
        cases pairsL r <;> simp
theorem pairsL_app_none {l : List (List UInt8)} (h : pairsL l = none) (r : List (List UInt8)) : pairsL (l ++ r) = none := by
  induction l with
  | nil => simp [pairsL] at h
  | cons p l ih =>
    rw [pairsL_cons] at h
    rw [List.cons_append, pairsL_cons]
    cases hp : pairL p with
    | none => rfl
    | some x =>
      cases hl : pairsL l with
      | none => rw [ih hl]
      | some ys => rw [hp, hl] at h; simp at h
theorem pairsL_snoc {l : List (List UInt8)} {xs : PL} {p : List UInt8} {x : List UInt8 × List UInt8} (h : pairsL l = some xs) (hp : pairL p = some x) : pairsL (l ++ [p]) = some (xs ++ [x]) := by
  rw [pairsL_app_some h]; simp [pairsL, hp]
theorem pairsL_bad {l : List (List UInt8)} {p : List UInt8} (hp : pairL p = none) : pairsL (l ++ [p]) = none := by
  cases h : pairsL l with
  | none => exact pairsL_app_none h _
  | some xs => rw [pairsL_app_some h]; simp [pairsL, hp]
theorem pairsL_len {l : List (List UInt8)} {xs : PL} (h : pairsL l = some xs) : xs.length = l.length := by
  induction l generalizing xs with
  | nil => simp [pairsL] at h; subst h; rfl
  | cons p l ih =>
    rw [pairsL_cons] at h
    cases hp : pairL p with
    | none => rw [hp] at h; simp at h
    | some x =>
      cases hl : pairsL l with
      | none => rw [hp, hl] at h; simp at h
      | some ys => rw [hp, hl] at h; simp at h; subst h; simp [ih hl]

/-- what a form stands for -/
def formL (l : List UInt8) : Option PL := pairsL (partsL l)
theorem partsL_len (l : List UInt8) : (partsL l).length ≤ l.length + 1 := Nat.le_trans (List.length_filter_le _ _) (splitL_len 38 l)

/-! ## Build -/
def oneL (p : List UInt8 × List UInt8) : List UInt8 := quoteL p.1 ++ 61 :: quoteL p.2
def buildL : PL → List UInt8
  | [] => []
  | [p] => oneL p
  | p :: q :: r => oneL p ++ 38 :: buildL (q :: r)
theorem buildL_snoc (l : PL) (p : List UInt8 × List UInt8) (h : l ≠ []) : buildL (l ++ [p]) = buildL l ++ 38 :: oneL p := by
  induction l with
  | nil => exact absurd rfl h
  | cons q l ih =>
    cases l with
    | nil => simp [buildL]
    | cons q' l =>
      have := ih (by simp)
      simp only [List.cons_append] at this ⊢
      simp [buildL, this]
theorem oneL_len (p : List UInt8 × List UInt8) : (oneL p).length ≤ 3 * (p.1.length + p.2.length) + 1 := by
  have := quoteL_le p.1; have := quoteL_le p.2
  simp [oneL]; omega
theorem buildL_len (l : PL) (m : Nat) (h : ∀ p ∈ l, p.1.length + p.2.length ≤ m) : (buildL l).length ≤ l.length * (3 * m + 2) := by
  induction l with
  | nil => simp [buildL]
  | cons p l ih =>
    have h1 := h p (by simp)
    have h2 := ih (fun q hq => h q (by simp [hq]))
    have h3 := oneL_len p
    cases l with
    | nil => simp [buildL]; omega
    | cons q r =>
      simp only [buildL, List.length_append, List.length_cons] at h2 ⊢
      rw [Nat.add_mul]; omega

theorem hexU_not : ∀ n : Nat, n < 16 → hexU n ≠ 38 ∧ hexU n ≠ 61 := by decide
theorem plain_not2 : ∀ c : UInt8, plainB c = true → c ≠ 38 ∧ c ≠ 61 := by
  intro c h
  constructor <;> (rintro rfl; revert h; decide)
theorem quote1_not (c : UInt8) : ∀ x ∈ quote1 c, x ≠ 38 ∧ x ≠ 61 := by
  intro x hx
  have hc := c.toNat_lt
  unfold quote1 at hx
  split at hx
  · rename_i h; simp at hx; subst hx; exact plain_not2 x h
  · simp at hx
    rcases hx with rfl | rfl | rfl
    · decide
    · exact hexU_not _ (by omega)
    · exact hexU_not _ (by omega)
theorem quoteL_not (l : List UInt8) : (38 : UInt8) ∉ quoteL l ∧ (61 : UInt8) ∉ quoteL l := by
  unfold quoteL
  constructor
  · intro h; obtain ⟨c, _, hc⟩ := List.mem_flatMap.1 h; exact (quote1_not c _ hc).1 rfl
  · intro h; obtain ⟨c, _, hc⟩ := List.mem_flatMap.1 h; exact (quote1_not c _ hc).2 rfl
theorem oneL_amp (p : List UInt8 × List UInt8) : (38 : UInt8) ∉ oneL p := by
  have h1 := (quoteL_not p.1).1; have h2 := (quoteL_not p.2).1
  simp [oneL, h1, h2]
theorem oneL_ne (p : List UInt8 × List UInt8) : oneL p ≠ [] := by simp [oneL]
theorem pairL_oneL (p : List UInt8 × List UInt8) : pairL (oneL p) = some p := by
  have e : atL 61 (oneL p) = (quoteL p.1).length := by unfold oneL; rw [atL_app _ _ _ (quoteL_not p.1).2]; simp [atL]
  have h1 : (oneL p).take (atL 61 (oneL p)) = quoteL p.1 := by rw [e]; unfold oneL; simp
  have h2 : (oneL p).drop (atL 61 (oneL p) + 1) = quoteL p.2 := by
    rw [e]; unfold oneL
    rw [← List.drop_drop]; simp
  have := pairL_some (p := oneL p) (a := p.1) (b := p.2) (by rw [h1]; exact unq_quoteL _) (by rw [h2]; exact unq_quoteL _)
  exact this
theorem one1_oneL (p : List UInt8 × List UInt8) : one1 (oneL p) = [oneL p] := by unfold one1; rw [if_neg (oneL_ne p)]
theorem partsL_buildL (l : PL) : partsL (buildL l) = l.map oneL := by
  induction l with
  | nil => decide
  | cons p l ih =>
    cases l with
    | nil => simp only [buildL, List.map]; rw [partsL_one _ (oneL_amp p), one1_oneL]
    | cons q r =>
      simp only [buildL]
      rw [partsL_app _ _ (oneL_amp p), ih, one1_oneL]; simp
theorem pairsL_oneL (l : PL) : pairsL (l.map oneL) = some l := by
  induction l with
  | nil => rfl
  | cons p l ih => simp [pairsL, pairL_oneL, ih]
theorem formL_buildL (l : PL) : formL (buildL l) = some l := by unfold formL; rw [partsL_buildL, pairsL_oneL]

/-! ## Get, Twice -/
def getL (l : PL) (k : List UInt8) : Option (List UInt8) := (l.find? (fun p => p.1 == k)).map (·.2)
def twiceL : PL → Bool
  | [] => false
  | p :: r => (r.map (·.1)).contains p.1 || twiceL r
end Go.Proofs.YtobicmpgfiddhaaDoor
