/- Texts merged by program, in build order: Parts, RulesDef, Words, Uri, GoodDef, LawCli0, Small16. -/
import Derived.Test.YtiofgepfcacgjaaDoorG01
import Derived.Test.YtiofgepfcacgjaaDoorG02
import Derived.Lib.IndexMore
import Derived.Deep.Cut
set_option linter.unusedVariables false
set_option linter.unusedSimpArgs false
namespace Go.Proofs.YtiofgepfcacgjaaDoor

/-- where a byte stands first; the length: nowhere -/
def atL (c : UInt8) : List UInt8 → Nat
  | [] => 0
  | x :: r => if x = c then 0 else atL c r + 1
theorem atL_le (c : UInt8) (l : List UInt8) : atL c l ≤ l.length := by
  induction l with
  | nil => simp [atL]
  | cons x r ih => unfold atL; split <;> simp <;> omega
theorem atL_hit (c : UInt8) (l : List UInt8) (h : atL c l < l.length) : l[atL c l] = c := by
  induction l with
  | nil => simp at h
  | cons x r ih =>
    by_cases e : x = c
    · simp [atL, e]
    · have e' : atL c (x :: r) = atL c r + 1 := by simp [atL, e]
      simp only [e'] at h ⊢
      simp at h ⊢
      exact ih h
theorem atL_before (c : UInt8) (l : List UInt8) (k : Nat) (hk : k < atL c l) (h : k < l.length) : l[k] ≠ c := by
  induction l generalizing k with
  | nil => simp at h
  | cons x r ih =>
    by_cases e : x = c
    · simp [atL, e] at hk
    · have e' : atL c (x :: r) = atL c r + 1 := by simp [atL, e]
      cases k with
      | zero => simpa using e
      | succ k => simp at h ⊢; exact ih k (by omega) h
theorem atL_is (c : UInt8) (l : List UInt8) (k : Nat) (hk : k ≤ l.length) (hb : ∀ j (hj : j < l.length), j < k → l[j] ≠ c) (hh : ∀ h : k < l.length, l[k] = c) : atL c l = k := by
  rcases Nat.lt_trichotomy (atL c l) k with h | h | h
  · exact absurd (atL_hit c l (by omega)) (hb _ (by omega) h)
  · exact h
  · have := atL_le c l
    exact absurd (hh (by omega)) (atL_before c l k h (by omega))
theorem atL_app (c : UInt8) (a b : List UInt8) (h : c ∉ a) : atL c (a ++ b) = a.length + atL c b := by
  induction a with
  | nil => simp
  | cons x r ih =>
    simp at h
    have hx : x ≠ c := fun e => h.1 e.symm
    simp [atL, hx, ih h.2]; omega
theorem atL_none (c : UInt8) (a : List UInt8) (h : c ∉ a) : atL c a = a.length := by
  have := atL_app c a [] h; simpa [atL] using this
theorem atL_index (c : UInt8) (l : List UInt8) : Lib.indexByte l c = if atL c l < l.length then (atL c l : Int) else -1 := by
  induction l with
  | nil => simp [Lib.indexByte]
  | cons x r ih =>
    by_cases e : x = c
    · simp [Lib.indexByte, atL, e]
    · have e' : (x == c) = false := by simpa using e
      unfold Lib.indexByte atL
      rw [if_neg e, e', ih]
      by_cases h : atL c r < r.length
      · have h' : atL c r + 1 < (x :: r).length := by simp; omega
        rw [if_pos h, if_pos h']
        have : ((atL c r : Int) == -1) = false := by simp
        simp [this]
      · have h' : ¬ atL c r + 1 < (x :: r).length := by simp; omega
        rw [if_neg h, if_neg h']; simp

/-- a text's parts between a byte -/
def splitL (c : UInt8) : List UInt8 → List (List UInt8)
  | [] => [[]]
  | x :: r => if x = c then [] :: splitL c r else (match splitL c r with | [] => [[x]] | h :: t => (x :: h) :: t)
theorem splitL_cons (c x : UInt8) (r : List UInt8) : splitL c (x :: r) = if x = c then [] :: splitL c r else (match splitL c r with | [] => [[x]] | h :: t => (x :: h) :: t) := rfl
theorem splitL_at (c : UInt8) (l : List UInt8) : splitL c l = if atL c l < l.length then l.take (atL c l) :: splitL c (l.drop (atL c l + 1)) else [l] := by
  induction l with
  | nil => simp [splitL]
  | cons x r ih =>
    by_cases e : x = c
    · simp [splitL, atL, e]
    · have e' : atL c (x :: r) = atL c r + 1 := by simp [atL, e]
      rw [splitL_cons, if_neg e, e', ih]
      by_cases h : atL c r < r.length
      · have h' : atL c r + 1 < (x :: r).length := by simp; omega
        rw [if_pos h, if_pos h']; simp
      · have h' : ¬ atL c r + 1 < (x :: r).length := by simp; omega
        rw [if_neg h, if_neg h']
theorem splitL_more {c : UInt8} {l : List UInt8} (h : atL c l < l.length) : splitL c l = l.take (atL c l) :: splitL c (l.drop (atL c l + 1)) := by
  rw [splitL_at, if_pos h]
theorem splitL_last {c : UInt8} {l : List UInt8} (h : l.length ≤ atL c l) : splitL c l = [l] := by
  rw [splitL_at, if_neg (by omega)]
theorem splitL_len (c : UInt8) (l : List UInt8) : (splitL c l).length ≤ l.length + 1 := by
  induction l with
  | nil => simp [splitL]
  | cons x r ih =>
    unfold splitL
    split
    · simp; omega
    · split
      · simp
      · rename_i h t e; rw [e] at ih; simp at ih ⊢; omega
theorem splitL_each (c : UInt8) (l : List UInt8) : ∀ p ∈ splitL c l, p.length ≤ l.length := by
  induction l with
  | nil => simp [splitL]
  | cons x r ih =>
    unfold splitL
    split
    · intro p hp; simp at hp; rcases hp with rfl | hp
      · simp
      · have := ih p hp; simp; omega
    · split
      · intro p hp; simp at hp; subst hp; simp
      · rename_i h t e
        rw [e] at ih
        intro p hp; simp at hp
        rcases hp with rfl | hp
        · have := ih h (by simp); simp; omega
        · have := ih p (by simp [hp]); simp; omega

/-- the parts between & that are not empty -/
def partsL (l : List UInt8) : List (List UInt8) := (splitL 38 l).filter (fun p => !p.isEmpty)
def one1 (p : List UInt8) : List (List UInt8) := if p = [] then [] else [p]
theorem filter_one1 (p : List UInt8) (r : List (List UInt8)) : (p :: r).filter (fun p => !p.isEmpty) = one1 p ++ r.filter (fun p => !p.isEmpty) := by
  cases p <;> simp [one1]
theorem partsL_more {l : List UInt8} (h : atL 38 l < l.length) : partsL l = one1 (l.take (atL 38 l)) ++ partsL (l.drop (atL 38 l + 1)) := by
  unfold partsL; rw [splitL_more h, filter_one1]
theorem partsL_last {l : List UInt8} (h : l.length ≤ atL 38 l) : partsL l = one1 l := by
  unfold partsL; rw [splitL_last h, filter_one1]; simp
theorem partsL_app (a b : List UInt8) (h : (38 : UInt8) ∉ a) : partsL (a ++ 38 :: b) = one1 a ++ partsL b := by
  have e : atL 38 (a ++ 38 :: b) = a.length := by rw [atL_app _ _ _ h]; simp [atL]
  rw [partsL_more (by rw [e]; simp), e]
  simp
theorem partsL_one (a : List UInt8) (h : (38 : UInt8) ∉ a) : partsL a = one1 a := partsL_last (by rw [atL_none _ _ h]; exact Nat.le_refl _)
theorem partsL_amp (b : List UInt8) : partsL (38 :: b) = partsL b := by
  have := partsL_app [] b (by simp); simpa [one1] using this
theorem partsL_amps (n : Nat) (b : List UInt8) : partsL (List.replicate n 38 ++ b) = partsL b := by
  induction n with
  | zero => simp
  | succ n ih => rw [List.replicate_succ, List.cons_append, partsL_amp, ih]

/-- the pair that a part stands for -/
def pairL (p : List UInt8) : Option (List UInt8 × List UInt8) :=
  match unq (p.take (atL 61 p)), unq (p.drop (atL 61 p + 1)) with
  | some a, some b => some (a, b)
  | _, _ => none
theorem pairL_some {p a b : List UInt8} (h : unq (p.take (atL 61 p)) = some a) (h' : unq (p.drop (atL 61 p + 1)) = some b) : pairL p = some (a, b) := by
  unfold pairL; rw [h, h']
theorem pairL_key {p : List UInt8} (h : unq (p.take (atL 61 p)) = none) : pairL p = none := by
  unfold pairL; rw [h]
theorem pairL_val {p : List UInt8} (h' : unq (p.drop (atL 61 p + 1)) = none) : pairL p = none := by
  unfold pairL; rw [h']; cases unq (p.take (atL 61 p)) <;> rfl
abbrev PL := List (List UInt8 × List UInt8)
def pairsL : List (List UInt8) → Option PL
  | [] => some []
  | p :: r => match pairL p, pairsL r with
    | some x, some xs => some (x :: xs)
    | _, _ => none
theorem pairsL_cons (p : List UInt8) (r : List (List UInt8)) : pairsL (p :: r) = match pairL p, pairsL r with
    | some x, some xs => some (x :: xs)
    | _, _ => none := rfl
theorem pairsL_app_some {l : List (List UInt8)} {xs : PL} (h : pairsL l = some xs) (r : List (List UInt8)) : pairsL (l ++ r) = (pairsL r).map (xs ++ ·) := by
  induction l generalizing xs with
  | nil => simp [pairsL] at h; subst h; simp
  | cons p l ih =>
    rw [pairsL_cons] at h
    rw [List.cons_append, pairsL_cons]
    cases hp : pairL p with
    | none => rw [hp] at h; simp at h
    | some x =>
      cases hl : pairsL l with
      | none => rw [hp, hl] at h; simp at h
      | some ys =>
        rw [hp, hl] at h
        simp at h; subst h
        rw [ih hl]
        cases pairsL r <;> simp
theorem pairsL_app_none {l : List (List UInt8)} (h : pairsL l = none) (r : List (List UInt8)) : pairsL (l ++ r) = none := by
  induction l with
  | nil => simp [pairsL] at h
  | cons p l ih =>
    rw [pairsL_cons] at h
    rw [List.cons_append, pairsL_cons]
    cases hp : pairL p with
    | none => rfl
    | some x =>
      cases hl : pairsL l with
      | none => rw [ih hl]
      | some ys => rw [hp, hl] at h; simp at h
theorem pairsL_snoc {l : List (List UInt8)} {xs : PL} {p : List UInt8} {x : List UInt8 × List UInt8} (h : pairsL l = some xs) (hp : pairL p = some x) : pairsL (l ++ [p]) = some (xs ++ [x]) := by
  rw [pairsL_app_some h]; simp [pairsL, hp]
theorem pairsL_bad {l : List (List UInt8)} {p : List UInt8} (hp : pairL p = none) : pairsL (l ++ [p]) = none := by
  cases h : pairsL l with
  | none => exact pairsL_app_none h _
  | some xs => rw [pairsL_app_some h]; simp [pairsL, hp]
theorem pairsL_len {l : List (List UInt8)} {xs : PL} (h : pairsL l = some xs) : xs.length = l.length := by
  induction l generalizing xs with
  | nil => simp [pairsL] at h; subst h; rfl
  | cons p l ih =>
    rw [pairsL_cons] at h
    cases hp : pairL p with
    | none => rw [hp] at h; simp at h
    | some x =>
      cases hl : pairsL l with
      | none => rw [hp, hl] at h; simp at h
      | some ys => rw [hp, hl] at h; simp at h; subst h; simp [ih hl]

/-- what a form stands for -/
def formL (l : List UInt8) : Option PL := pairsL (partsL l)
theorem partsL_len (l : List UInt8) : (partsL l).length ≤ l.length + 1 := Nat.le_trans (List.length_filter_le _ _) (splitL_len 38 l)

/-! ## Build -/
def oneL (p : List UInt8 × List UInt8) : List UInt8 := quoteL p.1 ++ 61 :: quoteL p.2
def buildL : PL → List UInt8
  | [] => []
  | [p] => oneL p
  | p :: q :: r => oneL p ++ 38 :: buildL (q :: r)
theorem buildL_snoc (l : PL) (p : List UInt8 × List UInt8) (h : l ≠ []) : buildL (l ++ [p]) = buildL l ++ 38 :: oneL p := by
  induction l with
  | nil => exact absurd rfl h
  | cons q l ih =>
    cases l with
    | nil => simp [buildL]
    | cons q' l =>
      have := ih (by simp)
      simp only [List.cons_append] at this ⊢
      simp [buildL, this]
theorem oneL_len (p : List UInt8 × List UInt8) : (oneL p).length ≤ 3 * (p.1.length + p.2.length) + 1 := by
  have := quoteL_le p.1; have := quoteL_le p.2
  simp [oneL]; omega
theorem buildL_len (l : PL) (m : Nat) (h : ∀ p ∈ l, p.1.length + p.2.length ≤ m) : (buildL l).length ≤ l.length * (3 * m + 2) := by
  induction l with
  | nil => simp [buildL]
  | cons p l ih =>
    have h1 := h p (by simp)
    have h2 := ih (fun q hq => h q (by simp [hq]))
    have h3 := oneL_len p
    cases l with
    | nil => simp [buildL]; omega
    | cons q r =>
      simp only [buildL, List.length_append, List.length_cons] at h2 ⊢
      rw [Nat.add_mul]; omega

theorem hexU_not : ∀ n : Nat, n < 16 → hexU n ≠ 38 ∧ hexU n ≠ 61 := by decide
theorem plain_not2 : ∀ c : UInt8, plainB c = true → c ≠ 38 ∧ c ≠ 61 := by
  intro c h
  constructor <;> (rintro rfl; revert h; decide)
theorem quote1_not (c : UInt8) : ∀ x ∈ quote1 c, x ≠ 38 ∧ x ≠ 61 := by
  intro x hx
  have hc := c.toNat_lt
  unfold quote1 at hx
  split at hx
  · rename_i h; simp at hx; subst hx; exact plain_not2 x h
  · simp at hx
    rcases hx with rfl | rfl | rfl
    · decide
    · exact hexU_not _ (by omega)
    · exact hexU_not _ (by omega)
theorem quoteL_not (l : List UInt8) : (38 : UInt8) ∉ quoteL l ∧ (61 : UInt8) ∉ quoteL l := by
  unfold quoteL
  constructor
  · intro h; obtain ⟨c, _, hc⟩ := List.mem_flatMap.1 h; exact (quote1_not c _ hc).1 rfl
  · intro h; obtain ⟨c, _, hc⟩ := List.mem_flatMap.1 h; exact (quote1_not c _ hc).2 rfl
theorem oneL_amp (p : List UInt8 × List UInt8) : (38 : UInt8) ∉ oneL p := by
  have h1 := (quoteL_not p.1).1; have h2 := (quoteL_not p.2).1
  simp [oneL, h1, h2]
theorem oneL_ne (p : List UInt8 × List UInt8) : oneL p ≠ [] := by simp [oneL]
theorem pairL_oneL (p : List UInt8 × List UInt8) : pairL (oneL p) = some p := by
  have e : atL 61 (oneL p) = (quoteL p.1).length := by unfold oneL; rw [atL_app _ _ _ (quoteL_not p.1).2]; simp [atL]
  have h1 : (oneL p).take (atL 61 (oneL p)) = quoteL p.1 := by rw [e]; unfold oneL; simp
  have h2 : (oneL p).drop (atL 61 (oneL p) + 1) = quoteL p.2 := by
    rw [e]; unfold oneL
    rw [← List.drop_drop]; simp
  have := pairL_some (p := oneL p) (a := p.1) (b := p.2) (by rw [h1]; exact unq_quoteL _) (by rw [h2]; exact unq_quoteL _)
  exact this
theorem one1_oneL (p : List UInt8 × List UInt8) : one1 (oneL p) = [oneL p] := by unfold one1; rw [if_neg (oneL_ne p)]
theorem partsL_buildL (l : PL) : partsL (buildL l) = l.map oneL := by
  induction l with
  | nil => decide
  | cons p l ih =>
    cases l with
    | nil => simp only [buildL, List.map]; rw [partsL_one _ (oneL_amp p), one1_oneL]
    | cons q r =>
      simp only [buildL]
      rw [partsL_app _ _ (oneL_amp p), ih, one1_oneL]; simp
theorem pairsL_oneL (l : PL) : pairsL (l.map oneL) = some l := by
  induction l with
  | nil => rfl
  | cons p l ih => simp [pairsL, pairL_oneL, ih]
theorem formL_buildL (l : PL) : formL (buildL l) = some l := by unfold formL; rw [partsL_buildL, pairsL_oneL]

/-! ## Get, Twice -/
def getL (l : PL) (k : List UInt8) : Option (List UInt8) := (l.find? (fun p => p.1 == k)).map (·.2)
def twiceL : PL → Bool
  | [] => false
  | p :: r => (r.map (·.1)).contains p.1 || twiceL r
end Go.Proofs.YtiofgepfcacgjaaDoor
namespace Go.Proofs.YtiofgepfcacgjaaDoor

/-- a part's rule, of all its words -/
def wordsU (s : List UInt8) : RU := ⟨(splitL 32 s).headD [], (splitL 32 s).tail⟩
/-- the fault, of all words -/
def rulesE (s : List UInt8) : Int := if s = [] then 0 else if 64 < (splitL 59 s).length then 3 else if (splitL 59 s).all (fun p => (wordsU p).good) = true then 0 else 2
end Go.Proofs.YtiofgepfcacgjaaDoor
namespace Go.Proofs.YtiofgepfcacgjaaDoor

abbrev str (l : List UInt8) : ByteArray := ⟨l.toArray⟩
theorem str_list (l : List UInt8) : (str l).data.toList = l := rfl
theorem str_size (l : List UInt8) : (str l).size = l.length := rfl
theorem atL_drop (c : UInt8) (l : List UInt8) : (l.drop (atL c l + 1)).length ≤ l.length := by simp
theorem atL_take (c : UInt8) (l : List UInt8) : (l.take (atL c l)).length ≤ l.length := by simp; omega
end Go.Proofs.YtiofgepfcacgjaaDoor
namespace Go.Proofs.YtiofgepfcacgjaaDoor

/-- a byte of a host -/
def hostB (c : UInt8) : Bool := decide (97 ≤ c.toNat ∧ c.toNat ≤ 122 ∨ 48 ≤ c.toNat ∧ c.toNat ≤ 57 ∨ c.toNat = 45 ∨ c.toNat = 46 ∨ c.toNat = 58)
/-- one of the ten that no URI has -/
def oddB (c : UInt8) : Bool := decide (c.toNat = 34 ∨ c.toNat = 35 ∨ c.toNat = 60 ∨ c.toNat = 62 ∨ c.toNat = 92 ∨ c.toNat = 94 ∨ c.toNat = 96 ∨ c.toNat = 123 ∨ c.toNat = 124 ∨ c.toNat = 125)
def charB (c : UInt8) : Bool := decide (33 ≤ c.toNat) && decide (c.toNat ≤ 126) && !oddB c

/-- all bytes are such as may be -/
def okL (l : List UInt8) : Bool := l.all charB
def codeOdd : List UInt8 := [35, 34, 60, 62, 92, 94, 96, 123, 124, 125]
def refOdd : List UInt8 := [34, 35, 60, 62, 92, 94, 96, 123, 124, 125]
theorem odd_all : ∀ n : Nat, n < 256 → (decide (0 ≤ Lib.indexByte codeOdd (UInt8.ofNat n)) = oddB (UInt8.ofNat n) ∧ decide (atL (UInt8.ofNat n) refOdd < 10) = oddB (UInt8.ofNat n)) := by decide +kernel
theorem of_all (c : UInt8) : UInt8.ofNat c.toNat = c := by simp
theorem odd_code (c : UInt8) : decide (0 ≤ Lib.indexByte codeOdd c) = oddB c := by have := (odd_all c.toNat c.toNat_lt).1; rwa [of_all] at this
theorem odd_ref (c : UInt8) : decide (atL c refOdd < 10) = oddB c := by have := (odd_all c.toNat c.toNat_lt).2; rwa [of_all] at this
theorem host_slash : hostB 47 = false := by decide

abbrev Quad := List UInt8 × List UInt8 × List UInt8 × List UInt8
def noU : Quad := ([], [], [], [])
def httpL : List UInt8 := [104, 116, 116, 112]
def httpsL : List UInt8 := [104, 116, 116, 112, 115]
/-- what stands behind the scheme: the path's front, and the parts -/
def frontL (r : List UInt8) : List UInt8 := r.take (atL 63 r)
def queryL (r : List UInt8) : List UInt8 := r.drop (atL 63 r + 1)
def restU (sch r : List UInt8) : Option Quad :=
  if (frontL r).take (atL 47 (frontL r)) ≠ [] ∧ ((frontL r).take (atL 47 (frontL r))).all hostB = true then
    some (sch, (frontL r).take (atL 47 (frontL r)), (frontL r).drop (atL 47 (frontL r)), queryL r) else none
def uriL (l : List UInt8) : Option Quad :=
  if okL l = true then
    (if l.take 7 = httpL ++ [58, 47, 47] then restU httpL (l.drop 7) else if l.take 8 = httpsL ++ [58, 47, 47] then restU httpsL (l.drop 8) else none) else none
def uriE (l : List UInt8) : Int := if 4096 < l.length then 3 else if (uriL l).isNone then 2 else 0
def uriV (l : List UInt8) : Quad := if 4096 < l.length then noU else (uriL l).getD noU
def printL (q : Quad) : List UInt8 := q.1 ++ [58, 47, 47] ++ q.2.1 ++ q.2.2.1 ++ (if q.2.2.2 = [] then [] else 63 :: q.2.2.2)

/-! ## the host's end -/
def endL : List UInt8 → Nat
  | [] => 0
  | c :: r => if hostB c then endL r + 1 else 0
theorem endL_le (l : List UInt8) : endL l ≤ l.length := by
  induction l with
  | nil => simp [endL]
  | cons c r ih => unfold endL; split <;> simp <;> omega
theorem endL_is (l : List UInt8) (k : Nat) (hk : k ≤ l.length) (hb : ∀ j (hj : j < l.length), j < k → hostB l[j] = true) (hh : ∀ h : k < l.length, hostB l[k] = false) : endL l = k := by
  induction l generalizing k with
  | nil => simp at hk; subst hk; rfl
  | cons c r ih =>
    cases k with
    | zero =>
      have := hh (by simp)
      simp at this
      simp [endL, this]
    | succ k =>
      have h0 := hb 0 (by simp) (by omega)
      simp at h0
      simp [endL, h0]
      exact ih k (by simpa using hk) (fun j hj hjk => by have := hb (j + 1) (by simp; omega) (by omega); simpa using this) (fun h => by have := hh (by simp; omega); simpa using this)
theorem endL_take (l : List UInt8) : (l.take (endL l)).all hostB = true := by
  induction l with
  | nil => rfl
  | cons c r ih =>
    unfold endL
    split
    · next h => simp only [List.take_succ_cons, List.all_cons, h, ih]; rfl
    · rfl
theorem endL_stop (l : List UInt8) (h : endL l < l.length) : hostB l[endL l] = false := by
  induction l with
  | nil => simp at h
  | cons c r ih =>
    by_cases e : hostB c = true
    · have e' : endL (c :: r) = endL r + 1 := by simp [endL, e]
      simp only [e'] at h ⊢
      simp at h ⊢
      exact ih h
    · have e' : endL (c :: r) = 0 := by simp [endL, e]
      simp only [e']
      simpa using e
/-- the first / ends the host, or the host's end is no / -/
theorem end_slash (l : List UInt8) (h : endL l = l.length ∨ ∃ h : endL l < l.length, l[endL l] = 47) : endL l = atL 47 l := by
  refine (atL_is 47 l (endL l) (endL_le l) ?_ ?_).symm
  · intro j hj hjk e
    have h1 := endL_take l
    rw [List.all_eq_true] at h1
    have := h1 l[j] (by rw [List.mem_take_iff_getElem]; exact ⟨j, by omega, rfl⟩)
    rw [e, host_slash] at this; cases this
  · intro hlt
    rcases h with h | ⟨h', h⟩
    · omega
    · exact h
theorem end_all (l : List UInt8) (h : (l.take (atL 47 l)).all hostB = true) : endL l = atL 47 l := by
  have hle := atL_le 47 l
  rw [List.all_eq_true] at h
  refine endL_is l _ hle (fun j hj hjk => h _ (by rw [List.mem_take_iff_getElem]; exact ⟨j, by omega, rfl⟩)) (fun hlt => ?_)
  rw [atL_hit 47 l hlt]; exact host_slash
theorem restU_some {r : List UInt8} (sch : List UInt8) (h0 : endL (frontL r) ≠ 0) (h : endL (frontL r) = (frontL r).length ∨ ∃ h : endL (frontL r) < (frontL r).length, (frontL r)[endL (frontL r)] = 47) :
    restU sch r = some (sch, (frontL r).take (endL (frontL r)), (frontL r).drop (endL (frontL r)), queryL r) := by
  have e := end_slash _ h
  have hle := endL_le (frontL r)
  have hne : (frontL r).take (endL (frontL r)) ≠ [] := by
    intro he
    have := congrArg List.length he
    rw [List.length_take, List.length_nil] at this
    omega
  have hall := endL_take (frontL r)
  unfold restU
  rw [← e, if_pos ⟨hne, hall⟩]
theorem restU_none {r : List UInt8} (sch : List UInt8) (h : endL (frontL r) = 0 ∨ ∃ h : endL (frontL r) < (frontL r).length, (frontL r)[endL (frontL r)] ≠ 47) : restU sch r = none := by
  unfold restU
  rw [if_neg]
  rintro ⟨h1, h2⟩
  have e := end_all _ h2
  rcases h with h | ⟨hlt, h⟩
  · rw [← e, h] at h1; simp at h1
  · have hlt' : atL 47 (frontL r) < (frontL r).length := by omega
    have := atL_hit 47 (frontL r) hlt'
    apply h
    simp only [e]; exact this

/-! ## Cut at :// -/
theorem cut_http (sch r : List UInt8) (hs : ∀ c ∈ sch, c ≠ 58) : Lib.cut (sch ++ [58, 47, 47] ++ r) [58, 47, 47] = (sch, r, true) := by
  have hi : Lib.index (sch ++ [58, 47, 47] ++ r) [58, 47, 47] = sch.length := by
    refine Lib.index_first (by simp) ?_ ?_
    · unfold Lib.occAt
      simp [List.append_assoc]
    · intro j hj
      unfold Lib.occAt
      have hj' : j < (sch ++ [58, 47, 47] ++ r).length := by simp; omega
      rw [List.drop_eq_getElem_cons hj']
      have : (sch ++ [58, 47, 47] ++ r)[j] = sch[j] := by simp [hj]
      rw [this]
      have hne := hs sch[j] (List.getElem_mem hj)
      have hbe : ((58 : UInt8) == sch[j]) = false := by simp; exact fun e => hne e.symm
      simp [List.isPrefixOf, hbe]
  unfold Lib.cut
  rw [hi, if_pos (by omega)]
  simp [List.append_assoc]
theorem cut_found {l sep : List UInt8} (h : (Lib.cut l sep).2.2 = true) : l = (Lib.cut l sep).1 ++ sep ++ (Lib.cut l sep).2.1 := by
  unfold Lib.cut at h ⊢
  by_cases h0 : 0 ≤ Lib.index l sep
  · rw [if_pos h0]
    rcases Lib.index_spec l sep with ⟨h1, _⟩ | ⟨i, h1, h2, h3, _⟩
    · omega
    · have hr := Lib.index_room l sep h0
      rw [h1] at hr
      simp only [h1, Int.toNat_natCast]
      by_cases hs : sep = []
      · subst hs; simp
      · have ht := (Lib.occAt_iff_take l sep i (by omega)).symm.trans h3
        have ht' : (l.drop i).take sep.length = sep := by simpa using ht
        conv => lhs; rw [← List.take_append_drop i l, ← List.take_append_drop sep.length (l.drop i), ht', List.drop_drop]
        rw [List.append_assoc]
  · rw [if_neg h0] at h; cases h
theorem take_app (a r : List UInt8) (n : Nat) (h : n = a.length) : (a ++ r).take n = a := by subst h; simp
theorem drop_app (a r : List UInt8) (n : Nat) (h : n = a.length) : (a ++ r).drop n = r := by subst h; simp
theorem uri_http {l a r : List UInt8} (hc : okL l = true) (hcut : Lib.cut l [58, 47, 47] = (a, r, true)) (ha : a = httpL) : uriL l = restU httpL r := by
  have h := cut_found (l := l) (sep := [58, 47, 47]) (by rw [hcut])
  rw [hcut] at h
  dsimp only at h
  subst ha
  subst h
  unfold uriL
  rw [if_pos hc, if_pos (take_app (httpL ++ [58, 47, 47]) r 7 rfl), drop_app (httpL ++ [58, 47, 47]) r 7 rfl]
theorem uri_https {l a r : List UInt8} (hc : okL l = true) (hcut : Lib.cut l [58, 47, 47] = (a, r, true)) (ha : a = httpsL) : uriL l = restU httpsL r := by
  have h := cut_found (l := l) (sep := [58, 47, 47]) (by rw [hcut])
  rw [hcut] at h
  dsimp only at h
  subst ha
  subst h
  unfold uriL
  rw [if_pos hc, if_neg (by simp [httpL, httpsL]), if_pos (take_app (httpsL ++ [58, 47, 47]) r 8 rfl), drop_app (httpsL ++ [58, 47, 47]) r 8 rfl]
theorem uri_other {l a r : List UInt8} {f : Bool} (hcut : Lib.cut l [58, 47, 47] = (a, r, f)) (h : f = false ∨ a ≠ httpL ∧ a ≠ httpsL) : uriL l = none := by
  unfold uriL
  by_cases hc : okL l = true
  · rw [if_pos hc]
    by_cases h1 : l.take 7 = httpL ++ [58, 47, 47]
    · exfalso
      have e := cut_http httpL (l.drop 7) (by decide)
      rw [← h1, List.take_append_drop, hcut] at e
      injection e with e1 e2; injection e2 with e3 e4
      rcases h with h | h
      · subst h; cases e4
      · exact h.1 e1
    · rw [if_neg h1]
      by_cases h2 : l.take 8 = httpsL ++ [58, 47, 47]
      · exfalso
        have e := cut_http httpsL (l.drop 8) (by decide)
        rw [← h2, List.take_append_drop, hcut] at e
        injection e with e1 e2; injection e2 with e3 e4
        rcases h with h | h
        · subst h; cases e4
        · exact h.2 e1
      · rw [if_neg h2]
  · rw [if_neg hc]
theorem uri_large {l : List UInt8} (h : 4096 < l.length) : uriE l = 3 ∧ uriV l = noU := by unfold uriE uriV; rw [if_pos h, if_pos h]; exact ⟨rfl, rfl⟩
theorem uri_bad {l : List UInt8} (h : l.length ≤ 4096) (h' : uriL l = none) : uriE l = 2 ∧ uriV l = noU := by
  have hn : ¬ 4096 < l.length := by omega
  unfold uriE uriV; rw [if_neg hn, if_neg hn, h']; exact ⟨rfl, rfl⟩
theorem uri_good {l : List UInt8} {q : Quad} (h : l.length ≤ 4096) (h' : uriL l = some q) : uriE l = 0 ∧ uriV l = q := by
  have hn : ¬ 4096 < l.length := by omega
  unfold uriE uriV; rw [if_neg hn, if_neg hn, h']; exact ⟨rfl, rfl⟩
theorem uri_char {l : List UInt8} (h : okL l = false) : uriL l = none := by unfold uriL; rw [if_neg (by simp [h])]

/-! ## the parts make it again -/
theorem restU_again {sch r : List UInt8} {q : Quad} (h : restU sch r = some q) : printL q = sch ++ [58, 47, 47] ++ r ∨ printL q ++ [63] = sch ++ [58, 47, 47] ++ r := by
  unfold restU at h
  split at h
  · injection h with h
    subst h
    have e : ∀ z, sch ++ [58, 47, 47] ++ (frontL r).take (atL 47 (frontL r)) ++ (frontL r).drop (atL 47 (frontL r)) ++ z = sch ++ [58, 47, 47] ++ (frontL r ++ z) := fun z => by
      rw [List.append_assoc _ _ ((frontL r).drop _), List.take_append_drop, List.append_assoc]
    have hd : ∀ h : atL 63 r < r.length, r = frontL r ++ 63 :: queryL r := fun h => by
      unfold frontL queryL
      have := List.drop_eq_getElem_cons h
      rw [atL_hit 63 r h] at this
      rw [← this, List.take_append_drop]
    unfold printL
    dsimp only
    by_cases hq : queryL r = []
    · rw [if_pos hq, e, List.append_nil]
      by_cases hlt : atL 63 r < r.length
      · right
        conv => rhs; rw [hd hlt, hq]
        simp only [List.append_assoc]
      · left
        have hle := atL_le 63 r
        have : frontL r = r := by unfold frontL; exact List.take_of_length_le (by omega)
        rw [this]
    · left
      rw [if_neg hq, e]
      have hlt : atL 63 r < r.length := by
        rcases Nat.lt_or_ge (atL 63 r) r.length with h | h
        · exact h
        · exact absurd (by unfold queryL; exact List.drop_eq_nil_of_le (by omega)) hq
      rw [← hd hlt]
  · cases h
theorem uri_again {l : List UInt8} (h : uriE l = 0) : printL (uriV l) = l ∨ printL (uriV l) ++ [63] = l := by
  by_cases hl : 4096 < l.length
  · rw [(uri_large hl).1] at h; cases h
  · cases hu : uriL l with
    | none => rw [(uri_bad (by omega) hu).1] at h; cases h
    | some q =>
      rw [(uri_good (by omega) hu).2]
      unfold uriL at hu
      split at hu
      · split at hu
        · next h1 => have := restU_again hu; rwa [← h1, List.take_append_drop] at this
        · split at hu
          · next h1 => have := restU_again hu; rwa [← h1, List.take_append_drop] at this
          · cases hu
      · cases hu
theorem uri_len (l : List UInt8) : (uriV l).1.length ≤ 5 ∧ (uriV l).2.1.length ≤ 4096 ∧ (uriV l).2.2.1.length ≤ 4096 ∧ (uriV l).2.2.2.length ≤ 4096 := by
  by_cases hl : 4096 < l.length
  · rw [(uri_large hl).2]; simp [noU]
  · have hr : ∀ sch r : List UInt8, r.length ≤ 4096 → sch.length ≤ 5 → ∀ q, restU sch r = some q → q.1.length ≤ 5 ∧ q.2.1.length ≤ 4096 ∧ q.2.2.1.length ≤ 4096 ∧ q.2.2.2.length ≤ 4096 := by
      intro sch r hr hs q hq
      unfold restU at hq
      split at hq
      · injection hq with hq
        subst hq
        have hf : (frontL r).length ≤ r.length := by unfold frontL; rw [List.length_take]; omega
        have hq : (queryL r).length ≤ r.length := by unfold queryL; rw [List.length_drop]; omega
        dsimp only
        rw [List.length_take, List.length_drop]
        omega
      · cases hq
    cases hu : uriL l with
    | none => rw [(uri_bad (by omega) hu).2]; simp [noU]
    | some q =>
      rw [(uri_good (by omega) hu).2]
      unfold uriL at hu
      split at hu
      · split at hu
        · exact hr _ _ (by rw [List.length_drop]; omega) (by decide) _ hu
        · split at hu
          · exact hr _ _ (by rw [List.length_drop]; omega) (by decide) _ hu
          · cases hu
      · cases hu
end Go.Proofs.YtiofgepfcacgjaaDoor
namespace Go.Proofs.YtiofgepfcacgjaaDoor
set_option linter.unusedVariables false

def shortP (s : List UInt8) : Bool := decide (s ≠ []) && decide (s.length ≤ 256)
def addrP (s : List UInt8) : Bool := decide (uriE s = 0) && decide (s.length ≤ 256)
/-- the config's own texts, and how many clients and connectors it has -/
def headP (x : CfgP) : Prop := uriE x.gIssuer = 0 ∧ (uriV x.gIssuer).2.2.1 = [] ∧ x.gIssuer = (uriV x.gIssuer).1 ++ [58, 47, 47] ++ (uriV x.gIssuer).2.1 ∧ shortP x.gIssuer = true ∧ shortP x.gKeyID = true ∧ shortP x.gKeySecret = true ∧ x.gClients.length ≤ 8 ∧ x.gConns.length ≤ 8
def cliP (r : CliP) : Prop := shortP r.cID = true ∧ r.cSecret.length ≤ 256 ∧ 1 ≤ r.cReds.length ∧ r.cReds.length ≤ 64 ∧ ∀ k (hk : k < r.cReds.length), addrP r.cReds[k] = true
def cnP (r : ConnP) : Prop := rulesE r.fRules = 0 ∧ r.fRules.length ≤ 256 ∧ shortP r.fID = true ∧ shortP r.fIssuer = true ∧ shortP r.fClient = true ∧ shortP r.fSecret = true ∧ addrP r.fAuth = true
/-- the first n are good, and unlike those ahead of them -/
def upto {α : Type} (good : α → Prop) (key : α → List UInt8) (l : List α) (n : Nat) : Prop := ∀ j (hj : j < l.length), j < n → good l[j] ∧ ∀ k (hk : k < l.length), k < j → key l[k] ≠ key l[j]
theorem upto_zero {α : Type} (good : α → Prop) (key : α → List UInt8) (l : List α) : upto good key l 0 := fun j hj h => absurd h (Nat.not_lt_zero _)
theorem upto_step {α : Type} {good : α → Prop} {key : α → List UInt8} {l : List α} {n : Nat} (hn : n < l.length) (h : upto good key l n) (hg : good l[n]) (hu : ∀ k (hk : k < l.length), k < n → key l[k] ≠ key l[n]) : upto good key l (n + 1) := fun j hj h1 => by
  by_cases e : j = n
  · subst e; exact ⟨hg, hu⟩
  · exact h j hj (by omega)
theorem upto_bad {α : Type} {good : α → Prop} {key : α → List UInt8} {l : List α} {n : Nat} (hn : n < l.length) (hg : ¬ good l[n]) : ¬ upto good key l l.length := fun h => hg (h n hn hn).1
theorem upto_like {α : Type} {good : α → Prop} {key : α → List UInt8} {l : List α} {n k : Nat} (hn : n < l.length) (hk : k < n) (h1 : key (l[k]'(Nat.lt_trans hk hn)) = key l[n]) : ¬ upto good key l l.length := fun h => (h n hn hn).2 k (Nat.lt_trans hk hn) hk h1
def GoodC (x : CfgP) : Prop := headP x ∧ upto cliP CliP.cID x.gClients x.gClients.length ∧ upto cnP ConnP.fID x.gConns x.gConns.length
/-- what Good says -/
def GoodCfg (x : CfgP) (e : Ending) : Prop := ∃ b, e = .returned (.bool b) ∧ (b = true ↔ GoodC x)
theorem goodCfg_no {x : CfgP} (h : ¬ GoodC x) : GoodCfg x (.returned (.bool false)) := ⟨false, rfl, by simp [h]⟩
theorem goodCfg_yes {x : CfgP} (h : GoodC x) : GoodCfg x (.returned (.bool true)) := ⟨true, rfl, by simp [h]⟩
theorem goodCfg_is {x : CfgP} (h : GoodC x) {e : Ending} (hs : GoodCfg x e) : e = .returned (.bool true) := by
  obtain ⟨b, rfl, hb⟩ := hs
  rw [hb.2 h]
end Go.Proofs.YtiofgepfcacgjaaDoor
namespace Go.Proofs.YtiofgepfcacgjaaDoor
open Go.RowKit
set_option linter.unusedVariables false
set_option linter.unusedSimpArgs false

/-- the law's own config -/
def cfgT : CfgP := ⟨[104, 116, 116, 112, 115, 58, 47, 47, 98], [107], [115], [⟨[97], [120], [[104, 116, 116, 112, 58, 47, 47, 114]]⟩], []⟩
theorem addrT : addrP [104, 116, 116, 112, 58, 47, 47, 114] = true := by decide
theorem cliT_good : cliP ⟨[97], [120], [[104, 116, 116, 112, 58, 47, 47, 114]]⟩ := ⟨by decide, by decide, by decide, by decide, fun k hk => match k, hk with
  | 0, _ => addrT⟩
theorem cfgT_good : GoodC cfgT := by
  refine ⟨⟨by decide, by decide, by decide, by decide, by decide, by decide, by decide, by decide⟩, fun j hj _ => ?_, fun j hj => by cases hj⟩
  match j, hj with
  | 0, _ => exact ⟨cliT_good, fun k _ h => absurd h (Nat.not_lt_zero _)⟩
theorem cfgT_fit : cfgT.fitS := by
  refine ⟨⟨by decide, by decide, by decide, by decide, fun r hr => ?_, by decide, fun r hr => by cases hr⟩, by decide, by decide, by decide, fun k hk => ?_, fun k hk => by cases hk⟩
  · obtain rfl : r = _ := by simpa [cfgT] using hr
    exact ⟨by decide, by decide, by decide, fun s hs => by
      obtain rfl : s = _ := by simpa using hs
      decide⟩
  · match k, hk with
    | 0, _ => show 1 ≤ 100; decide
/-- what the landed clients do, behind world w0 -/
structure CodeCli (w0 : World) : Prop where
  good : ∀ w, Below w0.heap.size w0 w → ∀ (x : CfgP) (A : Option Addr) (n c : Nat) (A' : Option Addr) (n' c' : Nat), CfgIs w x A n c A' n' c' → x.fitS →
    Calls Tryd.prog 10 #[x.val A n c A' n' c'] w fun e w' => GoodCfg x e ∧ Below w.heap.size w w'
  auth : ∀ w, Below w0.heap.size w0 w → ∀ (x : CfgP) (A : Option Addr) (n c : Nat) (A' : Option Addr) (n' c' : Nat) (id sec : List UInt8), CfgIs w x A n c A' n' c' → x.fit → x.gClients.length ≤ 20 → sec.length ≤ 100000000000000000 →
    Calls Tryd.prog 16 #[x.val A n c A' n' c', tv id, tv sec] w fun e w' => e = .returned (.bool (authP x id sec)) ∧ Below w.heap.size w w'
theorem CodeCli.later {w0 w : World} (K : CodeCli w0) (hb : Below w0.heap.size w0 w) : CodeCli w := ⟨fun w h => K.good w (hb.chain h), fun w h => K.auth w (hb.chain h)⟩
set_option maxRecDepth 100000 in
set_option maxHeartbeats 8000000 in
theorem answers16_any {w : World} (K : CodeCli w) : Calls Tryd.prog 8 #[] w fun e w' => e = .returned (.bool true) ∧ Below w.heap.size w w' := by
  obtain ⟨q, hq⟩ : ∃ q, w.heap.size = q := ⟨_, rfl⟩
  obtain ⟨U, hU⟩ : ∃ B : ByteArray, B = ⟨#[104, 116, 116, 112, 58, 47, 47, 114]⟩ := ⟨_, rfl⟩
  obtain ⟨X, hX⟩ : ∃ X, ((w.alloc (.cells #[.string U] 9)).alloc (.cells #[.string ⟨#[97]⟩, .string ⟨#[120]⟩, .slice (some ⟨q, 0, none⟩) 1 1] 32)).alloc (.cells #[.string ⟨#[104, 116, 116, 112, 115, 58, 47, 47, 98]⟩, .string ⟨#[107]⟩, .string ⟨#[115]⟩, .slice (some ⟨q + 1, 0, none⟩) 1 1, .slice none 0 0] 27) = X := ⟨_, rfl⟩
  have bX : Below w.heap.size w X := by rw [← hX]; exact (((Below.refl _ _).alloc (Nat.le_refl _) _).alloc (by simp) _).alloc (by simp; omega) _
  have x0 : X.heap[q]? = some (.cells #[.string U] 9 (0, 0)) := by rw [← hX, ← hq]; exact alloc_block (alloc_block (heap_alloc_last w _))
  have x1 : X.heap[q + 1]? = some (.cells #[.string ⟨#[97]⟩, .string ⟨#[120]⟩, .slice (some ⟨q, 0, none⟩) 1 1] 32 (0, 0)) := by rw [← hX, ← hq]; exact alloc_block (fresh_at _ (by simp))
  have x2 : X.heap[q + 2]? = some (.cells #[.string ⟨#[104, 116, 116, 112, 115, 58, 47, 47, 98]⟩, .string ⟨#[107]⟩, .string ⟨#[115]⟩, .slice (some ⟨q + 1, 0, none⟩) 1 1, .slice none 0 0] 27 (0, 0)) := by rw [← hX, ← hq]; exact fresh_at _ (by simp)
  have hcf : ∀ W, Below X.heap.size X W → CfgIs W cfgT (some ⟨q + 1, 0, none⟩) 1 1 none 0 0 := fun W hb => by
    have k0 := blk_below x0 hb
    have k1 := blk_below x1 hb
    refine ⟨rfl, rfl, ⟨_, _, rfl, Nat.le_refl _, fun k r hk => ?_⟩, ⟨_, _, rfl, Nat.le_refl _, fun k r hk => by cases hk⟩⟩
    obtain ⟨hkl, rfl⟩ := List.getElem?_eq_some_iff.1 hk
    obtain rfl : k = 0 := by simp [cfgT] at hkl; omega
    refine ⟨q + 1, 0, _, rfl, (Array.getElem?_eq_some_iff.1 k1).1, cell_here k1, cell_here k1, cell_here k1, ⟨_, _, rfl, Nat.le_refl _, fun j y hj => ?_⟩⟩
    obtain ⟨hjl, rfl⟩ := List.getElem?_eq_some_iff.1 hj
    obtain rfl : j = 0 := by simp [cfgT] at hjl; omega
    exact ⟨q, 0, rfl, (Array.getElem?_eq_some_iff.1 k0).1, by rw [show tv _ = Value.string U by rw [hU]; rfl]; exact cell_here k0⟩
  have hv : cfgT.val (some ⟨q + 1, 0, none⟩) 1 1 none 0 0 = .agg #[.string ⟨#[104, 116, 116, 112, 115, 58, 47, 47, 98]⟩, .string ⟨#[107]⟩, .string ⟨#[115]⟩, .slice (some ⟨q + 1, 0, none⟩) 1 1, .slice none 0 0] := rfl
  have hg := fun W (hb : Below X.heap.size X W) => (K.good W (bX.chain hb) _ _ _ _ _ _ _ (hcf W hb) cfgT_fit).mono fun e w' h => And.intro (goodCfg_is cfgT_good h.1) h.2
  have h1 := fun W (hb : Below X.heap.size X W) => K.auth W (bX.chain hb) _ _ _ _ _ _ _ [97] [120] (hcf W hb) cfgT_fit.1 (by decide) (by decide)
  have h2 := fun W (hb : Below X.heap.size X W) => K.auth W (bX.chain hb) _ _ _ _ _ _ _ [97] [121] (hcf W hb) cfgT_fit.1 (by decide) (by decide)
  rw [hv] at hg h1 h2
  rw [show authP cfgT [97] [120] = true by decide] at h1
  rw [show authP cfgT [97] [121] = false by decide] at h2
  have HG := Lib.hid hg; have H1 := Lib.hid h1; have H2 := Lib.hid h2; have X2 := Lib.hid x2; have HX := Lib.hid hX; have HQ := Lib.hid hq; have BX := Lib.hid bX; have HUU := Lib.hid hU
  clear hg h1 h2 x0 x1 x2 hX hq bX hv hcf K hU
  go_enter Tryd.func8, Tryd.ntmps8
  go_upto_region 2 with fail
  rw [← HUU.out, HQ.out, HX.out]
  obtain ⟨⟨e0, e1, e2, e3, e4⟩, -⟩ := cellsK5_of X2.out
  go_wp2_with fail
  refine (HG.out _ (Below.refl _ _)).mono ?_
  rintro e w1 ⟨rfl, hb1⟩
  have B1 := Lib.hid hb1
  clear hb1 e0 e1 e2 e3 e4
  obtain ⟨⟨e0, e1, e2, e3, e4⟩, -⟩ := cellsK5_of (blk_below X2.out B1.out)
  dsimp only
  go_wp2_with fail
  refine (H1.out _ B1.out).mono ?_
  rintro e w2 ⟨rfl, hb2⟩
  have B2 := Lib.hid (B1.out.chain hb2)
  clear hb2 e0 e1 e2 e3 e4
  obtain ⟨⟨e0, e1, e2, e3, e4⟩, -⟩ := cellsK5_of (blk_below X2.out B2.out)
  dsimp only
  go_wp2_with fail
  refine (H2.out _ B2.out).mono ?_
  rintro e w3 ⟨rfl, hb3⟩
  have B3 := Lib.hid (B2.out.chain hb3)
  clear hb3 e0 e1 e2 e3 e4
  dsimp only
  go_wp2_with fail
  go_ret
  exact ⟨rfl, BX.out.chain B3.out⟩
end Go.Proofs.YtiofgepfcacgjaaDoor
namespace Go.Proofs.YtiofgepfcacgjaaDoor
open Go.RowKit
set_option linter.unusedVariables false
set_option linter.unusedSimpArgs false

def FewSays (x : CfgP) (e : Ending) : Prop := ∃ b, e = .returned (.bool b) ∧ (b = true ↔ x.few)
theorem fewSays_no {x : CfgP} (h : ¬ x.few) : FewSays x (.returned (.bool false)) := ⟨false, rfl, by simp [h]⟩
theorem fewSays_yes {x : CfgP} (h : x.few) : FewSays x (.returned (.bool true)) := ⟨true, rfl, by simp [h]⟩
set_option maxRecDepth 100000 in
set_option maxHeartbeats 8000000 in
theorem small16_any (x : CfgP) (A : Option Addr) (n c : Nat) (A' : Option Addr) (n' c' : Nat) (w : World) (h : CfgIs w x A n c A' n' c') (hfit : x.fit) :
    Calls Tryd.prog 9 #[x.val A n c A' n' c'] w fun e w' => FewSays x e ∧ Below w.heap.size w w' := by
  obtain ⟨IS, hIS⟩ : ∃ z : ByteArray, (⟨x.gIssuer.toArray⟩ : ByteArray) = z := ⟨_, rfl⟩
  obtain ⟨KI, hKI⟩ : ∃ z : ByteArray, (⟨x.gKeyID.toArray⟩ : ByteArray) = z := ⟨_, rfl⟩
  obtain ⟨KS, hKS⟩ : ∃ z : ByteArray, (⟨x.gKeySecret.toArray⟩ : ByteArray) = z := ⟨_, rfl⟩
  have hv : x.val A n c A' n' c' = .agg #[.string IS, .string KI, .string KS, .slice A n c, .slice A' n' c'] := by unfold CfgP.val tv; rw [hIS, hKI, hKS]
  rw [hv]
  have zIS : IS.size = x.gIssuer.length := by rw [← hIS]; show x.gIssuer.toArray.size = _; simp
  obtain ⟨hn1, hn2, hc1, hc2⟩ := h
  have hf0 : n ≤ 200000000000000 := by rw [hn1]; exact hfit.2.2.2.1
  have hf1 : n' ≤ 200000000000000 := by rw [hn2]; exact hfit.2.2.2.2.2.1
  have hfew : x.few ↔ n ≤ 20 ∧ n' ≤ 20 ∧ IS.size ≤ 5000 ∧ (∀ k (hk : k < x.gClients.length), (x.gClients[k]).cReds.length ≤ 100) ∧ ∀ k (hk : k < x.gConns.length), (x.gConns[k]).fRules.length ≤ 5000 := by
    unfold CfgP.few
    rw [zIS]
    constructor
    · rintro ⟨a1, a2, a3, a4, a5⟩; exact ⟨by omega, by omega, a1, a4, a5⟩
    · rintro ⟨a1, a2, a3, a4, a5⟩; exact ⟨a3, by omega, by omega, a4, a5⟩
  obtain ⟨b, hb⟩ : ∃ b, w.heap.size = b := ⟨_, rfl⟩
  obtain ⟨W0, hW0⟩ : ∃ W, w.alloc (.cells #[.string IS, .string KI, .string KS, .slice A n c, .slice A' n' c'] 27) = W := ⟨_, rfl⟩
  have hb0 : Below w.heap.size w W0 := by rw [← hW0]; exact (Below.refl _ _).alloc (Nat.le_refl _) _
  have k0 : W0.heap[b]? = some (.cells #[.string IS, .string KI, .string KS, .slice A n c, .slice A' n' c'] 27 (0, 0)) := by rw [← hW0, ← hb]; exact heap_alloc_last w _
  have HFEW := Lib.hid hfew; have HW0 := Lib.hid hW0; have HB := Lib.hid hb; have HB0 := Lib.hid hb0; have K0 := Lib.hid k0; have HRC := Lib.hid hc1; have HRN := Lib.hid hc2; have HN1 := Lib.hid hn1; have HN2 := Lib.hid hn2; have HFIT := Lib.hid hfit
  clear hv hIS hKI hKS zIS hn1 hn2 hc1 hc2 hfew hb hW0 hb0 k0 hfit
  go_enter Tryd.func9, Tryd.ntmps9
  go_upto_region 1 with fail
  rw [HW0.out, HB.out]
  obtain ⟨⟨e0, e1, e2, e3, e4⟩, -⟩ := cellsK5_of K0.out
  by_cases h1 : n ≤ 20
  rotate_left
  · have NO := Lib.hid (fun q => h1 (HFEW.out.1 q).1)
    have t : (20 : Int) < (n : Int) := by omega
    go_wp2_with fail
    go_ret
    exact ⟨fewSays_no NO.out, HB0.out⟩
  have t1 : ¬ (20 : Int) < (n : Int) := by omega
  by_cases h2 : n' ≤ 20
  rotate_left
  · have NO := Lib.hid (fun q => h2 (HFEW.out.1 q).2.1)
    have t : (20 : Int) < (n' : Int) := by omega
    go_wp2_with fail
    go_ret
    exact ⟨fewSays_no NO.out, HB0.out⟩
  have t2 : ¬ (20 : Int) < (n' : Int) := by omega
  by_cases h3 : IS.size ≤ 5000
  rotate_left
  · have NO := Lib.hid (fun q => h3 (HFEW.out.1 q).2.2.1)
    have t : (5000 : Int) < (IS.size : Int) := by omega
    go_wp2_with fail
    go_ret
    exact ⟨fewSays_no NO.out, HB0.out⟩
  have t3 : ¬ (5000 : Int) < (IS.size : Int) := by omega
  go_wp2_with fail
  go_loop [3] (fun i => ∃ j : Nat, j ≤ n ∧ i = .int .i64 j ∧ Hid (∀ z (hz : z < x.gClients.length), z < j → (x.gClients[z]).cReds.length ≤ 100)) (fun i => n - (intOf i).toNat)
  case atStart => exact ⟨0, Nat.zero_le _, rfl, Lib.hid (fun z hz h => absurd h (Nat.not_lt_zero _))⟩
  case round =>
    obtain ⟨j, hj, rfl, hR⟩ := hrel
    by_cases hlt : j < n
    · have hjl : j < x.gClients.length := by have := HN1.out; omega
      have hjr : decide ((j : Int) < n) = true := by simp; omega
      obtain ⟨g, o, u, rfl, hg, -, -, c2, ht⟩ := HRC.out.at j hjl
      have c2 := (HB0.out.cell (p := ⟨g, o + j * 3 + 2, none⟩) hg).trans c2
      obtain ⟨AR, cr, rfl, hcr, har⟩ := ht
      obtain ⟨nr, hnr⟩ : ∃ z, (x.gClients[j]).cReds.length = z := ⟨_, rfl⟩
      rw [hnr] at c2
      have HNR := Lib.hid hnr
      have hj0 : (0 : Int) ≤ j := by omega
      have hj1 : (j : Int) < n := by omega
      clear hcr har hnr
      by_cases hbig : nr ≤ 100
      · have t : decide ((100 : Int) < (nr : Int)) = false := by simp; omega
        have hnx : ∀ z (hz : z < x.gClients.length), z < j + 1 → (x.gClients[z]).cReds.length ≤ 100 := fun z hz h => by
          by_cases e : z = j
          · subst e; rw [HNR.out]; exact hbig
          · exact hR.out z hz (by omega)
        have NX := Lib.hid hnx
        clear hnx hR
        go_wp2_with fail
        exact ⟨⟨j + 1, by omega, by go_num, NX⟩, by simp [intOf]; omega⟩
      · have t : decide ((100 : Int) < (nr : Int)) = true := by simp; omega
        have NO := Lib.hid (fun q => hbig (by rw [← HNR.out]; exact (HFEW.out.1 q).2.2.2.1 j hjl))
        clear hR
        go_wp2_with fail
        go_ret
        exact ⟨fewSays_no NO.out, HB0.out⟩
    · obtain rfl : j = n := by omega
      have hjr : decide ((j : Int) < j) = false := by simp
      have HA := Lib.hid hR.out
      clear hR
      go_wp2_with fail
      go_loop [4] (fun i => ∃ m : Nat, m ≤ n' ∧ i = .int .i64 m ∧ Hid (∀ z (hz : z < x.gConns.length), z < m → (x.gConns[z]).fRules.length ≤ 5000)) (fun i => n' - (intOf i).toNat)
      case atStart => exact ⟨0, Nat.zero_le _, rfl, Lib.hid (fun z hz h => absurd h (Nat.not_lt_zero _))⟩
      case round =>
        obtain ⟨m, hm, rfl, hR⟩ := hrel
        by_cases hlt4 : m < n'
        · have hml : m < x.gConns.length := by have := HN2.out; omega
          have hmr : decide ((m : Int) < n') = true := by simp; omega
          obtain ⟨g, o, rfl, hg, -, -, -, -, -, -, c6⟩ := HRN.out.at m hml
          have c6 := (HB0.out.cell (p := ⟨g, o + m * 7 + 6, none⟩) hg).trans c6
          obtain ⟨RUL, hRUL⟩ : ∃ B : ByteArray, B = ⟨(x.gConns[m]).fRules.toArray⟩ := ⟨_, rfl⟩
          have hzr : RUL.size = (x.gConns[m]).fRules.length := by rw [hRUL]; show (x.gConns[m]).fRules.toArray.size = _; simp
          rw [show tv (x.gConns[m]).fRules = .string RUL by rw [hRUL]; rfl] at c6
          have HZR := Lib.hid hzr
          have hm0 : (0 : Int) ≤ m := by omega
          have hm1 : (m : Int) < n' := by omega
          clear hRUL hzr
          by_cases hbig : RUL.size ≤ 5000
          · have t : decide ((5000 : Int) < (RUL.size : Int)) = false := by simp; omega
            have hnx : ∀ z (hz : z < x.gConns.length), z < m + 1 → (x.gConns[z]).fRules.length ≤ 5000 := fun z hz h => by
              by_cases e : z = m
              · subst e; rw [← HZR.out]; exact hbig
              · exact hR.out z hz (by omega)
            have NX := Lib.hid hnx
            clear hnx hR
            go_wp2_with fail
            exact ⟨⟨m + 1, by omega, by go_num, NX⟩, by simp [intOf]; omega⟩
          · have t : decide ((5000 : Int) < (RUL.size : Int)) = true := by simp; omega
            have NO := Lib.hid (fun q => hbig (by rw [HZR.out]; exact (HFEW.out.1 q).2.2.2.2 m hml))
            clear hR
            go_wp2_with fail
            go_ret
            exact ⟨fewSays_no NO.out, HB0.out⟩
        · obtain rfl : m = n' := by omega
          have hmr : decide ((m : Int) < m) = false := by simp
          have YES := Lib.hid (HFEW.out.2 ⟨h1, h2, h3, fun k hk => HA.out k hk (by rw [HN1.out]; exact hk), fun k hk => hR.out k hk (by rw [HN2.out]; exact hk)⟩)
          clear hR
          go_wp2_with fail
          go_ret
          exact ⟨fewSays_yes YES.out, HB0.out⟩
end Go.Proofs.YtiofgepfcacgjaaDoor
