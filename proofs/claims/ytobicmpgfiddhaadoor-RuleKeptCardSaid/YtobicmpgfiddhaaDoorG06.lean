/- Texts merged by program, in build order: Parts, RuleSplit, RuleSplitSeq. -/
import Derived.Test.YtobicmpgfiddhaaDoorG01
import Derived.Test.YtobicmpgfiddhaaDoorG05
import Derived.Lib.Split
import Derived.Lib.IndexBytes
import Derived.Test.YtobicmpgfiddhaaDoorG04
import Derived.Shelf.Abstract
import Derived.Shelf.RegionOpen
import Derived.WalkKit
import Derived.OwnWalkIn
import Derived.TacticsInMore
import Derived.LoopNIn
import Derived.LoopIn
namespace Go.Proofs.YtobicmpgfiddhaaDoor

/-- where a byte stands first; the length: nowhere -/
def atL (c : UInt8) : List UInt8 → Nat
  | [] => 0
  | x :: r => if x = c then 0 else atL c r + 1
theorem atL_le (c : UInt8) (l : List UInt8) : atL c l ≤ l.length := by
  induction l with
  | nil => simp [atL]
  | cons x r ih => unfold atL; split <;> simp <;> omega
theorem atL_hit (c : UInt8) (l : List UInt8) (h : atL c l < l.length) : l[atL c l] = c := by
  induction l with
  | nil => simp at h
  | cons x r ih =>
    by_cases e : x = c
    · simp [atL, e]
    · have e' : atL c (x :: r) = atL c r + 1 := by simp [atL, e]
      simp only [e'] at h ⊢
      simp at h ⊢
      exact ih h
theorem atL_before (c : UInt8) (l : List UInt8) (k : Nat) (hk : k < atL c l) (h : k < l.length) : l[k] ≠ c := by
  induction l generalizing k with
  | nil => simp at h
  | cons x r ih =>
    by_cases e : x = c
    · simp [atL, e] at hk
    · have e' : atL c (x :: r) = atL c r + 1 := by simp [atL, e]
      cases k with
      | zero => simpa using e
      | succ k => simp at h ⊢; exact ih k (by omega) h
theorem atL_is (c : UInt8) (l : List UInt8) (k : Nat) (hk : k ≤ l.length) (hb : ∀ j (hj : j < l.length), j < k → l[j] ≠ c) (hh : ∀ h : k < l.length, l[k] = c) : atL c l = k := by
  rcases Nat.lt_trichotomy (atL c l) k with h | h | h
  · exact absurd (atL_hit c l (by omega)) (hb _ (by omega) h)
  · exact h
  · have := atL_le c l
    exact absurd (hh (by omega)) (atL_before c l k h (by omega))
theorem atL_app (c : UInt8) (a b : List UInt8) (h : c ∉ a) : atL c (a ++ b) = a.length + atL c b := by
  induction a with
  | nil => simp
  | cons x r ih =>
    simp at h
    have hx : x ≠ c := fun e => h.1 e.symm
    simp [atL, hx, ih h.2]; omega
theorem atL_none (c : UInt8) (a : List UInt8) (h : c ∉ a) : atL c a = a.length := by
  have := atL_app c a [] h; simpa [atL] using this
theorem atL_index (c : UInt8) (l : List UInt8) : Lib.indexByte l c = if atL c l < l.length then (atL c l : Int) else -1 := by
  induction l with
  | nil => simp [Lib.indexByte]
  | cons x r ih =>
    by_cases e : x = c
    · simp [Lib.indexByte, atL, e]
    · have e' : (x == c) = false := by simpa using e
      unfold Lib.indexByte atL
      rw [if_neg e, e', ih]
      by_cases h : atL c r < r.length
      · have h' : atL c r + 1 < (x :: r).length := by simp; omega
        rw [if_pos h, if_pos h']
        have : ((atL c r : Int) == -1) = false := by simp
        simp [this]
      · have h' : ¬ atL c r + 1 < (x :: r).length := by simp; omega
        rw [if_neg h, if_neg h']; simp

/-- a text's parts between a byte -/
def splitL (c : UInt8) : List UInt8 → List (List UInt8)
  | [] => [[]]
  | x :: r => if x = c then [] :: splitL c r else (match splitL c r with | [] => [[x]] | h :: t => (x :: h) :: t)
theorem splitL_cons (c x : UInt8) (r : List UInt8) : splitL c (x :: r) = if x = c then [] :: splitL c r else (match splitL c r with | [] => [[x]] | h :: t => (x :: h) :: t) := rfl
theorem splitL_at (c : UInt8) (l : List UInt8) : splitL c l = if atL c l < l.length then l.take (atL c l) :: splitL c (l.drop (atL c l + 1)) else [l] := by
  induction l with
  | nil => simp [splitL]
  | cons x r ih =>
    by_cases e : x = c
    · simp [splitL, atL, e]
    · have e' : atL c (x :: r) = atL c r + 1 := by simp [atL, e]
      rw [splitL_cons, if_neg e, e', ih]
      by_cases h : atL c r < r.length
      · have h' : atL c r + 1 < (x :: r).length := by simp; omega
        rw [if_pos h, if_pos h']; simp
      · have h' : ¬ atL c r + 1 < (x :: r).length := by simp; omega
        rw [if_neg h, if_neg h']
theorem splitL_more {c : UInt8} {l : List UInt8} (h : atL c l < l.length) : splitL c l = l.take (atL c l) :: splitL c (l.drop (atL c l + 1)) := by
  rw [splitL_at, if_pos h]
theorem splitL_last {c : UInt8} {l : List UInt8} (h : l.length ≤ atL c l) : splitL c l = [l] := by
  rw [splitL_at, if_neg (by omega)]
theorem splitL_len (c : UInt8) (l : List UInt8) : (splitL c l).length ≤ l.length + 1 := by
  induction l with
  | nil => simp [splitL]
  | cons x r ih =>
    unfold splitL
    split
    · simp; omega
    · split
      · simp
      · rename_i h t e; rw [e] at ih; simp at ih ⊢; omega
theorem splitL_each (c : UInt8) (l : List UInt8) : ∀ p ∈ splitL c l, p.length ≤ l.length := by
  induction l with
  | nil => simp [splitL]
  | cons x r ih =>
    unfold splitL
    split
    · intro p hp; simp at hp; rcases hp with rfl | hp
      · simp
      · have := ih p hp; simp; omega
    · split
      · intro p hp; simp at hp; subst hp; simp
      · rename_i h t e
        rw [e] at ih
        intro p hp; simp at hp
        rcases hp with rfl | hp
        · have := ih h (by simp); simp; omega
        · have := ih p (by simp [hp]); simp; omega

/-- the parts between & that are not empty -/
def partsL (l : List UInt8) : List (List UInt8) := (splitL 38 l).filter (fun p => !p.isEmpty)
def one1 (p : List UInt8) : List (List UInt8) := if p = [] then [] else [p]
theorem filter_one1 (p : List UInt8) (r : List (List UInt8)) : (p :: r).filter (fun p => !p.isEmpty) = one1 p ++ r.filter (fun p => !p.isEmpty) := by
  cases p <;> simp [one1]
theorem partsL_more {l : List UInt8} (h : atL 38 l < l.length) : partsL l = one1 (l.take (atL 38 l)) ++ partsL (l.drop (atL 38 l + 1)) := by
  unfold partsL; rw [splitL_more h, filter_one1]
theorem partsL_last {l : List UInt8} (h : l.length ≤ atL 38 l) : partsL l = one1 l := by
  unfold partsL; rw [splitL_last h, filter_one1]; simp
theorem partsL_app (a b : List UInt8) (h : (38 : UInt8) ∉ a) : partsL (a ++ 38 :: b) = one1 a ++ partsL b := by
  have e : atL 38 (a ++ 38 :: b) = a.length := by rw [atL_app _ _ _ h]; simp [atL]
  rw [partsL_more (by rw [e]; simp), e]
  simp
theorem partsL_one (a : List UInt8) (h : (38 : UInt8) ∉ a) : partsL a = one1 a := partsL_last (by rw [atL_none _ _ h]; exact Nat.le_refl _)
theorem partsL_amp (b : List UInt8) : partsL (38 :: b) = partsL b := by
  have := partsL_app [] b (by simp); simpa [one1] using this
theorem partsL_amps (n : Nat) (b : List UInt8) : partsL (List.replicate n 38 ++ b) = partsL b := by
  induction n with
  | zero => simp
  | succ n ih => rw [List.replicate_succ, List.cons_append, partsL_amp, ih]

/-- the pair that a part stands for -/
def pairL (p : List UInt8) : Option (List UInt8 × List UInt8) :=
  match unq (p.take (atL 61 p)), unq (p.drop (atL 61 p + 1)) with
  | some a, some b => some (a, b)
  | _, _ => none
theorem pairL_some {p a b : List UInt8} (h : unq (p.take (atL 61 p)) = some a) (h' : unq (p.drop (atL 61 p + 1)) = some b) : pairL p = some (a, b) := by
  unfold pairL; rw [h, h']
theorem pairL_key {p : List UInt8} (h : unq (p.take (atL 61 p)) = none) : pairL p = none := by
  unfold pairL; rw [h]
theorem pairL_val {p : List UInt8} (h' : unq (p.drop (atL 61 p + 1)) = none) : pairL p = none := by
  unfold pairL; rw [h']; cases unq (p.take (atL 61 p)) <;> rfl
abbrev PL := List (List UInt8 × List UInt8)
def pairsL : List (List UInt8) → Option PL
  | [] => some []
  | p :: r => match pairL p, pairsL r with
    | some x, some xs => some (x :: xs)
    | _, _ => none
theorem pairsL_cons (p : List UInt8) (r : List (List UInt8)) : pairsL (p :: r) = match pairL p, pairsL r with
    | some x, some xs => some (x :: xs)
    | _, _ => none := rfl
theorem pairsL_app_some {l : List (List UInt8)} {xs : PL} (h : pairsL l = some xs) (r : List (List UInt8)) : pairsL (l ++ r) = (pairsL r).map (xs ++ ·) := by
  induction l generalizing xs with
  | nil => simp [pairsL] at h; subst h; simp
  | cons p l ih =>
    rw [pairsL_cons] at h
    rw [List.cons_append, pairsL_cons]
    cases hp : pairL p with
    | none => rw [hp] at h; simp at h
    | some x =>
      cases hl : pairsL l with
      | none => rw [hp, hl] at h; simp at h
      | some ys =>
        rw [hp, hl] at h
        simp at h; subst h
        rw [ih hl]
        cases pairsL r <;> simp
theorem pairsL_app_none {l : List (List UInt8)} (h : pairsL l = none) (r : List (List UInt8)) : pairsL (l ++ r) = none := by
  induction l with
  | nil => simp [pairsL] at h
  | cons p l ih =>
    rw [pairsL_cons] at h
    rw [List.cons_append, pairsL_cons]
    cases hp : pairL p with
    | none => rfl
    | some x =>
      cases hl : pairsL l with
      | none => rw [ih hl]
      | some ys => rw [hp, hl] at h; simp at h
theorem pairsL_snoc {l : List (List UInt8)} {xs : PL} {p : List UInt8} {x : List UInt8 × List UInt8} (h : pairsL l = some xs) (hp : pairL p = some x) : pairsL (l ++ [p]) = some (xs ++ [x]) := by
  rw [pairsL_app_some h]; simp [pairsL, hp]
theorem pairsL_bad {l : List (List UInt8)} {p : List UInt8} (hp : pairL p = none) : pairsL (l ++ [p]) = none := by
  cases h : pairsL l with
  | none => exact pairsL_app_none h _
  | some xs => rw [pairsL_app_some h]; simp [pairsL, hp]
theorem pairsL_len {l : List (List UInt8)} {xs : PL} (h : pairsL l = some xs) : xs.length = l.length := by
  induction l generalizing xs with
  | nil => simp [pairsL] at h; subst h; rfl
  | cons p l ih =>
    rw [pairsL_cons] at h
    cases hp : pairL p with
    | none => rw [hp] at h; simp at h
    | some x =>
      cases hl : pairsL l with
      | none => rw [hp, hl] at h; simp at h
      | some ys => rw [hp, hl] at h; simp at h; subst h; simp [ih hl]

/-- what a form stands for -/
def formL (l : List UInt8) : Option PL := pairsL (partsL l)
theorem partsL_len (l : List UInt8) : (partsL l).length ≤ l.length + 1 := Nat.le_trans (List.length_filter_le _ _) (splitL_len 38 l)

/-! ## Build -/
def oneL (p : List UInt8 × List UInt8) : List UInt8 := quoteL p.1 ++ 61 :: quoteL p.2
def buildL : PL → List UInt8
  | [] => []
  | [p] => oneL p
  | p :: q :: r => oneL p ++ 38 :: buildL (q :: r)
theorem buildL_snoc (l : PL) (p : List UInt8 × List UInt8) (h : l ≠ []) : buildL (l ++ [p]) = buildL l ++ 38 :: oneL p := by
  induction l with
  | nil => exact absurd rfl h
  | cons q l ih =>
    cases l with
    | nil => simp [buildL]
    | cons q' l =>
      have := ih (by simp)
      simp only [List.cons_append] at this ⊢
      simp [buildL, this]
theorem oneL_len (p : List UInt8 × List UInt8) : (oneL p).length ≤ 3 * (p.1.length + p.2.length) + 1 := by
  have := quoteL_le p.1; have := quoteL_le p.2
  simp [oneL]; omega
theorem buildL_len (l : PL) (m : Nat) (h : ∀ p ∈ l, p.1.length + p.2.length ≤ m) : (buildL l).length ≤ l.length * (3 * m + 2) := by
  induction l with
  | nil => simp [buildL]
  | cons p l ih =>
    have h1 := h p (by simp)
    have h2 := ih (fun q hq => h q (by simp [hq]))
    have h3 := oneL_len p
    cases l with
    | nil => simp [buildL]; omega
    | cons q r =>
      simp only [buildL, List.length_append, List.length_cons] at h2 ⊢
      rw [Nat.add_mul]; omega

theorem hexU_not : ∀ n : Nat, n < 16 → hexU n ≠ 38 ∧ hexU n ≠ 61 := by decide
theorem plain_not2 : ∀ c : UInt8, plainB c = true → c ≠ 38 ∧ c ≠ 61 := by
  intro c h
  constructor <;> (rintro rfl; revert h; decide)
theorem quote1_not (c : UInt8) : ∀ x ∈ quote1 c, x ≠ 38 ∧ x ≠ 61 := by
  intro x hx
  have hc := c.toNat_lt
  unfold quote1 at hx
  split at hx
  · rename_i h; simp at hx; subst hx; exact plain_not2 x h
  · simp at hx
    rcases hx with rfl | rfl | rfl
    · decide
    · exact hexU_not _ (by omega)
    · exact hexU_not _ (by omega)
theorem quoteL_not (l : List UInt8) : (38 : UInt8) ∉ quoteL l ∧ (61 : UInt8) ∉ quoteL l := by
  unfold quoteL
  constructor
  · intro h; obtain ⟨c, _, hc⟩ := List.mem_flatMap.1 h; exact (quote1_not c _ hc).1 rfl
  · intro h; obtain ⟨c, _, hc⟩ := List.mem_flatMap.1 h; exact (quote1_not c _ hc).2 rfl
theorem oneL_amp (p : List UInt8 × List UInt8) : (38 : UInt8) ∉ oneL p := by
  have h1 := (quoteL_not p.1).1; have h2 := (quoteL_not p.2).1
  simp [oneL, h1, h2]
theorem oneL_ne (p : List UInt8 × List UInt8) : oneL p ≠ [] := by simp [oneL]
theorem pairL_oneL (p : List UInt8 × List UInt8) : pairL (oneL p) = some p := by
  have e : atL 61 (oneL p) = (quoteL p.1).length := by unfold oneL; rw [atL_app _ _ _ (quoteL_not p.1).2]; simp [atL]
  have h1 : (oneL p).take (atL 61 (oneL p)) = quoteL p.1 := by rw [e]; unfold oneL; simp
  have h2 : (oneL p).drop (atL 61 (oneL p) + 1) = quoteL p.2 := by
    rw [e]; unfold oneL
    rw [← List.drop_drop]; simp
  have := pairL_some (p := oneL p) (a := p.1) (b := p.2) (by rw [h1]; exact unq_quoteL _) (by rw [h2]; exact unq_quoteL _)
  exact this
theorem one1_oneL (p : List UInt8 × List UInt8) : one1 (oneL p) = [oneL p] := by unfold one1; rw [if_neg (oneL_ne p)]
theorem partsL_buildL (l : PL) : partsL (buildL l) = l.map oneL := by
  induction l with
  | nil => decide
  | cons p l ih =>
    cases l with
    | nil => simp only [buildL, List.map]; rw [partsL_one _ (oneL_amp p), one1_oneL]
    | cons q r =>
      simp only [buildL]
      rw [partsL_app _ _ (oneL_amp p), ih, one1_oneL]; simp
theorem pairsL_oneL (l : PL) : pairsL (l.map oneL) = some l := by
  induction l with
  | nil => rfl
  | cons p l ih => simp [pairsL, pairL_oneL, ih]
theorem formL_buildL (l : PL) : formL (buildL l) = some l := by unfold formL; rw [partsL_buildL, pairsL_oneL]

/-! ## Get, Twice -/
def getL (l : PL) (k : List UInt8) : Option (List UInt8) := (l.find? (fun p => p.1 == k)).map (·.2)
def twiceL : PL → Bool
  | [] => false
  | p :: r => (r.map (·.1)).contains p.1 || twiceL r
end Go.Proofs.YtobicmpgfiddhaaDoor
namespace Go.Proofs.YtobicmpgfiddhaaDoor
open Go.RowKit
set_option linter.unusedVariables false
set_option linter.unusedSimpArgs false

/-- cut at the first k bytes c -/
def cutK (c : UInt8) : Nat → List UInt8 → List (List UInt8)
  | 0, s => [s]
  | k + 1, s => if atL c s < s.length then s.take (atL c s) :: cutK c k (s.drop (atL c s + 1)) else [s]
theorem cutK_ne (c : UInt8) : ∀ (k : Nat) (s : List UInt8), cutK c k s ≠ []
  | 0, s => by simp [cutK]
  | k + 1, s => by unfold cutK; split <;> simp
theorem cutK_len (c : UInt8) : ∀ (k : Nat) (s : List UInt8), (cutK c k s).length ≤ k + 1
  | 0, s => by simp [cutK]
  | k + 1, s => by
    unfold cutK; split
    · have := cutK_len c k (s.drop (atL c s + 1)); simp; omega
    · simp
theorem cutK_each (c : UInt8) : ∀ (k : Nat) (s : List UInt8), ∀ x ∈ cutK c k s, x.length ≤ s.length
  | 0, s => fun x hx => by simp [cutK] at hx; subst hx; exact Nat.le_refl _
  | k + 1, s => by
    unfold cutK
    intro x hx
    split at hx
    · rcases List.mem_cons.1 hx with rfl | hx
      · rw [List.length_take]; omega
      · have := cutK_each c k _ x hx
        rw [List.length_drop] at this; omega
    · simp at hx; subst hx; exact Nat.le_refl _
theorem splitK_cut (c : UInt8) : ∀ (k : Nat) (l : List UInt8), Lib.splitK [c] 0 k l = cutK c k l
  | 0, l => rfl
  | k + 1, l => by
    unfold Lib.splitK cutK
    by_cases hk : atL c l < l.length
    · have hi : Lib.index l [c] = (atL c l : Int) := by rw [Lib.index_one, atL_index, if_pos hk]
      rw [if_neg (fun e => by rw [hi] at e; have := beq_iff_eq.1 e; omega), if_pos hk, hi]
      simp only [Int.toNat_natCast, Nat.add_zero, List.length_singleton]
      rw [splitK_cut c k]
    · have hi : Lib.index l [c] = -1 := by rw [Lib.index_one, atL_index, if_neg hk]
      rw [if_pos (by rw [hi]; rfl), if_neg hk]
theorem splitB_cut (s : List UInt8) (c : UInt8) (k : Nat) : (Lib.splitB ⟨#[c]⟩ 0 k ⟨s.toArray⟩).map Value.string = (cutK c k s).map tv := by
  have h := Lib.splitB_data ⟨#[c]⟩ 0 k ⟨s.toArray⟩
  have e : (⟨s.toArray⟩ : ByteArray).data.toList = s := by simp
  have e2 : (⟨#[c]⟩ : ByteArray).data.toList = [c] := rfl
  rw [e, e2, splitK_cut] at h
  rw [← h, List.map_map]
  refine List.map_congr_left fun x _ => ?_
  show Value.string x = Value.string ⟨x.data.toList.toArray⟩
  congr 1
/-- a part's words, as a rule -/
def wordsR (s : List UInt8) : List (List UInt8) := cutK 32 (min 5 (s.length + 1) - 1) s
def ruleR (s : List UInt8) : RU := ⟨(wordsR s).headD [], (wordsR s).tail⟩
/-- a package's variable of the library, wherever it is -/
def Var0 (w : World) : Prop := ∃ m, w.cell? ⟨0, 0, none⟩ = some (.int .i64 m)
theorem Var0.lt {w : World} (h : Var0 w) : 0 < w.heap.size := by
  obtain ⟨m, h⟩ := h
  rcases Nat.lt_or_ge 0 w.heap.size with h1 | h1
  · exact h1
  · have : w.heap[0]? = none := Array.getElem?_eq_none (by omega)
    unfold World.cell? at h
    simp only [this] at h
    cases h
theorem Var0.below {w w' : World} (h : Var0 w) (hb : Below w.heap.size w w') : Var0 w' := by
  obtain ⟨m, hm⟩ := h
  exact ⟨m, (hb.cell (p := ⟨0, 0, none⟩) (Var0.lt ⟨m, hm⟩)).trans hm⟩
/-- a slice of texts in a block of its own, from block L on -/
def RdS (L : Nat) (w : World) (u : Value) (l : List (List UInt8)) : Prop :=
  ∃ A c, u = .slice A l.length c ∧ l.length ≤ c ∧ ∀ k x, l[k]? = some x → ∃ g o C, A = some ⟨g, o, none⟩ ∧ L ≤ g ∧ w.heap[g]? = some (.cells C 9 (0, 0)) ∧ C[o + k]? = some (tv x)
theorem RdS.rdt {L : Nat} {w : World} {u : Value} {l : List (List UInt8)} (h : RdS L w u l) : RdT w u l := by
  obtain ⟨A, c, rfl, hc, h⟩ := h
  refine ⟨A, c, rfl, hc, fun k x hk => ?_⟩
  obtain ⟨g, o, C, rfl, _, hg, h1⟩ := h k x hk
  exact ⟨g, o, rfl, (Array.getElem?_eq_some_iff.1 hg).1, by rw [cell_here hg]; exact h1⟩
theorem RdS.keep {L : Nat} {w w' : World} {u : Value} {l : List (List UInt8)} (h : RdS L w u l) (hk : ∀ g C, L ≤ g → w.heap[g]? = some (.cells C 9 (0, 0)) → w'.heap[g]? = w.heap[g]?) : RdS L w' u l := by
  obtain ⟨A, c, rfl, hc, h⟩ := h
  refine ⟨A, c, rfl, hc, fun k x hx => ?_⟩
  obtain ⟨g, o, C, rfl, hL, hg, h1⟩ := h k x hx
  exact ⟨g, o, C, rfl, hL, (hk g C hL hg).trans hg, h1⟩
theorem RdS.more {L L' : Nat} {w : World} {u : Value} {l : List (List UInt8)} (h : RdS L w u l) (hL : L' ≤ L) : RdS L' w u l := by
  obtain ⟨A, c, rfl, hc, h⟩ := h
  refine ⟨A, c, rfl, hc, fun k x hx => ?_⟩
  obtain ⟨g, o, C, rfl, h0, hg, h1⟩ := h k x hx
  exact ⟨g, o, C, rfl, Nat.le_trans hL h0, hg, h1⟩
theorem splitN_any (s : List UInt8) (hs : s.length ≤ 1000000000) (w : World) (hj : Var0 w) :
    Calls Tryd.prog 31 #[.string ⟨s.toArray⟩, .string ⟨#[32]⟩, .int .i64 5] w fun e w' => ∃ (N : Nat) (C : Array Value), e = .returned (.slice (some ⟨w.heap.size, 0, none⟩) (wordsR s).length N) ∧ (wordsR s).length ≤ N ∧ N ≤ 5 ∧ C.size = N ∧ (∀ (k : Nat) x, (wordsR s)[k]? = some x → C[k]? = some (tv x)) ∧ w' = w.alloc (.cells C 9) := by
  obtain ⟨m, hm⟩ := hj
  have h := Tryd.strings_SplitN ⟨s.toArray⟩ ⟨#[32]⟩ 5 m w (by show s.toArray.size < _; simp; omega) hm (by decide) (by decide) (by decide)
  have hsz : (⟨s.toArray⟩ : ByteArray).size = s.length := by show s.toArray.size = _; simp
  rw [hsz] at h
  have he : (Lib.splitB ⟨#[32]⟩ 0 (min 5 (s.length + 1) - 1) ⟨s.toArray⟩).map Value.string = (wordsR s).map tv := splitB_cut s 32 _
  have hl : (Lib.splitB ⟨#[32]⟩ 0 (min 5 (s.length + 1) - 1) ⟨s.toArray⟩).length = (wordsR s).length := by
    have := congrArg List.length he; simpa using this
  have hle : (wordsR s).length ≤ min 5 (s.length + 1) := by
    have := cutK_len 32 (min 5 (s.length + 1) - 1) s
    show (cutK 32 (min 5 (s.length + 1) - 1) s).length ≤ _
    omega
  refine h.mono ?_
  rintro e w' ⟨rfl, rfl⟩
  refine ⟨_, _, by rw [hl], hle, by omega, Lib.cellsOf_size (by rw [hl]; exact hle), fun k x hk => ?_, rfl⟩
  unfold Lib.cellsOf
  rw [he, List.getElem?_toArray, List.getElem?_append_left (by rw [List.length_map]; exact (List.getElem?_eq_some_iff.1 hk).1), List.getElem?_map, hk]
  rfl
set_option maxRecDepth 100000 in
set_option maxHeartbeats 8000000 in
theorem split_any14 (s : List UInt8) (hs : s.length ≤ 1000000000) (w : World) (hj : Var0 w) :
    Calls Tryd.prog 20 #[.string ⟨s.toArray⟩] w fun e w' => ∃ A n c, e = .returned (.agg #[tv (ruleR s).op, .slice A n c]) ∧ RdS w.heap.size w' (.slice A n c) (ruleR s).args ∧ Below w.heap.size w w' := by
  obtain ⟨P, hP⟩ : ∃ P, wordsR s = P := ⟨_, rfl⟩
  have hne : P ≠ [] := by rw [← hP]; exact cutK_ne _ _ _
  have hz : ∀ x ∈ P, x.length ≤ s.length := by rw [← hP]; exact cutK_each _ _ _
  have hop : (ruleR s).op = P.headD [] := by rw [← hP]; rfl
  have har : (ruleR s).args = P.tail := by rw [← hP]; rfl
  obtain ⟨n, hn⟩ : ∃ n, P.length = n := ⟨_, rfl⟩
  have hn1 : 1 ≤ n := by
    cases P with
    | nil => exact absurd rfl hne
    | cons a b => rw [← hn]; simp
  have hsp := fun W (hW : Below w.heap.size w W) => splitN_any s hs W (hj.below hW)
  rw [hP, hn] at hsp
  rw [hop, har]
  obtain ⟨S, hS⟩ : ∃ S : ByteArray, (⟨s.toArray⟩ : ByteArray) = S := ⟨_, rfl⟩
  rw [hS] at hsp ⊢
  have hcl := fun (x : List UInt8) (hx : x ∈ P) W => sclone_any ⟨x.toArray⟩ (by have := hz x hx; show x.toArray.size ≤ _; simp; omega) W
  obtain ⟨W1, hW1⟩ : ∃ W1, W1 = w.alloc (.cells #[.string ⟨#[]⟩, .slice none 0 0] 37) := ⟨_, rfl⟩
  have b1 : Below w.heap.size w W1 := by rw [hW1]; exact (Below.refl _ _).alloc (Nat.le_refl _) _
  have z1 : W1.heap.size = w.heap.size + 1 := by rw [hW1]; simp
  have q1 : W1.heap[w.heap.size]? = some (.cells #[.string ⟨#[]⟩, .slice none 0 0] 37 (0, 0)) := by rw [hW1]; exact heap_alloc_last w _
  have HSP := Lib.hid (hsp W1 b1); have HCL := Lib.hid hcl; have HW1 := Lib.hid hW1; have B1 := Lib.hid b1; have Z1 := Lib.hid z1; have Q1 := Lib.hid q1; have HN := Lib.hid hn; have HNE := Lib.hid hne
  clear hsp hcl hW1 b1 z1 q1 hS hop har hP hz hn hne hj
  go_enter Tryd.func20, Tryd.ntmps20
  go_upto_region 2 with (go_at_call 31; rw [← HW1.out]; (with_reducible refine HSP.out.mono ?_); rintro e1 w1 ⟨N, C, rfl, hnN, hN5, hCs, hC, rfl⟩; dsimp only)
  obtain ⟨R, hR⟩ : ∃ R, W1.heap.size = R := ⟨_, rfl⟩
  have zR : R = w.heap.size + 1 := by rw [← hR]; exact Z1.out
  have q2 : (W1.alloc (.cells C 9)).heap[R]? = some (.cells C 9 (0, 0)) := by rw [← hR]; exact heap_alloc_last _ _
  have b2 : Below R W1 (W1.alloc (.cells C 9)) := by rw [← hR]; exact (Below.refl _ _).alloc (Nat.le_refl _) _
  have Q2 := Lib.hid q2; have B2 := Lib.hid b2; have HC := Lib.hid hC; have HR := Lib.hid hR; have HCS := Lib.hid hCs; have ZR := Lib.hid zR
  clear q2 b2 hC hCs zR
  rw [HR.out]
  clear hR
  go_wp2_with fail
  go_loopw [9] (fun i wr => ∃ k : Nat, k ≤ n ∧ i = .int .i64 k ∧ wr.heap[R]? = some (.cells C 9 (0, 0)) ∧ Below R W1 wr) (fun i _ => n - (intOf i).toNat)
  case atStart => exact ⟨0, Nat.zero_le _, rfl, Q2.out, B2.out⟩
  case round =>
    obtain ⟨k, hkn, rfl, hq, hb⟩ := hrel
    have hRs := (Array.getElem?_eq_some_iff.1 hq).1
    by_cases hlt : k < n
    · have hkl : k < P.length := by rw [HN.out]; exact hlt
      have hck := HC.out k P[k] (List.getElem?_eq_getElem hkl)
      have hcl := HCL.out P[k] (List.getElem_mem hkl) wr
      obtain ⟨X, hX⟩ : ∃ X : ByteArray, (⟨P[k].toArray⟩ : ByteArray) = X := ⟨_, rfl⟩
      unfold tv at hck
      rw [hX] at hck hcl
      have c1 : wr.cell? ⟨R, k, none⟩ = some (.string X) := by rw [cell_here hq]; exact hck
      have hst : ∀ W, Below wr.heap.size wr W → W.cell? ⟨R, k, none⟩ = some (.string X) ∧ W.frozen? ⟨R, k, none⟩ = false ∧ W.heap[R]? = some (.cells C 9 (0, 0)) := fun W hW =>
        ⟨by rw [cell_here (blk_below hq hW)]; exact hck, frozen_here (blk_below hq hW) _, blk_below hq hW⟩
      have hk0 : (0 : Int) ≤ k := by omega
      have hk1 : (k : Int) < n := by omega
      have HCC := Lib.hid hcl; have HB := Lib.hid hb; have HST := Lib.hid hst; have HCK := Lib.hid hck
      clear hcl hX hst hb hck hq
      go_wp2_with (go_at_call 32; (with_reducible refine HCC.out.mono ?_); rintro e1 w1 ⟨rfl, hb1⟩; obtain ⟨d1, d2, d3⟩ := HST.out w1 hb1; have D3 := Lib.hid d3; have HB1 := Lib.hid (HB.out.trans (hb1.mono (Nat.le_of_lt hRs))); clear hb1 d3; dsimp only)
      go_roundw
      case rel =>
        refine ⟨k + 1, by omega, by go_num, ?_, HB1.out.setCell (p := ⟨R, k, none⟩) (Nat.le_refl _) _⟩
        have hs := set_here (o := k) D3.out (.string X)
        have hcc : C.setIfInBounds k (.string X) = C := by
          apply Array.ext
          · simp
          · intro j h1 h2
            rw [Array.getElem_setIfInBounds (by simpa using h2)]
            split
            · rename_i e; subst e
              have := HCK.out
              rw [Array.getElem?_eq_getElem h2] at this
              injection this with this; exact this.symm
            · rfl
        rw [hcc] at hs
        exact hs
      case measure => simp [intOf]; omega
    · obtain rfl : k = n := by omega
      have hp0 : 0 < P.length := by rw [HN.out]; omega
      have hc0 := HC.out 0 P[0] (List.getElem?_eq_getElem hp0)
      have hh : P.headD [] = P[0] := by rw [List.headD_eq_head?_getD, List.head?_eq_getElem?, List.getElem?_eq_getElem hp0]; rfl
      obtain ⟨X, hX⟩ : ∃ X : ByteArray, (⟨P[0].toArray⟩ : ByteArray) = X := ⟨_, rfl⟩
      have htv : tv (P.headD []) = .string X := by rw [hh, ← hX]; rfl
      unfold tv at hc0
      rw [hX] at hc0
      have c1 : wr.cell? ⟨R, 0, none⟩ = some (.string X) := by rw [cell_here hq]; exact hc0
      have q1 : wr.heap[w.heap.size]? = some (.cells #[.string ⟨#[]⟩, .slice none 0 0] 37 (0, 0)) := (hb.block _ (by have := ZR.out; omega)).trans Q1.out
      have e0 : wr.cell? ⟨w.heap.size, 0, none⟩ = some (.string ⟨#[]⟩) := by rw [cell_here q1]; rfl
      have e1 : wr.cell? ⟨w.heap.size, 1, none⟩ = some (.slice none 0 0) := by rw [cell_here q1]; rfl
      have f0 := frozen_here q1 0
      have f1 := frozen_here q1 1
      have hn0 : (0 : Int) < k := by omega
      have hn2 : (1 : Int) ≤ k := by omega
      have htv2 : tv (P.head?.getD []) = .string X := by rw [← htv, List.headD_eq_head?_getD]
      have HTV := Lib.hid htv2; have HQ := Lib.hid hq; have HB := Lib.hid hb; have QQ1 := Lib.hid q1
      clear hq hb hc0 hh hX htv htv2 q1
      go_upto_region 7 with fail
      go_region
      obtain ⟨SA, hSA⟩ : ∃ SA : Option Addr, (if N = 1 then some (⟨R, 0, none⟩ : Addr) else some ⟨R, 1, none⟩) = SA := ⟨_, rfl⟩
      rw [hSA]
      have HSA := Lib.hid hSA
      clear hSA
      go_wp2
      obtain ⟨wf, hwf⟩ : ∃ wf, wf = ((wr.setCell ⟨w.heap.size, 0, none⟩ (.string X)).setCell ⟨w.heap.size, 1, none⟩ (.slice SA (k - 1) (N - 1))).drew := ⟨_, rfl⟩
      rw [← hwf]
      have qf : wf.heap[w.heap.size]? = some (.cells #[.string X, .slice SA (k - 1) (N - 1)] 37 (0, 0)) := by
        rw [hwf]
        have := set_here (o := 1) (set_here (o := 0) QQ1.out (.string X)) (.slice SA (k - 1) (N - 1))
        show ((wr.setCell ⟨w.heap.size, 0, none⟩ (.string X)).setCell ⟨w.heap.size, 1, none⟩ (.slice SA (k - 1) (N - 1))).heap[w.heap.size]? = _
        simpa using this
      have qr : wf.heap[R]? = some (.cells C 9 (0, 0)) := by
        rw [hwf]
        show ((wr.setCell ⟨w.heap.size, 0, none⟩ (.string X)).setCell ⟨w.heap.size, 1, none⟩ (.slice SA (k - 1) (N - 1))).heap[R]? = _
        rw [set_there _ (by have := ZR.out; omega), set_there _ (by have := ZR.out; omega)]
        exact HQ.out
      have hbf : Below w.heap.size w wf := by
        rw [hwf]
        exact (((B1.out.trans (HB.out.mono (by have := ZR.out; omega))).setCell (p := ⟨w.heap.size, 0, none⟩) (Nat.le_refl _) _).setCell (p := ⟨w.heap.size, 1, none⟩) (Nat.le_refl _) _).drew
      have ht : P.tail.length = k - 1 := by rw [List.length_tail, HN.out]
      have hrd : RdS w.heap.size wf (.slice SA (k - 1) (N - 1)) P.tail := by
        refine ⟨SA, N - 1, by rw [ht], by rw [ht]; omega, fun j x hj => ?_⟩
        have hjl := (List.getElem?_eq_some_iff.1 hj).1
        rw [ht] at hjl
        refine ⟨R, 1, C, by rw [← HSA.out, if_neg (by omega)], by have := ZR.out; omega, qr, ?_⟩
        refine HC.out (1 + j) x ?_
        rw [List.getElem?_tail] at hj
        rw [Nat.add_comm]; exact hj
      have x0 : wf.cell? ⟨w.heap.size, 0, none⟩ = some (.string X) := by rw [cell_here qf]; rfl
      have x1 : wf.cell? ⟨w.heap.size, 1, none⟩ = some (.slice SA (k - 1) (N - 1)) := by rw [cell_here qf]; rfl
      have HRD := Lib.hid hrd; have HBF := Lib.hid hbf
      clear hrd hbf qf qr hwf e0 e1 f0 f1 c1
      refine bodyPost_ret (v := .agg #[.string X, .slice SA (k - 1) (N - 1)]) (by simp [results, Tryd.results20, go_sem, x0, x1]) rfl ?_
      exact ⟨SA, k - 1, N - 1, by first | rw [HTV.out] | rw [List.headD_eq_head?_getD, HTV.out], HRD.out, HBF.out⟩
end Go.Proofs.YtobicmpgfiddhaaDoor
namespace Go.Proofs.YtobicmpgfiddhaaDoor
open Go.RowKit Go.Shelf
set_option linter.unusedVariables false
set_option linter.unusedSimpArgs false
attribute [local go_sem] Oper.semAt_some

theorem extP14 (s : List UInt8) (k : Nat) : (⟨s.toArray⟩ : ByteArray).extract 0 k = ⟨(s.take k).toArray⟩ := by
  apply ByteArray.ext
  rw [ByteArray.data_extract]
  simp
theorem extS14 (s : List UInt8) (k : Nat) : (⟨s.toArray⟩ : ByteArray).extract k (⟨s.toArray⟩ : ByteArray).size = ⟨(s.drop k).toArray⟩ := by
  apply ByteArray.ext
  rw [ByteArray.data_extract]
  show Array.extract s.toArray k s.toArray.size = _
  simp
  rw [← List.length_drop, List.take_length]
/-- a part of a text that is not too long -/
abbrev PartR (m : Nat) := { p : List UInt8 // p.length ≤ m }
def valsR {m : Nat} (l : List (PartR m)) : List (List UInt8) := l.map (·.1)
theorem valsR_snoc {m : Nat} (l : List (PartR m)) (p : PartR m) : valsR (l ++ [p]) = valsR l ++ [p.1] := by simp only [valsR, List.map_append, List.map_cons, List.map_nil]
theorem valsR_len {m : Nat} (l : List (PartR m)) : (valsR l).length = l.length := by simp only [valsR, List.length_map]
def cellSize (w : World) (b : Nat) : Nat := match w.cell? ⟨b, 0, none⟩ with
  | some (.string s) => s.size
  | _ => 0
set_option maxRecDepth 100000 in
set_option maxHeartbeats 2000000 in
theorem seq1_in (n : Nat) (hn : 1 ≤ n) (l Bs Bp Bv : Nat) (s : List UInt8) (m : Nat) (hs : s.length ≤ m) (hm : m ≤ 1000000000) (h1 : Bs ≠ Bp) (h2 : Bs ≠ Bv) (J Jx : List (PartR m) → World → Prop)
    (hdJ : ∀ pre A B, J pre A → ButO A.heap.size Bs A B → J pre B)
    (hY : ∀ pre x W, J pre W → pre.length < (splitL 59 s).length → YieldAt Fence.wide (n - 1) Tryd.prog l #[.string ⟨x.1.toArray⟩] W fun e W' =>
      (e = .returned (.bool true) ∧ J (pre ++ [x]) W' ∧ ∀ k, (k = Bs ∨ k = Bp ∨ k = Bv) → W'.heap[k]? = W.heap[k]?) ∨ (e = .returned (.bool false) ∧ Jx (pre ++ [x]) W'))
    (W : World) (c1 : W.heap[Bs]? = some (.cells #[.string ⟨s.toArray⟩] 9 (0, 0))) (c2 : W.heap[Bp]? = some (.cells #[.string ⟨#[59]⟩] 9 (0, 0))) (c3 : W.heap[Bv]? = some (.cells #[.int .i64 0] 3 (0, 0))) (h0 : J [] W) :
    CallsIn Fence.wide n Tryd.prog 50 #[.func (.yield l) #[] #[], .pointer (some ⟨Bp, 0, none⟩), .pointer (some ⟨Bs, 0, none⟩), .pointer (some ⟨Bv, 0, none⟩)] W fun e W' => (∃ v, e = .returned v) ∧
      ((∃ ys, valsR ys = splitL 59 s ∧ J ys W') ∨ (∃ pre, valsR pre <+: splitL 59 s ∧ Jx pre W')) := by
  have hix := fun S W => Tryd.strings_Index_one S 59 W
  have HI := Lib.hid hix; have HDJ := Lib.hid hdJ; have HY := Lib.hid hY
  obtain ⟨SP, hSP⟩ : ∃ z : ByteArray, z = ⟨#[59]⟩ := ⟨_, rfl⟩
  have hps : SP.size = 1 := by rw [hSP]; rfl
  have C1 := Lib.hid c1; have C2 := Lib.hid c2; have C3 := Lib.hid c3
  have p0 : W.cell? ⟨Bp, 0, none⟩ = some (.string ⟨#[59]⟩) := by rw [cell_here c2]; rfl
  clear hix hdJ hY c1 c2 c3 hSP hps
  refine callsIn_of_wp Tryd.func50 rfl trivial ?_ rfl
  simp only [Tryd.ntmps50, List.size_toArray, List.length_cons, List.length_nil, Nat.reduceAdd, Nat.reduceSub, Array.replicate_succ, Array.replicate_zero, List.push_toArray, List.append_toArray, List.nil_append, List.cons_append]
  gi_wp2
  gi_loopw [7] (fun _ wr => ∃ (pre : List (PartR m)) (r : List UInt8), wr.heap[Bs]? = some (.cells #[.string ⟨r.toArray⟩] 9 (0, 0)) ∧ wr.heap[Bp]? = some (.cells #[.string ⟨#[59]⟩] 9 (0, 0)) ∧ wr.heap[Bv]? = some (.cells #[.int .i64 0] 3 (0, 0)) ∧ r.length ≤ m ∧ Hid (splitL 59 s = valsR pre ++ splitL 59 r) ∧ J pre wr) (fun _ wr => cellSize wr Bs)
  case atStart => exact ⟨[], s, C1.out, C2.out, C3.out, hs, Lib.hid rfl, h0⟩
  case round =>
    obtain ⟨pre, r, d1, d2, d3, hr, HP, hJ⟩ := hrel
    obtain ⟨R, hR0⟩ : ∃ R : ByteArray, (⟨r.toArray⟩ : ByteArray) = R := ⟨_, rfl⟩
    have hRs : R.size = r.length := by rw [← hR0]; show r.toArray.size = _; simp
    have hRl : R.data.toList = r := by rw [← hR0]
    have hc := HI.out R wr
    rw [hRl, atL_index] at hc
    rw [hR0] at d1
    have e1 : wr.cell? ⟨Bs, 0, none⟩ = some (.string R) := by rw [cell_here d1]; rfl
    have e2 : wr.cell? ⟨Bp, 0, none⟩ = some (.string ⟨#[59]⟩) := by rw [cell_here d2]; rfl
    have e3 : wr.cell? ⟨Bv, 0, none⟩ = some (.int .i64 0) := by rw [cell_here d3]; rfl
    have D1 := Lib.hid d1; have D2 := Lib.hid d2; have D3 := Lib.hid d3
    clear d1 d2 d3
    by_cases hk : atL 59 r < r.length
    · rw [if_pos hk] at hc
      have hsp := splitL_more hk
      obtain ⟨k, hkk⟩ : ∃ k, atL 59 r = k := ⟨_, rfl⟩
      rw [hkk] at hc hsp hk
      obtain ⟨p, hp⟩ : ∃ p : PartR m, p.1 = r.take k := ⟨⟨r.take k, by rw [List.length_take]; omega⟩, rfl⟩
      obtain ⟨t, ht⟩ : ∃ t, r.drop (k + 1) = t := ⟨_, rfl⟩
      have htl : t.length + 1 ≤ r.length := by rw [← ht, List.length_drop]; omega
      rw [ht, ← hp] at hsp
      have hP2 : splitL 59 s = valsR (pre ++ [p]) ++ splitL 59 t := by rw [HP.out, hsp, valsR_snoc, List.append_assoc]; rfl
      have hroom : pre.length < (splitL 59 s).length := by rw [HP.out, hsp, List.length_append, valsR_len, List.length_cons]; omega
      have x1 : R.extract 0 k = ⟨p.1.toArray⟩ := by rw [← hR0, extP14, hp]
      have x2 : R.extract (k + 1) R.size = ⟨t.toArray⟩ := by rw [← ht, ← hR0, extS14]
      obtain ⟨fn, tmps, assign, body, hy, hRr⟩ := HY.out pre p wr hJ hroom
      obtain ⟨TT, hTT⟩ : ∃ T : ByteArray, (⟨t.toArray⟩ : ByteArray) = T := ⟨_, rfl⟩
      rw [hTT] at x2
      have hb1 : (k : Int) ≤ R.size := by omega
      have hb2 : (k : Int) + 1 ≤ R.size := by omega
      have hb0 : (0 : Int) ≤ k := by omega
      have HP2 := Lib.hid hP2; have HC := Lib.hid hc; have HRS := Lib.hid hRs
      clear hP2 hc hsp hroom hp ht hkk hR0 hRl hRs
      gi_wp2_with (refine ⟨trivial, ?_⟩; gi_at_call 29; refine (callsIn_wide.2 HC.out).mono ?_; rintro e w1 ⟨rfl, rfl⟩)
      refine hRr.mono ?_
      rintro e W3 (⟨rfl, hJ3, hk3⟩ | ⟨rfl, hJx3⟩)
      · have g1 := (hk3 Bs (.inl rfl)).trans D1.out
        have g2 := (hk3 Bp (.inr (.inl rfl))).trans D2.out
        have g3 := (hk3 Bv (.inr (.inr rfl))).trans D3.out
        have q1 : W3.cell? ⟨Bs, 0, none⟩ = some (.string R) := by rw [cell_here g1]; rfl
        have q2 : W3.cell? ⟨Bp, 0, none⟩ = some (.string ⟨#[59]⟩) := by rw [cell_here g2]; rfl
        have q4 := frozen_here g1 0
        have G1 := Lib.hid g1; have G2 := Lib.hid g2; have G3 := Lib.hid g3
        clear g1 g2 g3 hk3
        gi_wp2
        go_roundw
        case rel =>
          have hg : (W3.setCell ⟨Bs, 0, none⟩ (.string TT)).heap[Bs]? = some (.cells #[.string TT] 9 (0, 0)) := by have := set_here (o := 0) G1.out (.string TT); simpa using this
          exact ⟨pre ++ [p], t, by rw [hTT]; exact hg, (set_there _ (Ne.symm h1)).trans G2.out, (set_there _ (Ne.symm h2)).trans G3.out, by omega, HP2, HDJ.out _ _ _ hJ3 ((ButO.refl _ _ _).set (.inr rfl) _)⟩
        case measure =>
          have hg : (W3.setCell ⟨Bs, 0, none⟩ (.string TT)).cell? ⟨Bs, 0, none⟩ = some (.string TT) := by
            rw [cell_here (set_here (o := 0) G1.out (.string TT))]; rfl
          have hts : TT.size = t.length := by rw [← hTT]; show t.toArray.size = _; simp
          have := HRS.out
          unfold cellSize
          rw [hg, e1]
          show TT.size < R.size
          omega
      · gi_wp2
        refine bodyPost_ret (results_none rfl _ _ _) rfl ?_
        exact ⟨⟨_, rfl⟩, .inr ⟨pre ++ [p], ⟨_, HP2.out.symm⟩, hJx3⟩⟩
    · rw [if_neg hk] at hc
      have hsp := splitL_last (Nat.le_of_not_lt hk)
      obtain ⟨p, hp⟩ : ∃ p : PartR m, p.1 = r := ⟨⟨r, hr⟩, rfl⟩
      have hP2 : splitL 59 s = valsR (pre ++ [p]) := by rw [HP.out, hsp, valsR_snoc, hp]
      have hroom : pre.length < (splitL 59 s).length := by rw [HP.out, hsp, List.length_append, valsR_len, List.length_cons]; omega
      obtain ⟨fn, tmps, assign, body, hy, hRr⟩ := HY.out pre p wr hJ hroom
      rw [hp, hR0] at hy
      have HP2 := Lib.hid hP2; have HC := Lib.hid hc
      clear hP2 hc hsp hroom hp hR0 hRl hRs
      gi_wp2_with (refine ⟨trivial, ?_⟩; gi_at_call 29; refine (callsIn_wide.2 HC.out).mono ?_; rintro e w1 ⟨rfl, rfl⟩)
      refine hRr.mono ?_
      rintro e W3 (⟨rfl, hJ3, hk3⟩ | ⟨rfl, hJx3⟩)
      · gi_wp2
        go_end0
        exact ⟨⟨_, rfl⟩, .inl ⟨pre ++ [p], HP2.out.symm, hJ3⟩⟩
      · gi_wp2
        go_end0
        exact ⟨⟨_, rfl⟩, .inr ⟨pre ++ [p], by rw [HP2.out]; exact List.prefix_refl _, hJx3⟩⟩
set_option maxHeartbeats 1000000 in
theorem splitSeq_in (n : Nat) (hn : 1 ≤ n) (s : ByteArray) (w : World) :
    CallsIn Fence.wide n Tryd.prog 19 #[.string s, .string ⟨#[59]⟩] w fun e w' => e = .returned (.func (.func 50) #[] #[.pointer (some ⟨w.heap.size + 1, 0, none⟩), .pointer (some ⟨w.heap.size, 0, none⟩), .pointer (some ⟨w.heap.size + 1 + 1, 0, none⟩)]) ∧
      w' = ((w.alloc (.cells #[.string s] 9)).alloc (.cells #[.string ⟨#[59]⟩] 9)).alloc (.cells #[.int .i64 0] 3) := by
  have h : ∀ (n : Nat) W, CallsIn Fence.wide n Tryd.prog 30 #[.string s, .string ⟨#[59]⟩, .int .i64 0] W fun e w' => e = .returned (.func (.func 50) #[] #[.pointer (some ⟨W.heap.size + 1, 0, none⟩), .pointer (some ⟨W.heap.size, 0, none⟩), .pointer (some ⟨W.heap.size + 1 + 1, 0, none⟩)]) ∧
      w' = ((W.alloc (.cells #[.string s] 9)).alloc (.cells #[.string ⟨#[59]⟩] 9)).alloc (.cells #[.int .i64 0] 3) := fun n W => by
    refine callsIn_of_wp Tryd.func30 rfl trivial ?_ rfl
    simp only [Tryd.ntmps30, List.size_toArray, List.length_cons, List.length_nil, Nat.reduceAdd, Nat.reduceSub, Array.replicate_succ, Array.replicate_zero, List.push_toArray, List.append_toArray, List.nil_append, List.cons_append]
    have hmf : ∀ (fn : Fn) (first cap : Array Value) (w : World), (Instr.makeFunc fn first cap).run Tryd.prog w = .ok (.func fn first cap) w := fun _ _ _ _ => rfl
    gi_wp2
    go_ret
    exact ⟨rfl, rfl⟩
  have H := Lib.hid h
  clear h
  refine callsIn_of_wp Tryd.func19 rfl trivial ?_ rfl
  simp only [Tryd.ntmps19, List.size_toArray, List.length_cons, List.length_nil, Nat.reduceAdd, Nat.reduceSub, Array.replicate_succ, Array.replicate_zero, List.push_toArray, List.append_toArray, List.nil_append, List.cons_append]
  gi_wp2_with (refine ⟨trivial, ?_⟩; gi_at_call 30; refine (H.out _ _).mono ?_; rintro e w1 ⟨rfl, rfl⟩)
  go_ret
  exact ⟨rfl, rfl⟩
/-- what SplitSeq hands back gives all the parts, in order; or those ahead of where a round has said no more -/
theorem seq_stops (n : Nat) (hn : 1 ≤ n) (Bs Bp Bv : Nat) (s : List UInt8) (m : Nat) (hs : s.length ≤ m) (hm : m ≤ 1000000000) (h1 : Bs ≠ Bp) (h2 : Bs ≠ Bv) (w : World)
    (c1 : w.heap[Bs]? = some (.cells #[.string ⟨s.toArray⟩] 9 (0, 0))) (c2 : w.heap[Bp]? = some (.cells #[.string ⟨#[59]⟩] 9 (0, 0))) (c3 : w.heap[Bv]? = some (.cells #[.int .i64 0] 3 (0, 0))) :
    SeqC Fence.wide n Tryd.prog 50 #[.pointer (some ⟨Bp, 0, none⟩), .pointer (some ⟨Bs, 0, none⟩), .pointer (some ⟨Bv, 0, none⟩)] (fun x : PartR m => #[Value.string ⟨x.1.toArray⟩]) Bs (fun k => k = Bs ∨ k = Bp ∨ k = Bv)
      (fun ys => valsR ys = splitL 59 s) (fun pre => valsR pre <+: splitL 59 s) (splitL 59 s).length w := fun l J Jx W hW hJ _ hY h0 =>
  seq1_in n hn l Bs Bp Bv s m hs hm h1 h2 J Jx hJ hY W (blk_below c1 hW) (blk_below c2 hW) (blk_below c3 hW) h0
end Go.Proofs.YtobicmpgfiddhaaDoor
