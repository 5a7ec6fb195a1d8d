/- Texts as one text, and back: pure. -/
import Derived.Test.YtefnkkjmcfpiaaaDoorJsonPure
namespace Go.Proofs.YtefnkkjmcfpiaaaDoor
set_option linter.unusedVariables false

/-- the number of decimal digits -/
def dvalF (n : Nat) (c : UInt8) : Nat := n * 10 + (c.toNat - 48)
def dval (l : List UInt8) : Nat := l.foldl dvalF 0
theorem dval_nil : dval [] = 0 := rfl
theorem dval_snoc (l : List UInt8) (c : UInt8) : dval (l ++ [c]) = dval l * 10 + (c.toNat - 48) := by simp [dval, dvalF]
theorem dval_decL (n : Nat) : dval (decL n) = n := by
  induction n using Nat.strongRecOn with
  | _ n ih =>
    have hv := digit_val n
    by_cases h : n < 10
    · have e : decL n = [digit n] := by unfold decL; rw [if_pos h]
      rw [e]
      show 0 * 10 + ((digit n).toNat - 48) = n
      omega
    · have e : decL n = decL (n / 10) ++ [digit n] := by rw [decL, if_neg h]
      rw [e, dval_snoc, ih (n / 10) (by omega)]
      omega
theorem dval_more (a b : List UInt8) : dval a ≤ dval (a ++ b) := by
  induction b generalizing a with
  | nil => simp
  | cons c b ih =>
    have e : a ++ c :: b = (a ++ [c]) ++ b := by simp
    rw [e]
    have h1 := ih (a ++ [c])
    rw [dval_snoc] at h1
    omega
theorem decL_all (n : Nat) : ∀ c ∈ decL n, isDigit c = true := by
  induction n using Nat.strongRecOn with
  | _ n ih =>
    intro c hc
    by_cases h : n < 10
    · have e : decL n = [digit n] := by unfold decL; rw [if_pos h]
      rw [e, List.mem_singleton] at hc
      rw [hc]; exact digit_is n
    · have e : decL n = decL (n / 10) ++ [digit n] := by rw [decL, if_neg h]
      rw [e, List.mem_append, List.mem_singleton] at hc
      rcases hc with hc | rfl
      · exact ih (n / 10) (by omega) c hc
      · exact digit_is n
theorem isDigit_val {c : UInt8} (h : isDigit c = true) : 48 ≤ c.toNat ∧ c.toNat ≤ 57 := by
  unfold isDigit at h
  exact of_decide_eq_true h
theorem digit_of {c : UInt8} (h : isDigit c = true) (n : Nat) (hn : n % 10 = c.toNat - 48) : digit n = c := by
  have h1 := isDigit_val h
  apply UInt8.toNat_inj.1
  unfold digit
  rw [UInt8.toNat_ofNat']
  omega
/-- decimal digits without a nought ahead are those of their number -/
theorem decL_dval : ∀ (k : Nat) (d : List UInt8), d.length = k → d ≠ [] → (∀ c ∈ d, isDigit c = true) → (1 < d.length → d.head? ≠ some 48) → decL (dval d) = d ∧ (1 < d.length → 10 ^ (d.length - 1) ≤ dval d)
  | 0, d, hk, h0, _, _ => absurd (List.length_eq_zero_iff.1 hk) h0
  | 1, d, hk, h0, hd, _ => by
    obtain ⟨c, rfl⟩ := List.length_eq_one_iff.1 hk
    have hc := hd c (List.mem_singleton.2 rfl)
    have h1 := isDigit_val hc
    have e : dval [c] = c.toNat - 48 := by show 0 * 10 + (c.toNat - 48) = _; omega
    refine ⟨?_, fun h => absurd h (by simp)⟩
    rw [e]
    unfold decL
    rw [if_pos (by omega), digit_of hc _ (by omega)]
  | k + 2, d, hk, h0, hd, hz => by
    have hne : d ≠ [] := h0
    obtain ⟨d', c, rfl⟩ : ∃ d' c, d = d' ++ [c] := ⟨d.dropLast, d.getLast hne, (List.dropLast_concat_getLast hne).symm⟩
    rw [List.length_append, List.length_singleton] at hk
    have hk' : d'.length = k + 1 := by omega
    have hne' : d' ≠ [] := by intro e; rw [e] at hk'; simp at hk'
    have hc := hd c (by simp)
    have h1 := isDigit_val hc
    have hh : (d' ++ [c]).head? = d'.head? := by
      cases d' with
      | nil => exact absurd rfl hne'
      | cons x r => rfl
    have hz' : d'.head? ≠ some 48 := by rw [← hh]; exact hz (by rw [List.length_append, List.length_singleton]; omega)
    obtain ⟨i1, i2⟩ := decL_dval (k + 1) d' hk' hne' (fun x hx => hd x (by simp [hx])) (fun _ => hz')
    have hpos : 1 ≤ dval d' := by
      by_cases hk1 : 1 < d'.length
      · exact Nat.le_trans (Nat.one_le_pow _ _ (by decide)) (i2 hk1)
      · obtain ⟨x, rfl⟩ := List.length_eq_one_iff.1 (show d'.length = 1 by omega)
        have hx := isDigit_val (hd x (by simp))
        have hx2 : x.toNat ≠ 48 := fun e => hz' (by
          have : x = 48 := by apply UInt8.toNat_inj.1; rw [e]; rfl
          rw [this]; rfl)
        show 1 ≤ 0 * 10 + (x.toNat - 48)
        omega
    rw [dval_snoc]
    refine ⟨?_, fun _ => ?_⟩
    · rw [decL, if_neg (by omega), show (dval d' * 10 + (c.toNat - 48)) / 10 = dval d' by omega, i1, digit_of hc _ (by omega)]
    · rw [List.length_append, List.length_singleton, show d'.length + 1 - 1 = d'.length by omega]
      by_cases hk1 : 1 < d'.length
      · have h2 := i2 hk1
        have e : 10 ^ d'.length = 10 ^ (d'.length - 1) * 10 := by rw [← Nat.pow_succ]; congr 1; omega
        rw [e]; omega
      · rw [show d'.length = 1 by omega]; omega
/-- the digits of a number are told by what is behind them -/
theorem digits_cut : ∀ (a b x y : List UInt8), (∀ c ∈ a, isDigit c = true) → (∀ c ∈ b, isDigit c = true) → a ++ 58 :: x = b ++ 58 :: y → a = b ∧ x = y
  | [], [], x, y, _, _, h => by simp at h; exact ⟨rfl, h⟩
  | [], c :: b, x, y, _, hb, h => by
    simp at h
    have := hb c (List.mem_cons_self ..)
    rw [← h.1] at this; cases this
  | c :: a, [], x, y, ha, _, h => by
    simp at h
    have := ha c (List.mem_cons_self ..)
    rw [h.1] at this; cases this
  | c :: a, d :: b, x, y, ha, hb, h => by
    simp only [List.cons_append, List.cons.injEq] at h
    obtain ⟨h1, h2⟩ := digits_cut a b x y (fun c hc => ha c (List.mem_cons_of_mem _ hc)) (fun c hc => hb c (List.mem_cons_of_mem _ hc)) h.2
    exact ⟨by rw [h.1, h1], h2⟩
/-- a text with its length ahead -/
def oneT (t : List UInt8) : List UInt8 := decL t.length ++ 58 :: t
def textsL (l : List (List UInt8)) : List UInt8 := (l.map oneT).flatten
theorem textsL_nil : textsL [] = [] := rfl
theorem textsL_cons (t : List UInt8) (l : List (List UInt8)) : textsL (t :: l) = decL t.length ++ 58 :: (t ++ textsL l) := by
  show oneT t ++ textsL l = _
  unfold oneT
  simp
theorem textsL_app (a b : List (List UInt8)) : textsL (a ++ b) = textsL a ++ textsL b := by simp [textsL]
theorem textsL_snoc (a : List (List UInt8)) (t : List UInt8) : textsL (a ++ [t]) = textsL a ++ (decL t.length ++ 58 :: t) := by
  rw [textsL_app, textsL_cons, textsL_nil, List.append_nil]
theorem oneT_len (t : List UInt8) : t.length + 2 ≤ (oneT t).length := by
  unfold oneT
  have := decL_pos t.length
  rw [List.length_append, List.length_cons]; omega
theorem textsL_len : ∀ (l : List (List UInt8)), 2 * l.length + (l.map List.length).sum ≤ (textsL l).length
  | [] => Nat.le_refl _
  | t :: l => by
    have h := textsL_len l
    have h1 := oneT_len t
    have e : textsL (t :: l) = oneT t ++ textsL l := rfl
    rw [e, List.length_append, List.map_cons, List.sum_cons, List.length_cons]; omega
theorem textsL_first {t u r r' : List UInt8} (h : decL t.length ++ 58 :: (t ++ r) = decL u.length ++ 58 :: (u ++ r')) : t = u ∧ r = r' := by
  obtain ⟨h1, h2⟩ := digits_cut _ _ _ _ (decL_all _) (decL_all _) h
  have hl : t.length = u.length := by
    have := congrArg dval h1
    rwa [dval_decL, dval_decL] at this
  exact List.append_inj h2 hl
/-- texts ahead are the same ones -/
theorem textsL_pre : ∀ (pre l : List (List UInt8)) (r : List UInt8), textsL pre ++ r = textsL l → ∃ l', l = pre ++ l' ∧ r = textsL l'
  | [], l, r, h => ⟨l, rfl, h⟩
  | t :: pre, [], r, h => by
    rw [textsL_cons, textsL_nil] at h
    simp at h
  | t :: pre, u :: l, r, h => by
    rw [textsL_cons, textsL_cons] at h
    have h' : decL t.length ++ 58 :: (t ++ (textsL pre ++ r)) = decL u.length ++ 58 :: (u ++ textsL l) := by simpa using h
    obtain ⟨rfl, h2⟩ := textsL_first h'
    obtain ⟨l', rfl, h3⟩ := textsL_pre pre l r h2
    exact ⟨l', rfl, h3⟩
theorem textsL_inj {a b : List (List UInt8)} (h : textsL a = textsL b) : a = b := by
  obtain ⟨l', rfl, h2⟩ := textsL_pre a b [] (by rw [List.append_nil]; exact h)
  cases l' with
  | nil => simp
  | cons t l' => rw [textsL_cons] at h2; simp at h2
theorem decI_inj {n m : Int} (h : decI n = decI m) : n = m := by
  unfold decI at h
  have h45 : ∀ k : Nat, (45 : UInt8) ∉ decL k := fun k hk => by have := decL_all k 45 hk; cases this
  split at h <;> split at h
  · injection h with _ h
    have := congrArg dval h
    rw [dval_decL, dval_decL] at this
    omega
  · exact absurd (h ▸ List.mem_cons_self ..) (h45 _)
  · exact absurd (h ▸ List.mem_cons_self ..) (h45 _)
  · have := congrArg dval h
    rw [dval_decL, dval_decL] at this
    omega
/-- no nought ahead -/
theorem decL_head (n : Nat) : 1 < (decL n).length → (decL n).head? ≠ some 48 := by
  induction n using Nat.strongRecOn with
  | _ n ih =>
    intro hl
    by_cases h : n < 10
    · have e : decL n = [digit n] := by unfold decL; rw [if_pos h]
      rw [e] at hl; simp at hl
    · have e : decL n = decL (n / 10) ++ [digit n] := by rw [decL, if_neg h]
      have hp := decL_pos (n / 10)
      have hh : (decL n).head? = (decL (n / 10)).head? := by
        rw [e]
        cases hd : decL (n / 10) with
        | nil => rw [hd] at hp; simp at hp
        | cons x r => rfl
      rw [hh]
      by_cases h2 : 1 < (decL (n / 10)).length
      · exact ih (n / 10) (by omega) h2
      · intro hx
        have h10 : n / 10 < 10 := Nat.lt_of_not_le fun h10 => h2 (by
          have e2 : decL (n / 10) = decL (n / 10 / 10) ++ [digit (n / 10)] := by rw [decL, if_neg (by omega)]
          have := decL_pos (n / 10 / 10)
          rw [e2, List.length_append, List.length_singleton]; omega)
        have e3 : decL (n / 10) = [digit (n / 10)] := by unfold decL; rw [if_pos h10]
        rw [e3] at hx
        simp at hx
        have hv := digit_val (n / 10)
        rw [hx] at hv
        have : ((48 : UInt8).toNat : Int) = 48 := rfl
        omega
/-- digits up to a colon: those that were seen are its own -/
theorem scan_le {a x D : List UInt8} {p : Nat} (hD : D = a ++ 58 :: x) (hp : ∀ c ∈ D.take p, isDigit c = true) : p ≤ a.length := by
  refine Nat.le_of_not_lt fun h => ?_
  have h58 : (58 : UInt8) ∈ D.take p := by
    rw [List.mem_iff_getElem?]
    exact ⟨a.length, by rw [List.getElem?_take, if_pos h, hD]; simp⟩
  cases hp 58 h58
theorem scan_eq {a x D : List UInt8} {p : Nat} (ha : ∀ c ∈ a, isDigit c = true) (hD : D = a ++ 58 :: x) (hp : ∀ c ∈ D.take p, isDigit c = true) (hn : ∀ c, D[p]? = some c → isDigit c = false) : p = a.length := by
  have h1 := scan_le hD hp
  refine Nat.le_antisymm h1 (Nat.le_of_not_lt fun h => ?_)
  have he : D[p]? = some a[p] := by rw [hD, List.getElem?_append_left h, List.getElem?_eq_getElem h]
  have h2 := hn _ he
  rw [ha _ (List.getElem_mem h)] at h2
  cases h2
/-- what stands at the front of texts -/
theorem textsL_front {D : List UInt8} {l : List (List UInt8)} (h : D = textsL l) (h0 : D ≠ []) : ∃ t r, D = decL t.length ++ 58 :: (t ++ r) := by
  cases l with
  | nil => exact absurd h h0
  | cons t l => exact ⟨t, textsL l, by rw [h, textsL_cons]⟩
/-- what is seen of a front, and is none: at the end -/
theorem front_end {D : List UInt8} {l : List (List UInt8)} (h : D = textsL l) (h0 : D ≠ []) (hp : ∀ c ∈ D, isDigit c = true) : False := by
  obtain ⟨t, r, hD⟩ := textsL_front h h0
  have h1 := scan_le (p := D.length) hD (by rw [List.take_length]; exact hp)
  have h2 := congrArg List.length hD
  rw [List.length_append, List.length_cons] at h2
  omega
/-- too great a number -/
theorem front_great {D : List UInt8} {l : List (List UInt8)} {p : Nat} (h : D = textsL l) (h0 : D ≠ []) (hp : ∀ c ∈ D.take p, isDigit c = true) (hg : D.length < dval (D.take p)) : False := by
  obtain ⟨t, r, hD⟩ := textsL_front h h0
  have h1 := scan_le hD hp
  have h2 : D.take p = (decL t.length).take p := by rw [hD, List.take_append_of_le_length h1]
  have h3 := dval_more ((decL t.length).take p) ((decL t.length).drop p)
  rw [List.take_append_drop, dval_decL, ← h2] at h3
  have h4 := congrArg List.length hD
  rw [List.length_append, List.length_cons, List.length_append] at h4
  omega
/-- a front whose digits have ended -/
theorem front_stop {D : List UInt8} {l : List (List UInt8)} {p : Nat} {c : UInt8} (h : D = textsL l) (hc : D[p]? = some c) (hp : ∀ c ∈ D.take p, isDigit c = true) (hn : isDigit c = false) : p ≠ 0 ∧ c = 58 ∧ (1 < p → D.head? ≠ some 48) ∧ dval (D.take p) + p + 1 ≤ D.length := by
  have h0 : D ≠ [] := by intro e; rw [e] at hc; simp at hc
  obtain ⟨t, r, hD⟩ := textsL_front h h0
  have h1 : p = (decL t.length).length := scan_eq (decL_all _) hD hp (fun x hx => by rw [hc] at hx; injection hx with hx; rw [← hx]; exact hn)
  have hpos := decL_pos t.length
  have h2 : D.take p = decL t.length := by rw [hD, h1, List.take_left' rfl]
  have h4 := congrArg List.length hD
  rw [List.length_append, List.length_cons, List.length_append] at h4
  refine ⟨by omega, ?_, fun hp1 => ?_, ?_⟩
  · rw [hD, h1, List.getElem?_append_right (Nat.le_refl _), Nat.sub_self] at hc
    simp at hc
    exact hc.symm
  · have h5 := decL_head t.length (by omega)
    intro e
    apply h5
    rw [← e, hD]
    cases hd : decL t.length with
    | nil => rw [hd] at hpos; simp at hpos
    | cons x r => rfl
  · rw [h2, dval_decL]; omega
/-- a front that is one -/
theorem front_good {D : List UInt8} {p : Nat} (hc : D[p]? = some 58) (hp : ∀ c ∈ D.take p, isDigit c = true) (h0 : p ≠ 0) (hz : 1 < p → D.head? ≠ some 48) (hn : dval (D.take p) + p + 1 ≤ D.length) :
    ((D.drop (p + 1)).take (dval (D.take p))).length = dval (D.take p) ∧ D = decL ((D.drop (p + 1)).take (dval (D.take p))).length ++ 58 :: ((D.drop (p + 1)).take (dval (D.take p)) ++ D.drop (p + 1 + dval (D.take p))) := by
  have hlt : p < D.length := (List.getElem?_eq_some_iff.1 hc).1
  have hl : (D.take p).length = p := by rw [List.length_take]; omega
  have h1 : ((D.drop (p + 1)).take (dval (D.take p))).length = dval (D.take p) := by rw [List.length_take, List.length_drop]; omega
  refine ⟨h1, ?_⟩
  rw [h1]
  obtain ⟨h2, _⟩ := decL_dval p (D.take p) hl (by intro e; rw [e] at hl; exact h0 hl.symm) hp (fun hp1 => by
    rw [hl] at hp1
    have : (D.take p).head? = D.head? := by
      cases D with
      | nil => simp
      | cons x r => cases p with
        | zero => omega
        | succ p => rfl
    rw [this]; exact hz hp1)
  have h5 : (D.drop (p + 1)).take (dval (D.take p)) ++ D.drop (p + 1 + dval (D.take p)) = D.drop (p + 1) := by
    rw [← List.drop_drop (i := dval (D.take p)) (j := p + 1)]
    exact List.take_append_drop _ _
  rw [h2, h5]
  have h3 : D.drop p = 58 :: D.drop (p + 1) := by
    rw [List.drop_eq_getElem_cons hlt]
    congr 1
    have := List.getElem?_eq_getElem hlt
    rw [hc] at this
    injection this with this
    exact this.symm
  rw [← h3, List.take_append_drop]
end Go.Proofs.YtefnkkjmcfpiaaaDoor
