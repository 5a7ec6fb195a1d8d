/- Texts merged by program, in build order: TextsPure, RowVals, OpenRow, OpenCfg. -/
import Derived.Test.YtiofgepfcacgjaaDoorG08
import Derived.Test.YtiofgepfcacgjaaDoorG01
import Derived.Test.YtiofgepfcacgjaaDoorG02
set_option linter.unusedVariables false
set_option linter.unusedSimpArgs false
namespace Go.Proofs.YtiofgepfcacgjaaDoor
set_option linter.unusedVariables false

/-- the number of decimal digits -/
def dvalF (n : Nat) (c : UInt8) : Nat := n * 10 + (c.toNat - 48)
def dval (l : List UInt8) : Nat := l.foldl dvalF 0
theorem dval_nil : dval [] = 0 := rfl
theorem dval_snoc (l : List UInt8) (c : UInt8) : dval (l ++ [c]) = dval l * 10 + (c.toNat - 48) := by simp [dval, dvalF]
theorem dval_decL (n : Nat) : dval (decL n) = n := by
  induction n using Nat.strongRecOn with
  | _ n ih =>
    have hv := digit_val n
    by_cases h : n < 10
    · have e : decL n = [digit n] := by unfold decL; rw [if_pos h]
      rw [e]
      show 0 * 10 + ((digit n).toNat - 48) = n
      omega
    · have e : decL n = decL (n / 10) ++ [digit n] := by rw [decL, if_neg h]
      rw [e, dval_snoc, ih (n / 10) (by omega)]
      omega
theorem dval_more (a b : List UInt8) : dval a ≤ dval (a ++ b) := by
  induction b generalizing a with
  | nil => simp
  | cons c b ih =>
    have e : a ++ c :: b = (a ++ [c]) ++ b := by simp
    rw [e]
    have h1 := ih (a ++ [c])
    rw [dval_snoc] at h1
    omega
theorem decL_all (n : Nat) : ∀ c ∈ decL n, isDigit c = true := by
  induction n using Nat.strongRecOn with
  | _ n ih =>
    intro c hc
    by_cases h : n < 10
    · have e : decL n = [digit n] := by unfold decL; rw [if_pos h]
      rw [e, List.mem_singleton] at hc
      rw [hc]; exact digit_is n
    · have e : decL n = decL (n / 10) ++ [digit n] := by rw [decL, if_neg h]
      rw [e, List.mem_append, List.mem_singleton] at hc
      rcases hc with hc | rfl
      · exact ih (n / 10) (by omega) c hc
      · exact digit_is n
theorem isDigit_val {c : UInt8} (h : isDigit c = true) : 48 ≤ c.toNat ∧ c.toNat ≤ 57 := by
  unfold isDigit at h
  exact of_decide_eq_true h
theorem digit_of {c : UInt8} (h : isDigit c = true) (n : Nat) (hn : n % 10 = c.toNat - 48) : digit n = c := by
  have h1 := isDigit_val h
  apply UInt8.toNat_inj.1
  unfold digit
  rw [UInt8.toNat_ofNat']
  omega
/-- decimal digits without a nought ahead are those of their number -/
theorem decL_dval : ∀ (k : Nat) (d : List UInt8), d.length = k → d ≠ [] → (∀ c ∈ d, isDigit c = true) → (1 < d.length → d.head? ≠ some 48) → decL (dval d) = d ∧ (1 < d.length → 10 ^ (d.length - 1) ≤ dval d)
  | 0, d, hk, h0, _, _ => absurd (List.length_eq_zero_iff.1 hk) h0
  | 1, d, hk, h0, hd, _ => by
    obtain ⟨c, rfl⟩ := List.length_eq_one_iff.1 hk
    have hc := hd c (List.mem_singleton.2 rfl)
    have h1 := isDigit_val hc
    have e : dval [c] = c.toNat - 48 := by show 0 * 10 + (c.toNat - 48) = _; omega
    refine ⟨?_, fun h => absurd h (by simp)⟩
    rw [e]
    unfold decL
    rw [if_pos (by omega), digit_of hc _ (by omega)]
  | k + 2, d, hk, h0, hd, hz => by
    have hne : d ≠ [] := h0
    obtain ⟨d', c, rfl⟩ : ∃ d' c, d = d' ++ [c] := ⟨d.dropLast, d.getLast hne, (List.dropLast_concat_getLast hne).symm⟩
    rw [List.length_append, List.length_singleton] at hk
    have hk' : d'.length = k + 1 := by omega
    have hne' : d' ≠ [] := by intro e; rw [e] at hk'; simp at hk'
    have hc := hd c (by simp)
    have h1 := isDigit_val hc
    have hh : (d' ++ [c]).head? = d'.head? := by
      cases d' with
      | nil => exact absurd rfl hne'
      | cons x r => rfl
    have hz' : d'.head? ≠ some 48 := by rw [← hh]; exact hz (by rw [List.length_append, List.length_singleton]; omega)
    obtain ⟨i1, i2⟩ := decL_dval (k + 1) d' hk' hne' (fun x hx => hd x (by simp [hx])) (fun _ => hz')
    have hpos : 1 ≤ dval d' := by
      by_cases hk1 : 1 < d'.length
      · exact Nat.le_trans (Nat.one_le_pow _ _ (by decide)) (i2 hk1)
      · obtain ⟨x, rfl⟩ := List.length_eq_one_iff.1 (show d'.length = 1 by omega)
        have hx := isDigit_val (hd x (by simp))
        have hx2 : x.toNat ≠ 48 := fun e => hz' (by
          have : x = 48 := by apply UInt8.toNat_inj.1; rw [e]; rfl
          rw [this]; rfl)
        show 1 ≤ 0 * 10 + (x.toNat - 48)
        omega
    rw [dval_snoc]
    refine ⟨?_, fun _ => ?_⟩
    · rw [decL, if_neg (by omega), show (dval d' * 10 + (c.toNat - 48)) / 10 = dval d' by omega, i1, digit_of hc _ (by omega)]
    · rw [List.length_append, List.length_singleton, show d'.length + 1 - 1 = d'.length by omega]
      by_cases hk1 : 1 < d'.length
      · have h2 := i2 hk1
        have e : 10 ^ d'.length = 10 ^ (d'.length - 1) * 10 := by rw [← Nat.pow_succ]; congr 1; omega
        rw [e]; omega
      · rw [show d'.length = 1 by omega]; omega
/-- the digits of a number are told by what is behind them -/
theorem digits_cut : ∀ (a b x y : List UInt8), (∀ c ∈ a, isDigit c = true) → (∀ c ∈ b, isDigit c = true) → a ++ 58 :: x = b ++ 58 :: y → a = b ∧ x = y
  | [], [], x, y, _, _, h => by simp at h; exact ⟨rfl, h⟩
  | [], c :: b, x, y, _, hb, h => by
    simp at h
    have := hb c (List.mem_cons_self ..)
    rw [← h.1] at this; cases this
  | c :: a, [], x, y, ha, _, h => by
    simp at h
    have := ha c (List.mem_cons_self ..)
    rw [h.1] at this; cases this
  | c :: a, d :: b, x, y, ha, hb, h => by
    simp only [List.cons_append, List.cons.injEq] at h
    obtain ⟨h1, h2⟩ := digits_cut a b x y (fun c hc => ha c (List.mem_cons_of_mem _ hc)) (fun c hc => hb c (List.mem_cons_of_mem _ hc)) h.2
    exact ⟨by rw [h.1, h1], h2⟩
/-- a text with its length ahead -/
def oneT (t : List UInt8) : List UInt8 := decL t.length ++ 58 :: t
def textsL (l : List (List UInt8)) : List UInt8 := (l.map oneT).flatten
theorem textsL_nil : textsL [] = [] := rfl
theorem textsL_cons (t : List UInt8) (l : List (List UInt8)) : textsL (t :: l) = decL t.length ++ 58 :: (t ++ textsL l) := by
  show oneT t ++ textsL l = _
  unfold oneT
  simp
theorem textsL_app (a b : List (List UInt8)) : textsL (a ++ b) = textsL a ++ textsL b := by simp [textsL]
theorem textsL_snoc (a : List (List UInt8)) (t : List UInt8) : textsL (a ++ [t]) = textsL a ++ (decL t.length ++ 58 :: t) := by
  rw [textsL_app, textsL_cons, textsL_nil, List.append_nil]
theorem oneT_len (t : List UInt8) : t.length + 2 ≤ (oneT t).length := by
  unfold oneT
  have := decL_pos t.length
  rw [List.length_append, List.length_cons]; omega
theorem textsL_len : ∀ (l : List (List UInt8)), 2 * l.length + (l.map List.length).sum ≤ (textsL l).length
  | [] => Nat.le_refl _
  | t :: l => by
    have h := textsL_len l
    have h1 := oneT_len t
    have e : textsL (t :: l) = oneT t ++ textsL l := rfl
    rw [e, List.length_append, List.map_cons, List.sum_cons, List.length_cons]; omega
theorem textsL_first {t u r r' : List UInt8} (h : decL t.length ++ 58 :: (t ++ r) = decL u.length ++ 58 :: (u ++ r')) : t = u ∧ r = r' := by
  obtain ⟨h1, h2⟩ := digits_cut _ _ _ _ (decL_all _) (decL_all _) h
  have hl : t.length = u.length := by
    have := congrArg dval h1
    rwa [dval_decL, dval_decL] at this
  exact List.append_inj h2 hl
/-- texts ahead are the same ones -/
theorem textsL_pre : ∀ (pre l : List (List UInt8)) (r : List UInt8), textsL pre ++ r = textsL l → ∃ l', l = pre ++ l' ∧ r = textsL l'
  | [], l, r, h => ⟨l, rfl, h⟩
  | t :: pre, [], r, h => by
    rw [textsL_cons, textsL_nil] at h
    simp at h
  | t :: pre, u :: l, r, h => by
    rw [textsL_cons, textsL_cons] at h
    have h' : decL t.length ++ 58 :: (t ++ (textsL pre ++ r)) = decL u.length ++ 58 :: (u ++ textsL l) := by simpa using h
    obtain ⟨rfl, h2⟩ := textsL_first h'
    obtain ⟨l', rfl, h3⟩ := textsL_pre pre l r h2
    exact ⟨l', rfl, h3⟩
theorem textsL_inj {a b : List (List UInt8)} (h : textsL a = textsL b) : a = b := by
  obtain ⟨l', rfl, h2⟩ := textsL_pre a b [] (by rw [List.append_nil]; exact h)
  cases l' with
  | nil => simp
  | cons t l' => rw [textsL_cons] at h2; simp at h2
theorem decI_inj {n m : Int} (h : decI n = decI m) : n = m := by
  unfold decI at h
  have h45 : ∀ k : Nat, (45 : UInt8) ∉ decL k := fun k hk => by have := decL_all k 45 hk; cases this
  split at h <;> split at h
  · injection h with _ h
    have := congrArg dval h
    rw [dval_decL, dval_decL] at this
    omega
  · exact absurd (h ▸ List.mem_cons_self ..) (h45 _)
  · exact absurd (h ▸ List.mem_cons_self ..) (h45 _)
  · have := congrArg dval h
    rw [dval_decL, dval_decL] at this
    omega
/-- no nought ahead -/
theorem decL_head (n : Nat) : 1 < (decL n).length → (decL n).head? ≠ some 48 := by
  induction n using Nat.strongRecOn with
  | _ n ih =>
    intro hl
    by_cases h : n < 10
    · have e : decL n = [digit n] := by unfold decL; rw [if_pos h]
      rw [e] at hl; simp at hl
    · have e : decL n = decL (n / 10) ++ [digit n] := by rw [decL, if_neg h]
      have hp := decL_pos (n / 10)
      have hh : (decL n).head? = (decL (n / 10)).head? := by
        rw [e]
        cases hd : decL (n / 10) with
        | nil => rw [hd] at hp; simp at hp
        | cons x r => rfl
      rw [hh]
      by_cases h2 : 1 < (decL (n / 10)).length
      · exact ih (n / 10) (by omega) h2
      · intro hx
        have h10 : n / 10 < 10 := Nat.lt_of_not_le fun h10 => h2 (by
          have e2 : decL (n / 10) = decL (n / 10 / 10) ++ [digit (n / 10)] := by rw [decL, if_neg (by omega)]
          have := decL_pos (n / 10 / 10)
          rw [e2, List.length_append, List.length_singleton]; omega)
        have e3 : decL (n / 10) = [digit (n / 10)] := by unfold decL; rw [if_pos h10]
        rw [e3] at hx
        simp at hx
        have hv := digit_val (n / 10)
        rw [hx] at hv
        have : ((48 : UInt8).toNat : Int) = 48 := rfl
        omega
/-- digits up to a colon: those that were seen are its own -/
theorem scan_le {a x D : List UInt8} {p : Nat} (hD : D = a ++ 58 :: x) (hp : ∀ c ∈ D.take p, isDigit c = true) : p ≤ a.length := by
  refine Nat.le_of_not_lt fun h => ?_
  have h58 : (58 : UInt8) ∈ D.take p := by
    rw [List.mem_iff_getElem?]
    exact ⟨a.length, by rw [List.getElem?_take, if_pos h, hD]; simp⟩
  cases hp 58 h58
theorem scan_eq {a x D : List UInt8} {p : Nat} (ha : ∀ c ∈ a, isDigit c = true) (hD : D = a ++ 58 :: x) (hp : ∀ c ∈ D.take p, isDigit c = true) (hn : ∀ c, D[p]? = some c → isDigit c = false) : p = a.length := by
  have h1 := scan_le hD hp
  refine Nat.le_antisymm h1 (Nat.le_of_not_lt fun h => ?_)
  have he : D[p]? = some a[p] := by rw [hD, List.getElem?_append_left h, List.getElem?_eq_getElem h]
  have h2 := hn _ he
  rw [ha _ (List.getElem_mem h)] at h2
  cases h2
/-- what stands at the front of texts -/
theorem textsL_front {D : List UInt8} {l : List (List UInt8)} (h : D = textsL l) (h0 : D ≠ []) : ∃ t r, D = decL t.length ++ 58 :: (t ++ r) := by
  cases l with
  | nil => exact absurd h h0
  | cons t l => exact ⟨t, textsL l, by rw [h, textsL_cons]⟩
/-- what is seen of a front, and is none: at the end -/
theorem front_end {D : List UInt8} {l : List (List UInt8)} (h : D = textsL l) (h0 : D ≠ []) (hp : ∀ c ∈ D, isDigit c = true) : False := by
  obtain ⟨t, r, hD⟩ := textsL_front h h0
  have h1 := scan_le (p := D.length) hD (by rw [List.take_length]; exact hp)
  have h2 := congrArg List.length hD
  rw [List.length_append, List.length_cons] at h2
  omega
/-- too great a number -/
theorem front_great {D : List UInt8} {l : List (List UInt8)} {p : Nat} (h : D = textsL l) (h0 : D ≠ []) (hp : ∀ c ∈ D.take p, isDigit c = true) (hg : D.length < dval (D.take p)) : False := by
  obtain ⟨t, r, hD⟩ := textsL_front h h0
  have h1 := scan_le hD hp
  have h2 : D.take p = (decL t.length).take p := by rw [hD, List.take_append_of_le_length h1]
  have h3 := dval_more ((decL t.length).take p) ((decL t.length).drop p)
  rw [List.take_append_drop, dval_decL, ← h2] at h3
  have h4 := congrArg List.length hD
  rw [List.length_append, List.length_cons, List.length_append] at h4
  omega
/-- a front whose digits have ended -/
theorem front_stop {D : List UInt8} {l : List (List UInt8)} {p : Nat} {c : UInt8} (h : D = textsL l) (hc : D[p]? = some c) (hp : ∀ c ∈ D.take p, isDigit c = true) (hn : isDigit c = false) : p ≠ 0 ∧ c = 58 ∧ (1 < p → D.head? ≠ some 48) ∧ dval (D.take p) + p + 1 ≤ D.length := by
  have h0 : D ≠ [] := by intro e; rw [e] at hc; simp at hc
  obtain ⟨t, r, hD⟩ := textsL_front h h0
  have h1 : p = (decL t.length).length := scan_eq (decL_all _) hD hp (fun x hx => by rw [hc] at hx; injection hx with hx; rw [← hx]; exact hn)
  have hpos := decL_pos t.length
  have h2 : D.take p = decL t.length := by rw [hD, h1, List.take_left' rfl]
  have h4 := congrArg List.length hD
  rw [List.length_append, List.length_cons, List.length_append] at h4
  refine ⟨by omega, ?_, fun hp1 => ?_, ?_⟩
  · rw [hD, h1, List.getElem?_append_right (Nat.le_refl _), Nat.sub_self] at hc
    simp at hc
    exact hc.symm
  · have h5 := decL_head t.length (by omega)
    intro e
    apply h5
    rw [← e, hD]
    cases hd : decL t.length with
    | nil => rw [hd] at hpos; simp at hpos
    | cons x r => rfl
  · rw [h2, dval_decL]; omega
/-- a front that is one -/
theorem front_good {D : List UInt8} {p : Nat} (hc : D[p]? = some 58) (hp : ∀ c ∈ D.take p, isDigit c = true) (h0 : p ≠ 0) (hz : 1 < p → D.head? ≠ some 48) (hn : dval (D.take p) + p + 1 ≤ D.length) :
    ((D.drop (p + 1)).take (dval (D.take p))).length = dval (D.take p) ∧ D = decL ((D.drop (p + 1)).take (dval (D.take p))).length ++ 58 :: ((D.drop (p + 1)).take (dval (D.take p)) ++ D.drop (p + 1 + dval (D.take p))) := by
  have hlt : p < D.length := (List.getElem?_eq_some_iff.1 hc).1
  have hl : (D.take p).length = p := by rw [List.length_take]; omega
  have h1 : ((D.drop (p + 1)).take (dval (D.take p))).length = dval (D.take p) := by rw [List.length_take, List.length_drop]; omega
  refine ⟨h1, ?_⟩
  rw [h1]
  obtain ⟨h2, _⟩ := decL_dval p (D.take p) hl (by intro e; rw [e] at hl; exact h0 hl.symm) hp (fun hp1 => by
    rw [hl] at hp1
    have : (D.take p).head? = D.head? := by
      cases D with
      | nil => simp
      | cons x r => cases p with
        | zero => omega
        | succ p => rfl
    rw [this]; exact hz hp1)
  have h5 : (D.drop (p + 1)).take (dval (D.take p)) ++ D.drop (p + 1 + dval (D.take p)) = D.drop (p + 1) := by
    rw [← List.drop_drop (i := dval (D.take p)) (j := p + 1)]
    exact List.take_append_drop _ _
  rw [h2, h5]
  have h3 : D.drop p = 58 :: D.drop (p + 1) := by
    rw [List.drop_eq_getElem_cons hlt]
    congr 1
    have := List.getElem?_eq_getElem hlt
    rw [hc] at this
    injection this with this
    exact this.symm
  rw [← h3, List.take_append_drop]
end Go.Proofs.YtiofgepfcacgjaaDoor
namespace Go.Proofs.YtiofgepfcacgjaaDoor
set_option linter.unusedVariables false

/-- api.Session -/
structure Sess where
  fCookie : List UInt8
  fClient : List UInt8
  fRedirect : List UInt8
  fState : List UInt8
  fNonce : List UInt8
  fScope : List UInt8
  fChallenge : List UInt8
  fStage : Int
  fConn : List UInt8
  fUpState : List UInt8
  fUpNonce : List UInt8
  fEnds : Int
def Sess.texts (x : Sess) : List (List UInt8) := [x.fCookie, x.fClient, x.fRedirect, x.fState, x.fNonce, x.fScope, x.fChallenge, decI x.fStage, x.fConn, x.fUpState, x.fUpNonce, decI x.fEnds]
def Sess.val (x : Sess) : Value := .agg #[tv x.fCookie, tv x.fClient, tv x.fRedirect, tv x.fState, tv x.fNonce, tv x.fScope, tv x.fChallenge, .int .i64 x.fStage, tv x.fConn, tv x.fUpState, tv x.fUpNonce, .int .i64 x.fEnds]
def Sess.ok (x : Sess) : Prop := (-9223372036854775808 ≤ x.fStage ∧ x.fStage ≤ 9223372036854775807) ∧ (-9223372036854775808 ≤ x.fEnds ∧ x.fEnds ≤ 9223372036854775807)
theorem Sess.inj {x y : Sess} (h : textsL x.texts = textsL y.texts) : x = y := by
  obtain ⟨a0, a1, a2, a3, a4, a5, a6, a7, a8, a9, a10, a11⟩ := x
  obtain ⟨b0, b1, b2, b3, b4, b5, b6, b7, b8, b9, b10, b11⟩ := y
  have h := textsL_inj h
  simp only [Sess.texts, List.cons.injEq, and_true] at h
  obtain ⟨h0, h1, h2, h3, h4, h5, h6, h7, h8, h9, h10, h11⟩ := h
  have h7 := decI_inj h7
  have h11 := decI_inj h11
  rw [h0, h1, h2, h3, h4, h5, h6, h7, h8, h9, h10, h11]
/-- api.Code -/
structure Cod where
  fCode : List UInt8
  fClient : List UInt8
  fRedirect : List UInt8
  fChallenge : List UInt8
  fNonce : List UInt8
  fScope : List UInt8
  fUser : List UInt8
  fConn : List UInt8
  fSub : List UInt8
  fClaims : List UInt8
  fRefresh : List UInt8
  fEnds : Int
  fFamily : List UInt8
def Cod.texts (x : Cod) : List (List UInt8) := [x.fCode, x.fClient, x.fRedirect, x.fChallenge, x.fNonce, x.fScope, x.fUser, x.fConn, x.fSub, x.fClaims, x.fRefresh, decI x.fEnds, x.fFamily]
def Cod.val (x : Cod) : Value := .agg #[tv x.fCode, tv x.fClient, tv x.fRedirect, tv x.fChallenge, tv x.fNonce, tv x.fScope, tv x.fUser, tv x.fConn, tv x.fSub, tv x.fClaims, tv x.fRefresh, .int .i64 x.fEnds, tv x.fFamily]
def Cod.ok (x : Cod) : Prop := (-9223372036854775808 ≤ x.fEnds ∧ x.fEnds ≤ 9223372036854775807)
theorem Cod.inj {x y : Cod} (h : textsL x.texts = textsL y.texts) : x = y := by
  obtain ⟨a0, a1, a2, a3, a4, a5, a6, a7, a8, a9, a10, a11, a12⟩ := x
  obtain ⟨b0, b1, b2, b3, b4, b5, b6, b7, b8, b9, b10, b11, b12⟩ := y
  have h := textsL_inj h
  simp only [Cod.texts, List.cons.injEq, and_true] at h
  obtain ⟨h0, h1, h2, h3, h4, h5, h6, h7, h8, h9, h10, h11, h12⟩ := h
  have h11 := decI_inj h11
  rw [h0, h1, h2, h3, h4, h5, h6, h7, h8, h9, h10, h11, h12]
/-- api.Family -/
structure Fam where
  fID : List UInt8
  fClient : List UInt8
  fUser : List UInt8
  fConn : List UInt8
  fSub : List UInt8
  fNonce : List UInt8
  fScope : List UInt8
  fClaims : List UInt8
  fRefresh : List UInt8
  fUp : List UInt8
  fOld : List (List UInt8)
  fRevoked : Bool
def Fam.texts (x : Fam) : List (List UInt8) := [x.fID, x.fClient, x.fUser, x.fConn, x.fSub, x.fNonce, x.fScope, x.fClaims, x.fRefresh, x.fUp, if x.fRevoked = true then [49] else [48]] ++ x.fOld
def Fam.val (x : Fam) (v : Value) : Value := .agg #[tv x.fID, tv x.fClient, tv x.fUser, tv x.fConn, tv x.fSub, tv x.fNonce, tv x.fScope, tv x.fClaims, tv x.fRefresh, tv x.fUp, v, .bool x.fRevoked]
theorem Fam.inj {x y : Fam} (h : textsL x.texts = textsL y.texts) : x = y := by
  obtain ⟨a0, a1, a2, a3, a4, a5, a6, a7, a8, a9, a10, a11⟩ := x
  obtain ⟨b0, b1, b2, b3, b4, b5, b6, b7, b8, b9, b10, b11⟩ := y
  have h := textsL_inj h
  simp only [Fam.texts, List.cons_append, List.nil_append, List.cons.injEq] at h
  obtain ⟨h0, h1, h2, h3, h4, h5, h6, h7, h8, h9, hr, ho⟩ := h
  have hr2 : a11 = b11 := by
    cases a11 <;> cases b11 <;> simp at hr <;> rfl
  rw [h0, h1, h2, h3, h4, h5, h6, h7, h8, h9, hr2, ho]
end Go.Proofs.YtiofgepfcacgjaaDoor
namespace Go.Proofs.YtiofgepfcacgjaaDoor
open Go.ChangeShapes Go.WideShapes Go.ChangeAt Go.RowKit
set_option linter.unusedVariables false

theorem decI_size13 (n : Int) (h : -9223372036854775808 ≤ n ∧ n ≤ 9223372036854775807) : (decI n).length ≤ 21 := by
  have := decL_len n.natAbs 20 (Nat.lt_of_le_of_lt (show n.natAbs ≤ 9223372036854775808 by omega) (by decide)) (by decide)
  unfold decI; split
  · rw [List.length_cons]; omega
  · omega
theorem Tryd.cellsStrR : Tryd.prog.cellsOf 9 = 1 := by kernel_rfl
theorem Tryd.bytesStrR : Tryd.prog.bytesOf 9 = 16 := by kernel_rfl
theorem Tryd.cellsStrsR : Tryd.prog.cellsOf 30 = 1 := by kernel_rfl
theorem weightsAll_inR {H : Type} {P : Program} {e : TypeId} : ∀ {l : List (DataW H)} {d : DataW H}, d ∈ l → ∀ n ∈ d.weights P e, n ∈ DataW.weightsAll P e l
  | d0 :: l, d, hd, n, hn => by
    simp only [DataW.weightsAll, List.mem_append]
    rcases List.mem_cons.1 hd with rfl | h
    · exact Or.inl hn
    · exact Or.inr (weightsAll_inR h n hn)
theorem bulkAll_nilR {H : Type} : Rows.uptoBulkAll ([] : List (DataW H)) = 0 := by unfold Rows.uptoBulkAll; rfl
theorem bulkAll_consR {H : Type} (d : DataW H) (l : List (DataW H)) : Rows.uptoBulkAll (d :: l) = Rows.uptoBulk d + Rows.uptoBulkAll l := by conv => lhs; unfold Rows.uptoBulkAll
theorem bulk_strR {H : Type} (b : List UInt8) : Rows.uptoBulk (.lit (.string b) : DataW H) = b.length + 1 := by unfold Rows.uptoBulk; rfl
theorem bulk_sliceR {H : Type} (e sp : List (DataW H)) : Rows.uptoBulk (.slice e sp) = Rows.uptoBulkAll e + Rows.uptoBulkAll sp + 1 := by conv => lhs; unfold Rows.uptoBulk
theorem bulk_aggR {H : Type} (e : List (DataW H)) : Rows.uptoBulk (.agg e) = Rows.uptoBulkAll e + 1 := by conv => lhs; unfold Rows.uptoBulk
theorem bulk_mapR {H : Type} (D : Nat → DataW H) (f : Nat → List UInt8) : ∀ (r : List Nat), (∀ i ∈ r, D i = .lit (.string (f i))) → Rows.uptoBulkAll (r.map D) = ((r.map f).map List.length).sum + r.length
  | [], _ => by simp [bulkAll_nilR]
  | i :: r, h => by
    rw [List.map_cons, List.map_cons, List.map_cons, bulkAll_consR, bulk_mapR D f r (fun j hj => h j (List.mem_cons_of_mem _ hj)), h i (List.mem_cons_self ..), bulk_strR, List.sum_cons, List.length_cons]
    omega
/-- what is known of a slice of texts that lies in memory -/
def Strs13 (W : World) (v : Value) (l : List (List UInt8)) : Prop := RdT W v l ∧ l.length ≤ 200000000000000 ∧ ∀ x ∈ l, x.length ≤ 200000000000000
set_option maxRecDepth 100000 in
/-- a cell that is a slice of texts -/
theorem strs_of_trodW {H : Type} {enc : TypeId × Value → H} {W : World} {fuel : Nat} {cs : List Value} {x : DataW H × List MemPlace}
    (h : DataW.trod enc Tryd.prog W 0 (fun _ => true) true fuel 30 cs = some x) (hwt : ∀ n ∈ x.1.weights Tryd.prog 30, n ≤ reachBytes) :
    ∃ (v : Value) (l : List (List UInt8)), cs = [v] ∧ Strs13 W v l ∧ (l.map List.length).sum + l.length ≤ Rows.uptoBulk x.1 ∧ l.length * 16 ≤ reachBytes := by
  have hreach : reachBytes ≤ 200000000000000 := by decide
  rcases Go.Deep.open_slice1 Tryd.underlying30 Tryd.cellsStrR h with ⟨rfl, rfl⟩ | ⟨a, len, cap, m, n, V, D, Pl, rfl, _, hl, hm, hmm, rfl, hi⟩
  · exact ⟨_, [], rfl, ⟨⟨none, 0, rfl, Nat.le_refl _, fun k l hk => by simp only [List.getElem?_nil] at hk; cases hk⟩, Nat.zero_le _, fun x hx => by cases hx⟩, Nat.zero_le _, Nat.zero_le _⟩
  · simp only [if_true] at hmm
    subst hmm
    have hsp : 0 < m → a = ⟨a.block, a.off, none⟩ ∧ a.block < W.heap.size := by
      intro h0
      obtain ⟨he, hg⟩ := spot_none_b (hi 0 h0).1
      obtain ⟨b, o, sp⟩ := a
      simp only [Addr.add] at he hg
      injection he with e1 e2 e3
      simp only at e3 ⊢
      exact ⟨by rw [e3], hg⟩
    have hall : ∀ i, ∃ (x : List UInt8), i < m → W.cell? ⟨a.block, a.off + i, none⟩ = some (tv x) ∧ D i = .lit (.string x) := by
      intro i
      by_cases him : i < m
      · obtain ⟨h1, h2⟩ := hi i him
        obtain ⟨s, hc, hd, _⟩ := DataW.trod_string Tryd.underlying9 h2
        rw [List.singleton_inj] at hc
        obtain ⟨e1, e2⟩ := hsp (by omega)
        rw [e1, Addr.add_lit, hc] at h1
        exact ⟨s.data.toList, fun _ => ⟨by rw [h1]; simp [tv], congrArg Prod.fst hd⟩⟩
      · exact ⟨[], fun h => absurd h him⟩
    obtain ⟨f, hf⟩ := Classical.axiomOfChoice hall
    have hlen16 : len * 16 ≤ reachBytes := by
      have := hwt ((len + (m - len)) * Tryd.prog.bytesOf 9) (by simp [DataW.weights, Tryd.underlying30])
      rw [Tryd.bytesStrR] at this
      omega
    have hlen : len ≤ reachBytes := by omega
    refine ⟨_, (List.range len).map f, rfl, ⟨⟨some a, m, by simp, by simpa using hl, fun k x hk => ?_⟩, by simp only [List.length_map, List.length_range]; omega, fun x hx' => ?_⟩, ?_, by simp only [List.length_map, List.length_range]; exact hlen16⟩
    · obtain ⟨hk1, rfl⟩ := List.getElem?_eq_some_iff.1 hk
      have hk' : k < len := by simpa using hk1
      obtain ⟨e1, e2⟩ := hsp (by omega)
      simp only [List.getElem_map, List.getElem_range]
      exact ⟨a.block, a.off, by rw [← e1], e2, (hf k (by omega)).1⟩
    · obtain ⟨i, hi', rfl⟩ := List.mem_map.1 hx'
      have hil : i < len := by simpa using hi'
      have hD := (hf i (by omega)).2
      have hin : D i ∈ (List.range len).map D := List.mem_map.2 ⟨i, by simpa using hil, rfl⟩
      have hmem : ∀ n ∈ (D i).weights Tryd.prog 9, n ≤ reachBytes := fun n hn => hwt n (by
        simp only [DataW.weights, Tryd.underlying30, List.mem_cons, List.mem_append]
        exact .inr (.inl (weightsAll_inR hin n hn)))
      rw [hD] at hmem
      exact Nat.le_trans (hmem _ (by simp [DataW.weights])) hreach
    · have hb := bulk_mapR D f (List.range len) (fun i hi' => (hf i (by have := List.mem_range.1 hi'; omega)).2)
      simp only [bulk_sliceR, List.length_map, List.length_range] at hb ⊢
      omega
theorem strs_of_trod {H : Type} {enc : TypeId × Value → H} {W : World} {fuel : Nat} {cs : List Value} {x : DataW H × List MemPlace}
    (h : DataW.trod enc Tryd.prog W 0 (fun _ => true) true fuel 30 cs = some x) (hwt : ∀ n ∈ x.1.weights Tryd.prog 30, n ≤ reachBytes) :
    ∃ (v : Value) (l : List (List UInt8)), cs = [v] ∧ Strs13 W v l ∧ (l.map List.length).sum + l.length ≤ Rows.uptoBulk x.1 := by
  obtain ⟨v, l, h1, h2, h3, _⟩ := strs_of_trodW h hwt
  exact ⟨v, l, h1, h2, h3⟩
set_option maxRecDepth 100000 in
/-- what is read of a slice of texts -/
theorem open_strs {H : Type} {enc : TypeId × Value → H} {W : World} {base : Nat} {v : Value} {d : DataW H} {ps : List MemPlace} (hval : Value.okWide Tryd.prog W .any base 30 v)
    (hd : DataW.Trod enc Tryd.prog W 0 (fun _ => true) true 30 v d ps) (hlt : ∀ x ∈ ps, x.block < W.heap.size) (hwt : ∀ n ∈ d.weights Tryd.prog 30, n ≤ reachBytes) :
    ∃ (A : Option Addr) (c : Nat) (l : List (List UInt8)), v = .slice A l.length c ∧ Strs13 W (.slice A l.length c) l := by
  obtain ⟨a0, len, cap, rfl⟩ := okWide_slice Tryd.underlying30 hval
  obtain ⟨fuel, hf⟩ := hd
  obtain ⟨v, l, hc, h, _⟩ := strs_of_trod hf hwt
  simp only [Value.cells] at hc
  have hc : Value.slice a0 len cap = v := by simpa using hc
  subst hc
  obtain ⟨A, c, e, h1⟩ := id h.1
  rw [e] at h ⊢
  exact ⟨A, c, l, rfl, h⟩
end Go.Proofs.YtiofgepfcacgjaaDoor
namespace Go.Proofs.YtiofgepfcacgjaaDoor
open Go.ChangeShapes Go.WideShapes Go.ChangeAt Go.RowKit
set_option linter.unusedVariables false

theorem Tryd.cellsCli : Tryd.prog.cellsOf 32 = 3 := by kernel_rfl
theorem Tryd.cellsStrK : Tryd.prog.cellsOf 9 = 1 := by kernel_rfl
theorem Tryd.cellsStrsK : Tryd.prog.cellsOf 30 = 1 := by kernel_rfl
theorem Tryd.bytesCli : Tryd.prog.bytesOf 32 = 56 := by kernel_rfl
theorem weightsAll_inK {H : Type} {P : Program} {e : TypeId} : ∀ {l : List (DataW H)} {d : DataW H}, d ∈ l → ∀ n ∈ d.weights P e, n ∈ DataW.weightsAll P e l
  | d0 :: l, d, hd, n, hn => by
    simp only [DataW.weightsAll, List.mem_append]
    rcases List.mem_cons.1 hd with rfl | h
    · exact Or.inl hn
    · exact Or.inr (weightsAll_inK h n hn)
set_option maxRecDepth 100000 in
/-- three cells that read as a client -/
theorem cli_of_trod {H : Type} {enc : TypeId × Value → H} {W : World} {n : Nat} {cs : List Value} {x : DataW H × List MemPlace}
    (h : DataW.trod enc Tryd.prog W 0 (fun _ => true) true n 32 cs = some x) (hwt : ∀ n ∈ x.1.weights Tryd.prog 32, n ≤ reachBytes) : ∃ (r : CliP) (u : Value), cs = [tv r.cID, tv r.cSecret, u] ∧ RdT W u r.cReds ∧ r.fit := by
  have hreach : reachBytes ≤ 200000000000000 := by decide
  obtain ⟨xs, m, _, hx, hlen, hxl, hf⟩ := DataW.trod_struct Tryd.underlying32 h
  rw [Tryd.cellsCli] at hlen
  match cs, hlen with
  | [c0, c1, c2], _ =>
    have h0 : DataW.trod enc Tryd.prog W 0 (fun _ => true) true m 9 [c0] = xs[0]? := by
      have := hf 0 { name := "ID", type := 9, offset := 0, embedded := false, tag := "", pkgPath := "", byteOffset := 0 } rfl
      rwa [Tryd.cellsStrK] at this
    have h1 : DataW.trod enc Tryd.prog W 0 (fun _ => true) true m 9 [c1] = xs[1]? := by
      have := hf 1 { name := "Secret", type := 9, offset := 1, embedded := false, tag := "", pkgPath := "", byteOffset := 16 } rfl
      rwa [Tryd.cellsStrK] at this
    have h2 : DataW.trod enc Tryd.prog W 0 (fun _ => true) true m 30 [c2] = xs[2]? := by
      have := hf 2 { name := "Redirects", type := 30, offset := 2, embedded := false, tag := "", pkgPath := "", byteOffset := 32 } rfl
      rwa [Tryd.cellsStrsK] at this
    match xs, hxl with
    | [y0, y1, y2], _ =>
      simp only [List.getElem?_cons_zero, List.getElem?_cons_succ] at h0 h1 h2
      obtain ⟨a, ha, ya, _⟩ := DataW.trod_string Tryd.underlying9 h0
      obtain ⟨b, hb, yb, _⟩ := DataW.trod_string Tryd.underlying9 h1
      rw [List.singleton_inj] at ha hb
      obtain ⟨u, l, hu, hs, _, h16⟩ := strs_of_trodW h2 (fun n hn => hwt n (by
        rw [hx]
        simp only [DataW.weights, Tryd.underlying32, List.map_cons, List.map_nil]
        simp [DataW.weightsEach, hn]))
      rw [List.singleton_inj] at hu
      rw [hx, ya, yb] at hwt
      refine ⟨⟨a.data.toList, b.data.toList, l⟩, u, by rw [ha, hb, hu]; simp [tv], hs.1, Nat.le_trans (hwt _ ?_) hreach, Nat.le_trans (hwt _ ?_) hreach, Nat.le_trans h16 (by decide), hs.2.2⟩ <;> simp [DataW.weights, Tryd.underlying32, DataW.weightsEach]
set_option maxRecDepth 100000 in
/-- a cell that is a slice of clients -/
theorem clis_of_trod {H : Type} {enc : TypeId × Value → H} {W : World} {fuel : Nat} {cs : List Value} {x : DataW H × List MemPlace}
    (h : DataW.trod enc Tryd.prog W 0 (fun _ => true) true fuel 24 cs = some x) (hwt : ∀ n ∈ x.1.weights Tryd.prog 24, n ≤ reachBytes) :
    ∃ (v : Value) (l : List CliP), cs = [v] ∧ RdCl W v l ∧ l.length ≤ 200000000000000 ∧ ∀ r ∈ l, r.fit := by
  have hreach : reachBytes ≤ 200000000000000 := by decide
  rcases Go.Deep.open_slice Tryd.underlying24 h with ⟨hcs, hx⟩ | ⟨a, len, cap, m, n, D, Pl, hcs, _, hl, hm, hmm, hx, hi⟩
  · exact ⟨_, [], hcs, ⟨none, 0, rfl, Nat.le_refl _, fun k a hk => by simp at hk⟩, Nat.zero_le _, fun x hx => by cases hx⟩
  · simp only [if_true] at hmm
    subst hmm
    rw [Tryd.cellsCli] at hi hx
    subst hx
    have hlen : len ≤ reachBytes := by
      have := hwt ((len + (m - len)) * Tryd.prog.bytesOf 32) (by simp [DataW.weights, Tryd.underlying24])
      rw [Tryd.bytesCli] at this
      omega
    have hDw : ∀ i, i < len → ∀ n ∈ (D i).weights Tryd.prog 32, n ≤ reachBytes := fun i hil n hn => by
      have hin : D i ∈ (List.range len).map D := List.mem_map.2 ⟨i, by simpa using hil, rfl⟩
      exact hwt n (by
        simp only [DataW.weights, Tryd.underlying24, List.mem_cons, List.mem_append]
        exact .inr (.inl (weightsAll_inK hin n hn)))
    have hall : ∀ i, ∃ (x : CliP) (u : Value), i < len → a = ⟨a.block, a.off, none⟩ ∧ a.block < W.heap.size ∧ W.cell? ⟨a.block, a.off + i * 3, none⟩ = some (tv x.cID) ∧ W.cell? ⟨a.block, a.off + i * 3 + 1, none⟩ = some (tv x.cSecret) ∧ W.cell? ⟨a.block, a.off + i * 3 + 2, none⟩ = some u ∧ RdT W u x.cReds ∧ x.fit := by
      intro i
      by_cases him : i < len
      · obtain ⟨cs', hc, ht'⟩ := hi i (by omega)
        obtain ⟨r, u, rfl, hs⟩ := cli_of_trod ht' (hDw i him)
        obtain ⟨_, _, hat⟩ := World.cells?_some hc
        have a0 := hat 0 (by simp)
        have a1 := hat 1 (by simp)
        have a2 := hat 2 (by simp)
        obtain ⟨cs0, hc0, ht0⟩ := hi 0 (by omega)
        obtain ⟨r0, u0, rfl, _⟩ := cli_of_trod ht0 (hDw 0 (by omega))
        obtain ⟨_, _, hat0⟩ := World.cells?_some hc0
        have b0 := hat0 0 (by simp)
        rw [Nat.zero_mul] at b0
        simp only [Addr.add, if_true] at b0
        obtain ⟨e1, e2⟩ := spot_none_b b0
        rw [e1, Addr.add_lit, Addr.add_lit] at a0 a1 a2
        exact ⟨r, u, fun _ => ⟨e1, e2, by simpa using a0, by simpa using a1, by simpa using a2, hs⟩⟩
      · exact ⟨⟨[], [], []⟩, .nilIface, fun h => absurd h him⟩
    obtain ⟨f, hf⟩ := Classical.axiomOfChoice hall
    refine ⟨_, (List.range len).map f, hcs, ⟨some a, m, by simp, by simpa using hl, fun k x hk => ?_⟩, by simp only [List.length_map, List.length_range]; omega, fun x hx' => ?_⟩
    · obtain ⟨hk1, rfl⟩ := List.getElem?_eq_some_iff.1 hk
      have hk' : k < len := by simpa using hk1
      obtain ⟨u, hu⟩ := hf k
      obtain ⟨h1, h2, h3, h4, h5, h6, _⟩ := hu hk'
      simp only [List.getElem_map, List.getElem_range]
      exact ⟨a.block, a.off, u, by rw [← h1], h2, h3, h4, h5, h6⟩
    · obtain ⟨i, hi', rfl⟩ := List.mem_map.1 hx'
      have hil : i < len := by simpa using hi'
      obtain ⟨u, hu⟩ := hf i
      exact (hu hil).2.2.2.2.2.2
set_option maxRecDepth 100000 in
/-- what is read of a client -/
theorem open_cli {H : Type} {enc : TypeId × Value → H} {W : World} {base : Nat} {v : Value} {d : DataW H} {ps : List MemPlace} (hval : Value.okWide Tryd.prog W .any base 32 v)
    (hd : DataW.Trod enc Tryd.prog W 0 (fun _ => true) true 32 v d ps) (hlt : ∀ x ∈ ps, x.block < W.heap.size) (hwt : ∀ n ∈ d.weights Tryd.prog 32, n ≤ reachBytes) :
    ∃ (r : CliP) (u : Value), v = .agg #[tv r.cID, tv r.cSecret, u] ∧ RdT W u r.cReds ∧ r.fit := by
  obtain ⟨cs, rfl, hcs⟩ := okWide_struct Tryd.underlying32 hval
  obtain ⟨fuel, hf⟩ := hd
  obtain ⟨r, u, e, h1, h2⟩ := cli_of_trod hf hwt
  obtain ⟨cs⟩ := cs
  simp only [Value.cells] at e
  rw [e]
  exact ⟨r, u, rfl, h1, h2⟩
theorem Tryd.cellsConnK : Tryd.prog.cellsOf 36 = 7 := by kernel_rfl
theorem Tryd.cellsBoolK : Tryd.prog.cellsOf 4 = 1 := by kernel_rfl
theorem Tryd.bytesConnK : Tryd.prog.bytesOf 36 = 104 := by kernel_rfl
theorem Tryd.cellsCfg : Tryd.prog.cellsOf 27 = 5 := by kernel_rfl
theorem Tryd.cellsKeyK : Tryd.prog.cellsOf 23 = 2 := by kernel_rfl
theorem Tryd.cellsClisK : Tryd.prog.cellsOf 24 = 1 := by kernel_rfl
theorem Tryd.cellsConnsK : Tryd.prog.cellsOf 25 = 1 := by kernel_rfl
set_option maxRecDepth 100000 in
set_option maxHeartbeats 1000000 in
/-- seven cells that read as a connector -/
theorem cnn_of_trod {H : Type} {enc : TypeId × Value → H} {W : World} {n : Nat} {cs : List Value} {x : DataW H × List MemPlace}
    (h : DataW.trod enc Tryd.prog W 0 (fun _ => true) true n 36 cs = some x) (hwt : ∀ n ∈ x.1.weights Tryd.prog 36, n ≤ reachBytes) : ∃ r : ConnP, cs = [tv r.fID, tv r.fIssuer, tv r.fClient, tv r.fAuth, tv r.fSecret, .bool r.fOpen, tv r.fRules] ∧ r.fit := by
  have hreach : reachBytes ≤ 200000000000000 := by decide
  obtain ⟨xs, m, _, hx, hlen, hxl, hf⟩ := DataW.trod_struct Tryd.underlying36 h
  rw [Tryd.cellsConnK] at hlen
  match cs, hlen with
  | [c0, c1, c2, c3, c4, c5, c6], _ =>
    have h0 : DataW.trod enc Tryd.prog W 0 (fun _ => true) true m 9 [c0] = xs[0]? := by
      have := hf 0 { name := "ID", type := 9, offset := 0, embedded := false, tag := "", pkgPath := "", byteOffset := 0 } rfl
      rwa [Tryd.cellsStrK] at this
    have h1 : DataW.trod enc Tryd.prog W 0 (fun _ => true) true m 9 [c1] = xs[1]? := by
      have := hf 1 { name := "Issuer", type := 9, offset := 1, embedded := false, tag := "", pkgPath := "", byteOffset := 16 } rfl
      rwa [Tryd.cellsStrK] at this
    have h2 : DataW.trod enc Tryd.prog W 0 (fun _ => true) true m 9 [c2] = xs[2]? := by
      have := hf 2 { name := "Client", type := 9, offset := 2, embedded := false, tag := "", pkgPath := "", byteOffset := 32 } rfl
      rwa [Tryd.cellsStrK] at this
    have h3 : DataW.trod enc Tryd.prog W 0 (fun _ => true) true m 9 [c3] = xs[3]? := by
      have := hf 3 { name := "Auth", type := 9, offset := 3, embedded := false, tag := "", pkgPath := "", byteOffset := 48 } rfl
      rwa [Tryd.cellsStrK] at this
    have h4 : DataW.trod enc Tryd.prog W 0 (fun _ => true) true m 9 [c4] = xs[4]? := by
      have := hf 4 { name := "Secret", type := 9, offset := 4, embedded := false, tag := "", pkgPath := "", byteOffset := 64 } rfl
      rwa [Tryd.cellsStrK] at this
    have h5 : DataW.trod enc Tryd.prog W 0 (fun _ => true) true m 4 [c5] = xs[5]? := by
      have := hf 5 { name := "Open", type := 4, offset := 5, embedded := false, tag := "", pkgPath := "", byteOffset := 80 } rfl
      rwa [Tryd.cellsBoolK] at this
    have h6 : DataW.trod enc Tryd.prog W 0 (fun _ => true) true m 9 [c6] = xs[6]? := by
      have := hf 6 { name := "Rules", type := 9, offset := 6, embedded := false, tag := "", pkgPath := "", byteOffset := 88 } rfl
      rwa [Tryd.cellsStrK] at this
    match xs, hxl with
    | [y0, y1, y2, y3, y4, y5, y6], _ =>
      simp only [List.getElem?_cons_zero, List.getElem?_cons_succ] at h0 h1 h2 h3 h4 h5 h6
      obtain ⟨a0, e0, w0, _⟩ := DataW.trod_string Tryd.underlying9 h0
      obtain ⟨a1, e1, w1, _⟩ := DataW.trod_string Tryd.underlying9 h1
      obtain ⟨a2, e2, w2, _⟩ := DataW.trod_string Tryd.underlying9 h2
      obtain ⟨a3, e3, w3, _⟩ := DataW.trod_string Tryd.underlying9 h3
      obtain ⟨a4, e4, w4, _⟩ := DataW.trod_string Tryd.underlying9 h4
      obtain ⟨a5, e5, w5⟩ := DataW.trod_bool Tryd.underlying4 h5
      obtain ⟨a6, e6, w6, _⟩ := DataW.trod_string Tryd.underlying9 h6
      rw [List.singleton_inj] at e0 e1 e2 e3 e4 e5 e6
      rw [hx, w0, w1, w2, w3, w4, w6] at hwt
      refine ⟨⟨a0.data.toList, a1.data.toList, a2.data.toList, a3.data.toList, a4.data.toList, a5, a6.data.toList⟩, by rw [e0, e1, e2, e3, e4, e5, e6]; simp [tv], ?_⟩
      refine ⟨Nat.le_trans (hwt _ ?_) hreach, Nat.le_trans (hwt _ ?_) hreach, Nat.le_trans (hwt _ ?_) hreach, Nat.le_trans (hwt _ ?_) hreach, Nat.le_trans (hwt _ ?_) hreach, Nat.le_trans (hwt _ ?_) hreach⟩ <;> simp [DataW.weights, Tryd.underlying36, DataW.weightsEach]
set_option maxRecDepth 100000 in
/-- a cell that is a slice of connectors -/
theorem cnns_of_trod {H : Type} {enc : TypeId × Value → H} {W : World} {fuel : Nat} {cs : List Value} {x : DataW H × List MemPlace}
    (h : DataW.trod enc Tryd.prog W 0 (fun _ => true) true fuel 25 cs = some x) (hwt : ∀ n ∈ x.1.weights Tryd.prog 25, n ≤ reachBytes) :
    ∃ (v : Value) (l : List ConnP), cs = [v] ∧ RdCn W v l ∧ l.length ≤ 200000000000000 ∧ ∀ r ∈ l, r.fit := by
  have hreach : reachBytes ≤ 200000000000000 := by decide
  rcases Go.Deep.open_slice Tryd.underlying25 h with ⟨hcs, hx⟩ | ⟨a, len, cap, m, n, D, Pl, hcs, _, hl, hm, hmm, hx, hi⟩
  · exact ⟨_, [], hcs, ⟨none, 0, rfl, Nat.le_refl _, fun k a hk => by simp at hk⟩, Nat.zero_le _, fun x hx => by cases hx⟩
  · simp only [if_true] at hmm
    subst hmm
    rw [Tryd.cellsConnK] at hi hx
    subst hx
    have hlen : len ≤ reachBytes := by
      have := hwt ((len + (m - len)) * Tryd.prog.bytesOf 36) (by simp [DataW.weights, Tryd.underlying25])
      rw [Tryd.bytesConnK] at this
      omega
    have hDw : ∀ i, i < len → ∀ n ∈ (D i).weights Tryd.prog 36, n ≤ reachBytes := fun i hil n hn => by
      have hin : D i ∈ (List.range len).map D := List.mem_map.2 ⟨i, by simpa using hil, rfl⟩
      exact hwt n (by
        simp only [DataW.weights, Tryd.underlying25, List.mem_cons, List.mem_append]
        exact .inr (.inl (weightsAll_inK hin n hn)))
    have hall : ∀ i, ∃ x : ConnP, i < len → a = ⟨a.block, a.off, none⟩ ∧ a.block < W.heap.size ∧ W.cell? ⟨a.block, a.off + i * 7, none⟩ = some (tv x.fID) ∧ W.cell? ⟨a.block, a.off + i * 7 + 1, none⟩ = some (tv x.fIssuer) ∧ W.cell? ⟨a.block, a.off + i * 7 + 2, none⟩ = some (tv x.fClient) ∧ W.cell? ⟨a.block, a.off + i * 7 + 3, none⟩ = some (tv x.fAuth) ∧
        W.cell? ⟨a.block, a.off + i * 7 + 4, none⟩ = some (tv x.fSecret) ∧ W.cell? ⟨a.block, a.off + i * 7 + 5, none⟩ = some (.bool x.fOpen) ∧ W.cell? ⟨a.block, a.off + i * 7 + 6, none⟩ = some (tv x.fRules) ∧ x.fit := by
      intro i
      by_cases him : i < len
      · obtain ⟨cs', hc, ht'⟩ := hi i (by omega)
        obtain ⟨r, rfl, hs⟩ := cnn_of_trod ht' (hDw i him)
        obtain ⟨_, _, hat⟩ := World.cells?_some hc
        have a0 := hat 0 (by simp)
        have a1 := hat 1 (by simp)
        have a2 := hat 2 (by simp)
        have a3 := hat 3 (by simp)
        have a4 := hat 4 (by simp)
        have a5 := hat 5 (by simp)
        have a6 := hat 6 (by simp)
        obtain ⟨cs0, hc0, ht0⟩ := hi 0 (by omega)
        obtain ⟨r0, rfl, _⟩ := cnn_of_trod ht0 (hDw 0 (by omega))
        obtain ⟨_, _, hat0⟩ := World.cells?_some hc0
        have b0 := hat0 0 (by simp)
        rw [Nat.zero_mul] at b0
        simp only [Addr.add, if_true] at b0
        obtain ⟨e1, e2⟩ := spot_none_b b0
        rw [e1, Addr.add_lit, Addr.add_lit] at a0 a1 a2 a3 a4 a5 a6
        exact ⟨r, fun _ => ⟨e1, e2, by simpa using a0, by simpa using a1, by simpa using a2, by simpa using a3, by simpa using a4, by simpa using a5, by simpa using a6, hs⟩⟩
      · exact ⟨⟨[], [], [], [], [], false, []⟩, fun h => absurd h him⟩
    obtain ⟨f, hf⟩ := Classical.axiomOfChoice hall
    refine ⟨_, (List.range len).map f, hcs, ⟨some a, m, by simp, by simpa using hl, fun k x hk => ?_⟩, by simp only [List.length_map, List.length_range]; omega, fun x hx' => ?_⟩
    · obtain ⟨hk1, rfl⟩ := List.getElem?_eq_some_iff.1 hk
      have hk' : k < len := by simpa using hk1
      obtain ⟨h1, h2, h3, h4, h5, h6, h7, h8, h9, _⟩ := hf k hk'
      simp only [List.getElem_map, List.getElem_range]
      exact ⟨a.block, a.off, by rw [← h1], h2, h3, h4, h5, h6, h7, h8, h9⟩
    · obtain ⟨i, hi', rfl⟩ := List.mem_map.1 hx'
      have hil : i < len := by simpa using hi'
      exact (hf i hil).2.2.2.2.2.2.2.2.2
set_option maxRecDepth 100000 in
set_option maxHeartbeats 1000000 in
/-- what is read of a config -/
theorem open_cfg {H : Type} {enc : TypeId × Value → H} {W : World} {base : Nat} {v : Value} {d : DataW H} {ps : List MemPlace} (hval : Value.okWide Tryd.prog W .any base 27 v)
    (hd : DataW.Trod enc Tryd.prog W 0 (fun _ => true) true 27 v d ps) (hlt : ∀ x ∈ ps, x.block < W.heap.size) (hwt : ∀ n ∈ d.weights Tryd.prog 27, n ≤ reachBytes) :
    ∃ (x : CfgP) (A : Option Addr) (c : Nat) (A' : Option Addr) (c' : Nat), v = x.val A x.gClients.length c A' x.gConns.length c' ∧ CfgIs W x A x.gClients.length c A' x.gConns.length c' ∧ x.fit := by
  have hreach : reachBytes ≤ 200000000000000 := by decide
  obtain ⟨cs, rfl, hcs⟩ := okWide_struct Tryd.underlying27 hval
  obtain ⟨fuel, hf⟩ := hd
  obtain ⟨xs, m, _, hx, hlen, hxl, hf⟩ := DataW.trod_struct Tryd.underlying27 hf
  rw [Tryd.cellsCfg] at hlen
  obtain ⟨cs⟩ := cs
  simp only [Value.cells] at hlen hf
  match cs, hlen with
  | [c0, c1, c2, c3, c4], _ =>
    have h0 : DataW.trod enc Tryd.prog W 0 (fun _ => true) true m 9 [c0] = xs[0]? := by
      have := hf 0 { name := "Issuer", type := 9, offset := 0, embedded := false, tag := "", pkgPath := "", byteOffset := 0 } rfl
      rwa [Tryd.cellsStrK] at this
    have h1 : DataW.trod enc Tryd.prog W 0 (fun _ => true) true m 23 [c1, c2] = xs[1]? := by
      have := hf 1 { name := "Key", type := 23, offset := 1, embedded := false, tag := "", pkgPath := "", byteOffset := 16 } rfl
      rwa [Tryd.cellsKeyK] at this
    have h2 : DataW.trod enc Tryd.prog W 0 (fun _ => true) true m 24 [c3] = xs[2]? := by
      have := hf 2 { name := "Clients", type := 24, offset := 3, embedded := false, tag := "", pkgPath := "", byteOffset := 48 } rfl
      rwa [Tryd.cellsClisK] at this
    have h3 : DataW.trod enc Tryd.prog W 0 (fun _ => true) true m 25 [c4] = xs[3]? := by
      have := hf 3 { name := "Conns", type := 25, offset := 4, embedded := false, tag := "", pkgPath := "", byteOffset := 72 } rfl
      rwa [Tryd.cellsConnsK] at this
    match xs, hxl with
    | [y0, y1, y2, y3], _ =>
      simp only [List.getElem?_cons_zero, List.getElem?_cons_succ] at h0 h1 h2 h3
      obtain ⟨a, ha, ya, _⟩ := DataW.trod_string Tryd.underlying9 h0
      rw [List.singleton_inj] at ha
      have hd : d = .agg [y0.1, y1.1, y2.1, y3.1] := by
        have := congrArg Prod.fst hx
        rw [show d = (d, ps).1 from rfl, this]; rfl
      rw [hd] at hwt
      have w1 : ∀ n ∈ y1.1.weights Tryd.prog 23, n ≤ reachBytes := fun n hn => hwt n (by simp [DataW.weights, Tryd.underlying27, DataW.weightsEach, hn])
      have w2 : ∀ n ∈ y2.1.weights Tryd.prog 24, n ≤ reachBytes := fun n hn => hwt n (by simp [DataW.weights, Tryd.underlying27, DataW.weightsEach, hn])
      have w3 : ∀ n ∈ y3.1.weights Tryd.prog 25, n ≤ reachBytes := fun n hn => hwt n (by simp [DataW.weights, Tryd.underlying27, DataW.weightsEach, hn])
      have w0 : a.data.toList.length ≤ reachBytes := hwt _ (by rw [ya]; simp [DataW.weights, Tryd.underlying27, DataW.weightsEach])
      obtain ⟨xk, mk, _, hxk, hlenk, hxlk, hfk⟩ := DataW.trod_struct Tryd.underlying23 h1
      have k0 : DataW.trod enc Tryd.prog W 0 (fun _ => true) true mk 9 [c1] = xk[0]? := by
        have := hfk 0 { name := "ID", type := 9, offset := 0, embedded := false, tag := "", pkgPath := "", byteOffset := 0 } rfl
        rwa [Tryd.cellsStrK] at this
      have k1 : DataW.trod enc Tryd.prog W 0 (fun _ => true) true mk 9 [c2] = xk[1]? := by
        have := hfk 1 { name := "Secret", type := 9, offset := 1, embedded := false, tag := "", pkgPath := "", byteOffset := 16 } rfl
        rwa [Tryd.cellsStrK] at this
      match xk, hxlk with
      | [z0, z1], _ =>
        simp only [List.getElem?_cons_zero, List.getElem?_cons_succ] at k0 k1
        obtain ⟨b, hb, yb, _⟩ := DataW.trod_string Tryd.underlying9 k0
        obtain ⟨e, he, ye, _⟩ := DataW.trod_string Tryd.underlying9 k1
        rw [List.singleton_inj] at hb he
        rw [hxk, yb, ye] at w1
        obtain ⟨vc, lc, hvc, hc1, hc2, hc3⟩ := clis_of_trod h2 w2
        obtain ⟨vn, ln, hvn, hn1, hn2, hn3⟩ := cnns_of_trod h3 w3
        rw [List.singleton_inj] at hvc hvn
        obtain ⟨A, c, e1, _⟩ := id hc1
        obtain ⟨A', c', e2, _⟩ := id hn1
        refine ⟨⟨a.data.toList, b.data.toList, e.data.toList, lc, ln⟩, A, c, A', c', ?_, ⟨rfl, rfl, by rw [← e1]; exact hc1, by rw [← e2]; exact hn1⟩, Nat.le_trans w0 hreach, Nat.le_trans (w1 _ ?_) hreach, Nat.le_trans (w1 _ ?_) hreach, hc2, hc3, hn2, hn3⟩
        · rw [ha, hb, he, hvc, hvn, e1, e2]; simp [CfgP.val, tv]
        · simp [DataW.weights, Tryd.underlying23, DataW.weightsEach]
        · simp [DataW.weights, Tryd.underlying23, DataW.weightsEach]
end Go.Proofs.YtiofgepfcacgjaaDoor
