/- Texts merged by program, in build order: TextsPure, RowVals, JsonDec, RowRef, ValueRef, ConnVals. -/
import Derived.Test.YtkbjpgfdmkmbmaaGreatDoorG12
import Derived.Test.YtkbjpgfdmkmbmaaGreatDoorG07
import Derived.Test.YtkbjpgfdmkmbmaaGreatDoorG01
import Derived.Deep.RegionWith
import Derived.Deep.MidRow
import Derived.Test.YtkbjpgfdmkmbmaaGreatDoorG03
import Derived.Deep.RegionLaw
import Derived.Deep.Cut
set_option linter.unusedVariables false
set_option linter.unusedSimpArgs false
namespace Go.Proofs.YtkbjpgfdmkmbmaaGreatDoor
set_option linter.unusedVariables false

/-- the number of decimal digits -/
def dvalF (n : Nat) (c : UInt8) : Nat := n * 10 + (c.toNat - 48)
def dval (l : List UInt8) : Nat := l.foldl dvalF 0
theorem dval_nil : dval [] = 0 := rfl
theorem dval_snoc (l : List UInt8) (c : UInt8) : dval (l ++ [c]) = dval l * 10 + (c.toNat - 48) := by simp [dval, dvalF]
theorem dval_decL (n : Nat) : dval (decL n) = n := by
  induction n using Nat.strongRecOn with
  | _ n ih =>
    have hv := digit_val n
    by_cases h : n < 10
    · have e : decL n = [digit n] := by unfold decL; rw [if_pos h]
      rw [e]
      show 0 * 10 + ((digit n).toNat - 48) = n
      omega
    · have e : decL n = decL (n / 10) ++ [digit n] := by rw [decL, if_neg h]
      rw [e, dval_snoc, ih (n / 10) (by omega)]
      omega
theorem dval_more (a b : List UInt8) : dval a ≤ dval (a ++ b) := by
  induction b generalizing a with
  | nil => simp
  | cons c b ih =>
    have e : a ++ c :: b = (a ++ [c]) ++ b := by simp
    rw [e]
    have h1 := ih (a ++ [c])
    rw [dval_snoc] at h1
    omega
theorem decL_all (n : Nat) : ∀ c ∈ decL n, isDigit c = true := by
  induction n using Nat.strongRecOn with
  | _ n ih =>
    intro c hc
    by_cases h : n < 10
    · have e : decL n = [digit n] := by unfold decL; rw [if_pos h]
      rw [e, List.mem_singleton] at hc
      rw [hc]; exact digit_is n
    · have e : decL n = decL (n / 10) ++ [digit n] := by rw [decL, if_neg h]
      rw [e, List.mem_append, List.mem_singleton] at hc
      rcases hc with hc | rfl
      · exact ih (n / 10) (by omega) c hc
      · exact digit_is n
theorem isDigit_val {c : UInt8} (h : isDigit c = true) : 48 ≤ c.toNat ∧ c.toNat ≤ 57 := by
  unfold isDigit at h
  exact of_decide_eq_true h
theorem digit_of {c : UInt8} (h : isDigit c = true) (n : Nat) (hn : n % 10 = c.toNat - 48) : digit n = c := by
  have h1 := isDigit_val h
  apply UInt8.toNat_inj.1
  unfold digit
  rw [UInt8.toNat_ofNat']
  omega
/-- decimal digits without a nought ahead are those of their number -/
theorem decL_dval : ∀ (k : Nat) (d : List UInt8), d.length = k → d ≠ [] → (∀ c ∈ d, isDigit c = true) → (1 < d.length → d.head? ≠ some 48) → decL (dval d) = d ∧ (1 < d.length → 10 ^ (d.length - 1) ≤ dval d)
  | 0, d, hk, h0, _, _ => absurd (List.length_eq_zero_iff.1 hk) h0
  | 1, d, hk, h0, hd, _ => by
    obtain ⟨c, rfl⟩ := List.length_eq_one_iff.1 hk
    have hc := hd c (List.mem_singleton.2 rfl)
    have h1 := isDigit_val hc
    have e : dval [c] = c.toNat - 48 := by show 0 * 10 + (c.toNat - 48) = _; omega
    refine ⟨?_, fun h => absurd h (by simp)⟩
    rw [e]
    unfold decL
    rw [if_pos (by omega), digit_of hc _ (by omega)]
  | k + 2, d, hk, h0, hd, hz => by
    have hne : d ≠ [] := h0
    obtain ⟨d', c, rfl⟩ : ∃ d' c, d = d' ++ [c] := ⟨d.dropLast, d.getLast hne, (List.dropLast_concat_getLast hne).symm⟩
    rw [List.length_append, List.length_singleton] at hk
    have hk' : d'.length = k + 1 := by omega
    have hne' : d' ≠ [] := by intro e; rw [e] at hk'; simp at hk'
    have hc := hd c (by simp)
    have h1 := isDigit_val hc
    have hh : (d' ++ [c]).head? = d'.head? := by
      cases d' with
      | nil => exact absurd rfl hne'
      | cons x r => rfl
    have hz' : d'.head? ≠ some 48 := by rw [← hh]; exact hz (by rw [List.length_append, List.length_singleton]; omega)
    obtain ⟨i1, i2⟩ := decL_dval (k + 1) d' hk' hne' (fun x hx => hd x (by simp [hx])) (fun _ => hz')
    have hpos : 1 ≤ dval d' := by
      by_cases hk1 : 1 < d'.length
      · exact Nat.le_trans (Nat.one_le_pow _ _ (by decide)) (i2 hk1)
      · obtain ⟨x, rfl⟩ := List.length_eq_one_iff.1 (show d'.length = 1 by omega)
        have hx := isDigit_val (hd x (by simp))
        have hx2 : x.toNat ≠ 48 := fun e => hz' (by
          have : x = 48 := by apply UInt8.toNat_inj.1; rw [e]; rfl
          rw [this]; rfl)
        show 1 ≤ 0 * 10 + (x.toNat - 48)
        omega
    rw [dval_snoc]
    refine ⟨?_, fun _ => ?_⟩
    · rw [decL, if_neg (by omega), show (dval d' * 10 + (c.toNat - 48)) / 10 = dval d' by omega, i1, digit_of hc _ (by omega)]
    · rw [List.length_append, List.length_singleton, show d'.length + 1 - 1 = d'.length by omega]
      by_cases hk1 : 1 < d'.length
      · have h2 := i2 hk1
        have e : 10 ^ d'.length = 10 ^ (d'.length - 1) * 10 := by rw [← Nat.pow_succ]; congr 1; omega
        rw [e]; omega
      · rw [show d'.length = 1 by omega]; omega
/-- the digits of a number are told by what is behind them -/
theorem digits_cut : ∀ (a b x y : List UInt8), (∀ c ∈ a, isDigit c = true) → (∀ c ∈ b, isDigit c = true) → a ++ 58 :: x = b ++ 58 :: y → a = b ∧ x = y
  | [], [], x, y, _, _, h => by simp at h; exact ⟨rfl, h⟩
  | [], c :: b, x, y, _, hb, h => by
    simp at h
    have := hb c (List.mem_cons_self ..)
    rw [← h.1] at this; cases this
  | c :: a, [], x, y, ha, _, h => by
    simp at h
    have := ha c (List.mem_cons_self ..)
    rw [h.1] at this; cases this
  | c :: a, d :: b, x, y, ha, hb, h => by
    simp only [List.cons_append, List.cons.injEq] at h
    obtain ⟨h1, h2⟩ := digits_cut a b x y (fun c hc => ha c (List.mem_cons_of_mem _ hc)) (fun c hc => hb c (List.mem_cons_of_mem _ hc)) h.2
    exact ⟨by rw [h.1, h1], h2⟩
/-- a text with its length ahead -/
def oneT (t : List UInt8) : List UInt8 := decL t.length ++ 58 :: t
def textsL (l : List (List UInt8)) : List UInt8 := (l.map oneT).flatten
theorem textsL_nil : textsL [] = [] := rfl
theorem textsL_cons (t : List UInt8) (l : List (List UInt8)) : textsL (t :: l) = decL t.length ++ 58 :: (t ++ textsL l) := by
  show oneT t ++ textsL l = _
  unfold oneT
  simp
theorem textsL_app (a b : List (List UInt8)) : textsL (a ++ b) = textsL a ++ textsL b := by simp [textsL]
theorem textsL_snoc (a : List (List UInt8)) (t : List UInt8) : textsL (a ++ [t]) = textsL a ++ (decL t.length ++ 58 :: t) := by
  rw [textsL_app, textsL_cons, textsL_nil, List.append_nil]
theorem oneT_len (t : List UInt8) : t.length + 2 ≤ (oneT t).length := by
  unfold oneT
  have := decL_pos t.length
  rw [List.length_append, List.length_cons]; omega
theorem textsL_len : ∀ (l : List (List UInt8)), 2 * l.length + (l.map List.length).sum ≤ (textsL l).length
  | [] => Nat.le_refl _
  | t :: l => by
    have h := textsL_len l
    have h1 := oneT_len t
    have e : textsL (t :: l) = oneT t ++ textsL l := rfl
    rw [e, List.length_append, List.map_cons, List.sum_cons, List.length_cons]; omega
theorem textsL_first {t u r r' : List UInt8} (h : decL t.length ++ 58 :: (t ++ r) = decL u.length ++ 58 :: (u ++ r')) : t = u ∧ r = r' := by
  obtain ⟨h1, h2⟩ := digits_cut _ _ _ _ (decL_all _) (decL_all _) h
  have hl : t.length = u.length := by
    have := congrArg dval h1
    rwa [dval_decL, dval_decL] at this
  exact List.append_inj h2 hl
/-- texts ahead are the same ones -/
theorem textsL_pre : ∀ (pre l : List (List UInt8)) (r : List UInt8), textsL pre ++ r = textsL l → ∃ l', l = pre ++ l' ∧ r = textsL l'
  | [], l, r, h => ⟨l, rfl, h⟩
  | t :: pre, [], r, h => by
    rw [textsL_cons, textsL_nil] at h
    simp at h
  | t :: pre, u :: l, r, h => by
    rw [textsL_cons, textsL_cons] at h
    have h' : decL t.length ++ 58 :: (t ++ (textsL pre ++ r)) = decL u.length ++ 58 :: (u ++ textsL l) := by simpa using h
    obtain ⟨rfl, h2⟩ := textsL_first h'
    obtain ⟨l', rfl, h3⟩ := textsL_pre pre l r h2
    exact ⟨l', rfl, h3⟩
theorem textsL_inj {a b : List (List UInt8)} (h : textsL a = textsL b) : a = b := by
  obtain ⟨l', rfl, h2⟩ := textsL_pre a b [] (by rw [List.append_nil]; exact h)
  cases l' with
  | nil => simp
  | cons t l' => rw [textsL_cons] at h2; simp at h2
theorem decI_inj {n m : Int} (h : decI n = decI m) : n = m := by
  unfold decI at h
  have h45 : ∀ k : Nat, (45 : UInt8) ∉ decL k := fun k hk => by have := decL_all k 45 hk; cases this
  split at h <;> split at h
  · injection h with _ h
    have := congrArg dval h
    rw [dval_decL, dval_decL] at this
    omega
  · exact absurd (h ▸ List.mem_cons_self ..) (h45 _)
  · exact absurd (h ▸ List.mem_cons_self ..) (h45 _)
  · have := congrArg dval h
    rw [dval_decL, dval_decL] at this
    omega
/-- no nought ahead -/
theorem decL_head (n : Nat) : 1 < (decL n).length → (decL n).head? ≠ some 48 := by
  induction n using Nat.strongRecOn with
  | _ n ih =>
    intro hl
    by_cases h : n < 10
    · have e : decL n = [digit n] := by unfold decL; rw [if_pos h]
      rw [e] at hl; simp at hl
    · have e : decL n = decL (n / 10) ++ [digit n] := by rw [decL, if_neg h]
      have hp := decL_pos (n / 10)
      have hh : (decL n).head? = (decL (n / 10)).head? := by
        rw [e]
        cases hd : decL (n / 10) with
        | nil => rw [hd] at hp; simp at hp
        | cons x r => rfl
      rw [hh]
      by_cases h2 : 1 < (decL (n / 10)).length
      · exact ih (n / 10) (by omega) h2
      · intro hx
        have h10 : n / 10 < 10 := Nat.lt_of_not_le fun h10 => h2 (by
          have e2 : decL (n / 10) = decL (n / 10 / 10) ++ [digit (n / 10)] := by rw [decL, if_neg (by omega)]
          have := decL_pos (n / 10 / 10)
          rw [e2, List.length_append, List.length_singleton]; omega)
        have e3 : decL (n / 10) = [digit (n / 10)] := by unfold decL; rw [if_pos h10]
        rw [e3] at hx
        simp at hx
        have hv := digit_val (n / 10)
        rw [hx] at hv
        have : ((48 : UInt8).toNat : Int) = 48 := rfl
        omega
/-- digits up to a colon: those that were seen are its own -/
theorem scan_le {a x D : List UInt8} {p : Nat} (hD : D = a ++ 58 :: x) (hp : ∀ c ∈ D.take p, isDigit c = true) : p ≤ a.length := by
  refine Nat.le_of_not_lt fun h => ?_
  have h58 : (58 : UInt8) ∈ D.take p := by
    rw [List.mem_iff_getElem?]
    exact ⟨a.length, by rw [List.getElem?_take, if_pos h, hD]; simp⟩
  cases hp 58 h58
theorem scan_eq {a x D : List UInt8} {p : Nat} (ha : ∀ c ∈ a, isDigit c = true) (hD : D = a ++ 58 :: x) (hp : ∀ c ∈ D.take p, isDigit c = true) (hn : ∀ c, D[p]? = some c → isDigit c = false) : p = a.length := by
  have h1 := scan_le hD hp
  refine Nat.le_antisymm h1 (Nat.le_of_not_lt fun h => ?_)
  have he : D[p]? = some a[p] := by rw [hD, List.getElem?_append_left h, List.getElem?_eq_getElem h]
  have h2 := hn _ he
  rw [ha _ (List.getElem_mem h)] at h2
  cases h2
/-- what stands at the front of texts -/
theorem textsL_front {D : List UInt8} {l : List (List UInt8)} (h : D = textsL l) (h0 : D ≠ []) : ∃ t r, D = decL t.length ++ 58 :: (t ++ r) := by
  cases l with
  | nil => exact absurd h h0
  | cons t l => exact ⟨t, textsL l, by rw [h, textsL_cons]⟩
/-- what is seen of a front, and is none: at the end -/
theorem front_end {D : List UInt8} {l : List (List UInt8)} (h : D = textsL l) (h0 : D ≠ []) (hp : ∀ c ∈ D, isDigit c = true) : False := by
  obtain ⟨t, r, hD⟩ := textsL_front h h0
  have h1 := scan_le (p := D.length) hD (by rw [List.take_length]; exact hp)
  have h2 := congrArg List.length hD
  rw [List.length_append, List.length_cons] at h2
  omega
/-- too great a number -/
theorem front_great {D : List UInt8} {l : List (List UInt8)} {p : Nat} (h : D = textsL l) (h0 : D ≠ []) (hp : ∀ c ∈ D.take p, isDigit c = true) (hg : D.length < dval (D.take p)) : False := by
  obtain ⟨t, r, hD⟩ := textsL_front h h0
  have h1 := scan_le hD hp
  have h2 : D.take p = (decL t.length).take p := by rw [hD, List.take_append_of_le_length h1]
  have h3 := dval_more ((decL t.length).take p) ((decL t.length).drop p)
  rw [List.take_append_drop, dval_decL, ← h2] at h3
  have h4 := congrArg List.length hD
  rw [List.length_append, List.length_cons, List.length_append] at h4
  omega
/-- a front whose digits have ended -/
theorem front_stop {D : List UInt8} {l : List (List UInt8)} {p : Nat} {c : UInt8} (h : D = textsL l) (hc : D[p]? = some c) (hp : ∀ c ∈ D.take p, isDigit c = true) (hn : isDigit c = false) : p ≠ 0 ∧ c = 58 ∧ (1 < p → D.head? ≠ some 48) ∧ dval (D.take p) + p + 1 ≤ D.length := by
  have h0 : D ≠ [] := by intro e; rw [e] at hc; simp at hc
  obtain ⟨t, r, hD⟩ := textsL_front h h0
  have h1 : p = (decL t.length).length := scan_eq (decL_all _) hD hp (fun x hx => by rw [hc] at hx; injection hx with hx; rw [← hx]; exact hn)
  have hpos := decL_pos t.length
  have h2 : D.take p = decL t.length := by rw [hD, h1, List.take_left' rfl]
  have h4 := congrArg List.length hD
  rw [List.length_append, List.length_cons, List.length_append] at h4
  refine ⟨by omega, ?_, fun hp1 => ?_, ?_⟩
  · rw [hD, h1, List.getElem?_append_right (Nat.le_refl _), Nat.sub_self] at hc
    simp at hc
    exact hc.symm
  · have h5 := decL_head t.length (by omega)
    intro e
    apply h5
    rw [← e, hD]
    cases hd : decL t.length with
    | nil => rw [hd] at hpos; simp at hpos
    | cons x r => rfl
  · rw [h2, dval_decL]; omega
/-- a front that is one -/
theorem front_good {D : List UInt8} {p : Nat} (hc : D[p]? = some 58) (hp : ∀ c ∈ D.take p, isDigit c = true) (h0 : p ≠ 0) (hz : 1 < p → D.head? ≠ some 48) (hn : dval (D.take p) + p + 1 ≤ D.length) :
    ((D.drop (p + 1)).take (dval (D.take p))).length = dval (D.take p) ∧ D = decL ((D.drop (p + 1)).take (dval (D.take p))).length ++ 58 :: ((D.drop (p + 1)).take (dval (D.take p)) ++ D.drop (p + 1 + dval (D.take p))) := by
  have hlt : p < D.length := (List.getElem?_eq_some_iff.1 hc).1
  have hl : (D.take p).length = p := by rw [List.length_take]; omega
  have h1 : ((D.drop (p + 1)).take (dval (D.take p))).length = dval (D.take p) := by rw [List.length_take, List.length_drop]; omega
  refine ⟨h1, ?_⟩
  rw [h1]
  obtain ⟨h2, _⟩ := decL_dval p (D.take p) hl (by intro e; rw [e] at hl; exact h0 hl.symm) hp (fun hp1 => by
    rw [hl] at hp1
    have : (D.take p).head? = D.head? := by
      cases D with
      | nil => simp
      | cons x r => cases p with
        | zero => omega
        | succ p => rfl
    rw [this]; exact hz hp1)
  have h5 : (D.drop (p + 1)).take (dval (D.take p)) ++ D.drop (p + 1 + dval (D.take p)) = D.drop (p + 1) := by
    rw [← List.drop_drop (i := dval (D.take p)) (j := p + 1)]
    exact List.take_append_drop _ _
  rw [h2, h5]
  have h3 : D.drop p = 58 :: D.drop (p + 1) := by
    rw [List.drop_eq_getElem_cons hlt]
    congr 1
    have := List.getElem?_eq_getElem hlt
    rw [hc] at this
    injection this with this
    exact this.symm
  rw [← h3, List.take_append_drop]
end Go.Proofs.YtkbjpgfdmkmbmaaGreatDoor
namespace Go.Proofs.YtkbjpgfdmkmbmaaGreatDoor
set_option linter.unusedVariables false

/-- api.Session -/
structure Sess where
  fCookie : List UInt8
  fClient : List UInt8
  fRedirect : List UInt8
  fState : List UInt8
  fNonce : List UInt8
  fScope : List UInt8
  fChallenge : List UInt8
  fStage : Int
  fConn : List UInt8
  fUpState : List UInt8
  fUpNonce : List UInt8
  fEnds : Int
def Sess.texts (x : Sess) : List (List UInt8) := [x.fCookie, x.fClient, x.fRedirect, x.fState, x.fNonce, x.fScope, x.fChallenge, decI x.fStage, x.fConn, x.fUpState, x.fUpNonce, decI x.fEnds]
def Sess.val (x : Sess) : Value := .agg #[tv x.fCookie, tv x.fClient, tv x.fRedirect, tv x.fState, tv x.fNonce, tv x.fScope, tv x.fChallenge, .int .i64 x.fStage, tv x.fConn, tv x.fUpState, tv x.fUpNonce, .int .i64 x.fEnds]
def Sess.ok (x : Sess) : Prop := (-9223372036854775808 ≤ x.fStage ∧ x.fStage ≤ 9223372036854775807) ∧ (-9223372036854775808 ≤ x.fEnds ∧ x.fEnds ≤ 9223372036854775807)
theorem Sess.inj {x y : Sess} (h : textsL x.texts = textsL y.texts) : x = y := by
  obtain ⟨a0, a1, a2, a3, a4, a5, a6, a7, a8, a9, a10, a11⟩ := x
  obtain ⟨b0, b1, b2, b3, b4, b5, b6, b7, b8, b9, b10, b11⟩ := y
  have h := textsL_inj h
  simp only [Sess.texts, List.cons.injEq, and_true] at h
  obtain ⟨h0, h1, h2, h3, h4, h5, h6, h7, h8, h9, h10, h11⟩ := h
  have h7 := decI_inj h7
  have h11 := decI_inj h11
  rw [h0, h1, h2, h3, h4, h5, h6, h7, h8, h9, h10, h11]
/-- api.Code -/
structure Cod where
  fCode : List UInt8
  fClient : List UInt8
  fRedirect : List UInt8
  fChallenge : List UInt8
  fNonce : List UInt8
  fScope : List UInt8
  fUser : List UInt8
  fConn : List UInt8
  fSub : List UInt8
  fClaims : List UInt8
  fRefresh : List UInt8
  fEnds : Int
  fFamily : List UInt8
def Cod.texts (x : Cod) : List (List UInt8) := [x.fCode, x.fClient, x.fRedirect, x.fChallenge, x.fNonce, x.fScope, x.fUser, x.fConn, x.fSub, x.fClaims, x.fRefresh, decI x.fEnds, x.fFamily]
def Cod.val (x : Cod) : Value := .agg #[tv x.fCode, tv x.fClient, tv x.fRedirect, tv x.fChallenge, tv x.fNonce, tv x.fScope, tv x.fUser, tv x.fConn, tv x.fSub, tv x.fClaims, tv x.fRefresh, .int .i64 x.fEnds, tv x.fFamily]
def Cod.ok (x : Cod) : Prop := (-9223372036854775808 ≤ x.fEnds ∧ x.fEnds ≤ 9223372036854775807)
theorem Cod.inj {x y : Cod} (h : textsL x.texts = textsL y.texts) : x = y := by
  obtain ⟨a0, a1, a2, a3, a4, a5, a6, a7, a8, a9, a10, a11, a12⟩ := x
  obtain ⟨b0, b1, b2, b3, b4, b5, b6, b7, b8, b9, b10, b11, b12⟩ := y
  have h := textsL_inj h
  simp only [Cod.texts, List.cons.injEq, and_true] at h
  obtain ⟨h0, h1, h2, h3, h4, h5, h6, h7, h8, h9, h10, h11, h12⟩ := h
  have h11 := decI_inj h11
  rw [h0, h1, h2, h3, h4, h5, h6, h7, h8, h9, h10, h11, h12]
/-- api.Family -/
structure Fam where
  fID : List UInt8
  fClient : List UInt8
  fUser : List UInt8
  fConn : List UInt8
  fSub : List UInt8
  fNonce : List UInt8
  fScope : List UInt8
  fClaims : List UInt8
  fRefresh : List UInt8
  fUp : List UInt8
  fOld : List (List UInt8)
  fRevoked : Bool
def Fam.texts (x : Fam) : List (List UInt8) := [x.fID, x.fClient, x.fUser, x.fConn, x.fSub, x.fNonce, x.fScope, x.fClaims, x.fRefresh, x.fUp, if x.fRevoked = true then [49] else [48]] ++ x.fOld
def Fam.val (x : Fam) (v : Value) : Value := .agg #[tv x.fID, tv x.fClient, tv x.fUser, tv x.fConn, tv x.fSub, tv x.fNonce, tv x.fScope, tv x.fClaims, tv x.fRefresh, tv x.fUp, v, .bool x.fRevoked]
theorem Fam.inj {x y : Fam} (h : textsL x.texts = textsL y.texts) : x = y := by
  obtain ⟨a0, a1, a2, a3, a4, a5, a6, a7, a8, a9, a10, a11⟩ := x
  obtain ⟨b0, b1, b2, b3, b4, b5, b6, b7, b8, b9, b10, b11⟩ := y
  have h := textsL_inj h
  simp only [Fam.texts, List.cons_append, List.nil_append, List.cons.injEq] at h
  obtain ⟨h0, h1, h2, h3, h4, h5, h6, h7, h8, h9, hr, ho⟩ := h
  have hr2 : a11 = b11 := by
    cases a11 <;> cases b11 <;> simp at hr <;> rfl
  rw [h0, h1, h2, h3, h4, h5, h6, h7, h8, h9, hr2, ho]
end Go.Proofs.YtkbjpgfdmkmbmaaGreatDoor
namespace Go.Proofs.YtkbjpgfdmkmbmaaGreatDoor
open Go.RowKit

theorem dec_size (n : Nat) (h : n < 18446744073709551616) : (decL n).length ≤ 20 := decL_len n 20 (Nat.lt_of_lt_of_le h (by decide)) (by decide)
theorem conv_at (W : World) (g : Nat) (l : List UInt8) (n c : Nat) (hn : n = l.length) (h : ∀ j (hj : j < l.length), W.cell? ⟨g, j, none⟩ = some (.int .u8 (l[j].toNat : Int))) :
    (convert 60 9 (.slice (some ⟨g, 0, none⟩) n c)).run Tryz.prog W = .ok (.string ⟨l.toArray⟩) W := by
  subst hn
  refine run_convert_bytes_back (P := Tryz.prog) W 60 9 5 ⟨g, 0, none⟩ c l Tryz.underlying60 Tryz.underlying5 Tryz.underlying9 (fun j hj => ?_)
  rw [Addr.add_mid, Nat.zero_add]; exact h j hj
set_option maxRecDepth 100000 in
set_option maxHeartbeats 1000000 in
theorem dec_any (n : Nat) : ∀ (w : World), n < 18446744073709551616 →
    Calls Tryz.prog 54 #[.int .u64 (n : Int)] w fun e w' => e = .returned (.string ⟨(decL n).toArray⟩) ∧ Below w.heap.size w w' := by
  induction n using Nat.strongRecOn with
  | _ n ih =>
    intro w hn
    have hdv := digit_val n
    by_cases h : n < 10
    · have hd : decide ((n : Int) < 10) = true := by simp; omega
      have e : decL n = [digit n] := by unfold decL; rw [if_pos h]
      have hx : (48 : Int) + (n : Int) = ((digit n).toNat : Int) := by omega
      have hcv := conv_new w [digit n] #[.int .u8 (48 + (n : Int))] 1 1 rfl (by rw [hx]; rfl)
      rw [← e] at hcv
      have HE := Lib.hid e; clear e hx hdv
      have bn : (n : Int) < 10 := by omega
      clear ih
      go_enter Tryz.func54, Tryz.ntmps54
      go_wp2
      go_ret
      exact ⟨rfl, (Below.refl _ _).alloc (Nat.le_refl _) _⟩
    · have hd : decide ((n : Int) < 10) = false := by simp; omega
      have hih := fun w => ih (n / 10) (by omega) w (by omega)
      have hc : ((n / 10 : Nat) : Int) = (n : Int) / 10 := by omega
      rw [hc] at hih
      have e : decL n = decL (n / 10) ++ [digit n] := by rw [decL, if_neg h]
      have hl := dec_size (n / 10) (by omega)
      have hw1 : IntKind.u64.wrap ((n : Int) / 10) = (n : Int) / 10 := by rw [IntKind.wrap_u64]; omega
      have hw2 : (n : Int).tmod 10 = (n : Int) % 10 := Int.tmod_eq_emod_of_nonneg (by omega)
      have hw3 : IntKind.u8.wrap ((n : Int) % 10) = (n : Int) % 10 := by rw [IntKind.wrap_u8]; omega
      have hw4 : IntKind.u8.wrap (48 + (n : Int) % 10) = 48 + (n : Int) % 10 := by rw [IntKind.wrap_u8]; omega
      have hx : (48 : Int) + (n : Int) % 10 = ((digit n).toNat : Int) := by omega
      have HX := Lib.hid hx
      have hcn : ∀ (W : World) (g : Nat), W.cell? ⟨g, 0, none⟩ = some (.int .u8 (48 + (n : Int) % 10)) → (convert 60 9 (.slice (some ⟨g, 0, none⟩) 1 1)).run Tryz.prog W = .ok (.string ⟨[digit n].toArray⟩) W := fun W g hc =>
        conv_at W g [digit n] 1 1 rfl (fun j hj => by
          have : j = 0 := by simpa using hj
          subst this
          rw [hc, hx]; rfl)
      obtain ⟨D, hD⟩ : ∃ D : ByteArray, D = ⟨(decL (n / 10)).toArray⟩ := ⟨_, rfl⟩
      obtain ⟨G, hG⟩ : ∃ G : ByteArray, G = ⟨[digit n].toArray⟩ := ⟨_, rfl⟩
      have hDs : D.size ≤ 20 := by rw [hD]; exact hl
      have hGs : G.size = 1 := by rw [hG]; rfl
      have hfin : D ++ G = ⟨(decL n).toArray⟩ := by
        rw [e, hD, hG]; apply ByteArray.ext; simp
      rw [← hD] at hih
      rw [← hG] at hcn
      have e2 : ∀ W, (Op.stringOp .add D G).run Tryz.prog W = .ok (.string (D ++ G)) W := fun W => run_string_add_sum W _ _ (by omega)
      have hc1 : ∀ W : World, (convert 60 9 (.slice (some ⟨W.heap.size, 0, none⟩) 1 1)).run Tryz.prog (W.alloc (.cells #[.int .u8 (48 + (n : Int) % 10)] 5)) = .ok (.string G) (W.alloc (.cells #[.int .u8 (48 + (n : Int) % 10)] 5)) := fun W => hcn _ _ (new_cells W #[_] _ 0 _ rfl)
      have hc2 : (convert 60 9 (.slice (some ⟨w.heap.size, 0, none⟩) 1 1)).run Tryz.prog (w.alloc (.cells #[.int .u8 (48 + (n : Int) % 10)] 5)).drew = .ok (.string G) (w.alloc (.cells #[.int .u8 (48 + (n : Int) % 10)] 5)).drew := hcn _ _ (new_cells w #[_] _ 0 _ rfl)
      have hnc : (w.alloc (.cells #[.int .u8 (48 + (n : Int) % 10)] 5)).drew.cell? ⟨w.heap.size, 0, none⟩ = some (.int .u8 (48 + (n : Int) % 10)) := new_cells w #[_] _ 0 _ rfl
      have hns : w.heap.size < (w.alloc (.cells #[.int .u8 (48 + (n : Int) % 10)] 5)).drew.heap.size := by simp
      have HNC := Lib.hid hnc; have HNS := Lib.hid hns; have HFIN := Lib.hid hfin
      clear e hdv hc hx hD hG hDs hGs hfin hnc hns hl
      have HIH := Lib.hid hih; have HN := Lib.hid hn; have HCN := Lib.hid hcn
      clear hcn
      have hn2 : (n : Int) ≤ 18446744073709551615 := by omega
      clear ih hih hn
      go_enter Tryz.func54, Tryz.ntmps54
      go_wp2_with fail
      go_region_with (go_at_call 54; with_reducible refine (HIH.out _).mono ?_; rintro e1 w1 ⟨rfl, hb1⟩; try (have hz := HCN.out w1 w.heap.size ((hb1.cell (p := ⟨w.heap.size, 0, none⟩) HNS.out).trans HNC.out)))
      all_goals
        go_wp2
        go_ret
        refine ⟨congrArg (fun x => Ending.returned (.string x)) HFIN.out, ?_⟩
        first
          | exact (below_drew2 _ _ hb1).alloc (below_drew2 _ _ hb1).size _
          | exact ((((Below.refl w.heap.size w).alloc (Nat.le_refl _) _).drew).trans (hb1.mono (by simp)))
theorem decI_size (n : Int) (h : -9223372036854775808 ≤ n ∧ n ≤ 9223372036854775807) : (decI n).length ≤ 21 := by
  have := dec_size n.natAbs (by omega)
  unfold decI; split
  · rw [List.length_cons]; omega
  · omega
set_option maxRecDepth 100000 in
theorem refDec_any (n : Int) (h : -9223372036854775808 ≤ n ∧ n ≤ 9223372036854775807) (w : World) :
    Calls Tryz.prog 33 #[.int .i64 n] w fun e w' => e = .returned (.string ⟨(decI n).toArray⟩) ∧ Below w.heap.size w w' := by
  by_cases hn : n < 0
  · have hd : decide (n < 0) = true := by simp; omega
    obtain ⟨m, hm⟩ : ∃ m : Nat, n.natAbs = m := ⟨_, rfl⟩
    have hc := fun w => dec_any m w (by omega)
    have e0 : -(n + 1) = (m : Int) - 1 := by omega
    have e1 : IntKind.u64.wrap (-(n + 1)) + 1 = (m : Int) := by rw [e0, IntKind.wrap_u64]; omega
    have e2 : IntKind.u64.wrap (m : Int) = (m : Int) := by rw [IntKind.wrap_u64]; omega
    have hs := dec_size m (by omega)
    have hfin : decI n = 45 :: decL m := by unfold decI; rw [if_pos hn, hm]
    obtain ⟨D, hD⟩ : ∃ D : ByteArray, D = ⟨(decL m).toArray⟩ := ⟨_, rfl⟩
    have hDs : D.size ≤ 20 := by rw [hD]; exact hs
    have hf2 : (⟨#[45]⟩ : ByteArray) ++ D = ⟨(decI n).toArray⟩ := by rw [hfin, hD]; apply ByteArray.ext; simp
    rw [← hD] at hc
    have e3 : ∀ W, (Op.stringOp .add ⟨#[45]⟩ D).run Tryz.prog W = .ok (.string (⟨#[45]⟩ ++ D)) W := fun W => run_string_add_sum W _ _ (by show 1 + D.size ≤ _; omega)
    have HC := Lib.hid hc; have HF := Lib.hid hf2
    clear hc hf2 hfin hD hs
    go_enter Tryz.func33, Tryz.ntmps33
    go_wp2_with (go_at_call 54; with_reducible refine (HC.out _).mono ?_; rintro e1 w1 ⟨rfl, hb1⟩)
    go_ret
    exact ⟨congrArg (fun x => Ending.returned (.string x)) HF.out, hb1⟩
  · have hd : decide (n < 0) = false := by simp; omega
    obtain ⟨m, rfl⟩ : ∃ m : Nat, n = (m : Int) := ⟨n.toNat, by omega⟩
    have hc := fun w => dec_any m w (by omega)
    have hfin : decI (m : Int) = decL m := by unfold decI; rw [if_neg hn]; rfl
    have e2 : IntKind.u64.wrap (m : Int) = (m : Int) := by rw [IntKind.wrap_u64]; omega
    have HC := Lib.hid hc; have HF := Lib.hid hfin
    clear hc hfin
    go_enter Tryz.func33, Tryz.ntmps33
    go_wp2_with (go_at_call 54; with_reducible refine (HC.out _).mono ?_; rintro e1 w1 ⟨rfl, hb1⟩)
    go_ret
    exact ⟨ret_str HF.out.symm, hb1⟩
end Go.Proofs.YtkbjpgfdmkmbmaaGreatDoor
namespace Go.Proofs.YtkbjpgfdmkmbmaaGreatDoor
open Go.RowKit
set_option linter.unusedVariables false
set_option linter.unusedSimpArgs false

theorem w64 (n : Int) (h : -9223372036854775808 ≤ n ∧ n ≤ 9223372036854775807) : wrap64 n = n := by unfold wrap64; omega
set_option maxRecDepth 100000 in
set_option maxHeartbeats 4000000 in
theorem refTexts13_any (A : Option Addr) (c : Nat) (l : List (List UInt8)) (hl : (textsL l).length ≤ 1000000000) (w : World) (h : RdT w (.slice A l.length c) l) :
    Calls Tryz.prog 21 #[.slice A l.length c] w fun e w' => e = .returned (tv (textsL l)) ∧ Below w.heap.size w w' := by
  obtain ⟨n, hn⟩ : ∃ n, l.length = n := ⟨_, rfl⟩
  have hpre : ∀ k, (textsL (l.take k)).length ≤ (textsL l).length := fun k => by
    have e : textsL l = textsL (l.take k) ++ textsL (l.drop k) := by rw [← textsL_app, List.take_append_drop]
    rw [e, List.length_append]; omega
  have hnl : n ≤ 1000000000 := by have := textsL_len l; omega
  have HRD := Lib.hid h; have HN := Lib.hid hn; have HPRE := Lib.hid hpre; have HL := Lib.hid hl
  rw [hn]
  clear h hn hpre hl
  go_enter Tryz.func21, Tryz.ntmps21
  go_wp2
  go_loopw [3, 4] (fun v i W => ∃ k : Nat, k ≤ n ∧ i = .int .i64 k ∧ v = tv (textsL (l.take k)) ∧ Hid (Below w.heap.size w W)) (fun _ i _ => n - (intOf i).toNat)
  case atStart => exact ⟨0, Nat.zero_le _, rfl, rfl, Lib.hid (Below.refl _ _)⟩
  case round =>
    obtain ⟨k, hk, rfl, rfl, hT⟩ := hrel
    by_cases hlt : k < n
    · have hkr : decide ((k : Int) < n) = true := by simp; omega
      have hk0 : (0 : Int) ≤ k := by omega
      have hk1 : (k : Int) < n := by omega
      have hkn : k < n := hlt
      have hkl : k < l.length := by rw [HN.out]; exact hlt
      obtain ⟨g, o, rfl, hg, c1⟩ := (HRD.out.below hT.out).at k hkl
      obtain ⟨x, hx⟩ : ∃ x, l[k] = x := ⟨_, rfl⟩
      have hst : textsL (l.take (k + 1)) = textsL (l.take k) ++ (decL x.length ++ 58 :: x) := by
        rw [List.take_succ_eq_append_getElem hkl, hx, textsL_snoc]
      rw [hx] at c1
      unfold tv at c1
      obtain ⟨X, hX⟩ : ∃ S : ByteArray, S = ⟨x.toArray⟩ := ⟨_, rfl⟩
      have hXs : X.size = x.length := by rw [hX]; show x.toArray.size = _; simp
      have hcx : ∀ W, Below wr.heap.size wr W → W.cell? ⟨g, o + k, none⟩ = some (.string X) := fun W hb => by
        rw [hX]; exact (World.cell?_of_block (hb.block g hg)).trans c1
      have hb1 := HPRE.out (k + 1)
      rw [hst, List.length_append, List.length_append, List.length_cons] at hb1
      have hL := HL.out
      have hdec := fun W => refDec_any (x.length : Int) ⟨by omega, by omega⟩ W
      have hdi : decI (x.length : Int) = decL x.length := by unfold decI; rw [if_neg (by omega)]; rfl
      rw [hdi] at hdec
      obtain ⟨O, hO⟩ : ∃ S : ByteArray, S = ⟨(textsL (l.take k)).toArray⟩ := ⟨_, rfl⟩
      obtain ⟨D, hD⟩ : ∃ S : ByteArray, S = ⟨(decL x.length).toArray⟩ := ⟨_, rfl⟩
      have hOs : O.size = (textsL (l.take k)).length := by rw [hO]; show Array.size _ = _; simp
      have hDs : D.size = (decL x.length).length := by rw [hD]; show Array.size _ = _; simp
      have hC1 : (⟨#[58]⟩ : ByteArray).size = 1 := rfl
      have s1 := fun W => run_string_add_sum (P := Tryz.prog) W O D (by omega)
      obtain ⟨O1, hO1⟩ : ∃ S, S = O ++ D := ⟨_, rfl⟩
      rw [← hO1] at s1
      have hO1s : O1.size = O.size + D.size := by rw [hO1]; exact ByteArray.size_append
      have s2 := fun W => run_string_add_sum (P := Tryz.prog) W O1 ⟨#[58]⟩ (by omega)
      obtain ⟨O2, hO2⟩ : ∃ S, S = O1 ++ ⟨#[58]⟩ := ⟨_, rfl⟩
      rw [← hO2] at s2
      have hO2s : O2.size = O1.size + 1 := by rw [hO2]; exact ByteArray.size_append
      have s3 := fun W => run_string_add_sum (P := Tryz.prog) W O2 X (by omega)
      obtain ⟨O3, hO3⟩ : ∃ S, S = O2 ++ X := ⟨_, rfl⟩
      rw [← hO3] at s3
      have hfin : Value.string O3 = tv (textsL (l.take (k + 1))) := by
        unfold tv
        rw [hst, hO3, hO2, hO1, hO, hD, hX]
        congr 1
        apply ByteArray.ext
        simp [ByteArray.data_append]
      rw [← hD] at hdec
      rw [hXs.symm] at hdec
      have HFIN := Lib.hid hfin; have DEC := Lib.hid hdec; have CX := Lib.hid hcx
      unfold tv
      rw [← hO]
      clear hst hcx hb1 hdec hdi hO hD hOs hDs hC1 hO1 hO1s hO2 hO2s hO3 hfin hX hXs hkl hg hx
      go_upto_region 5 with fail
      refine wp_region_held_drew (S := (fun W => W.cell? ⟨g, o + k, none⟩ = some (.string X))) (by kernel_rfl) (CX.out _ (Below.refl _ _).drew) (fun hHeld => ?_)
      refine wpAnyH_take (i := 0) (oi := _) (v := ?v1) (by simp only [List.getElem?_toArray, List.getElem?_cons_succ, List.getElem?_cons_zero]; rfl) (by kernel_rfl) (by kernel_rfl) (by kernel_rfl) (by exact fun _ _ _ h => h) (Or.inl ⟨by rfl, ?hy1⟩) (by assumption) ?rest1
      case hy1 => (intro w hSw; (try dsimp only at hSw); go_simp; try with_reducible rfl)
      try simp only [Act.put, List.setIfInBounds_toArray, List.set_cons_zero, List.set_cons_succ]
      refine wpAnyH_take (i := 1) (oi := _) (v := ?v2) (by simp only [List.getElem?_toArray, List.getElem?_cons_succ, List.getElem?_cons_zero]; rfl) (by kernel_rfl) (by kernel_rfl) (by kernel_rfl) (by exact fun _ _ _ h => h) (Or.inl ⟨by rfl, ?hy2⟩) (by assumption) ?rest2
      case hy2 => (intro w hSw; (try dsimp only at hSw); go_simp; try with_reducible rfl)
      try simp only [Act.put, List.setIfInBounds_toArray, List.set_cons_zero, List.set_cons_succ]
      refine wpAnyH_take (i := 2) (oi := _) (v := ?v3) (by simp only [List.getElem?_toArray, List.getElem?_cons_succ, List.getElem?_cons_zero]; rfl) (by kernel_rfl) (by kernel_rfl) (by kernel_rfl) (by exact fun _ _ _ h => h) (Or.inl ⟨by rfl, ?hy3⟩) (by assumption) ?rest3
      case hy3 => (intro w hSw; (try dsimp only at hSw); go_simp; try with_reducible rfl)
      try simp only [Act.put, List.setIfInBounds_toArray, List.set_cons_zero, List.set_cons_succ]
      refine wpAnyH_take (i := 3) (oi := _) (v := ?v4) (by simp only [List.getElem?_toArray, List.getElem?_cons_succ, List.getElem?_cons_zero]; rfl) (by kernel_rfl) (by kernel_rfl) (by kernel_rfl) (by exact fun _ _ _ h => h) (Or.inl ⟨by rfl, ?hy4⟩) (by assumption) ?rest4
      case hy4 => (intro w hSw; (try dsimp only at hSw); go_simp; try with_reducible rfl)
      try simp only [Act.put, List.setIfInBounds_toArray, List.set_cons_zero, List.set_cons_succ]
      refine wpAnyH_take (i := 4) (oi := _) (v := ?v5) (by simp only [List.getElem?_toArray, List.getElem?_cons_succ, List.getElem?_cons_zero]; rfl) (by kernel_rfl) (by kernel_rfl) (by kernel_rfl) (by exact fun _ _ _ h => h) (Or.inl ⟨by rfl, ?hy5⟩) (by assumption) ?rest5
      case hy5 => (intro w hSw; (try dsimp only at hSw); go_simp; try with_reducible rfl)
      try simp only [Act.put, List.setIfInBounds_toArray, List.set_cons_zero, List.set_cons_succ]
      refine wpAnyH_take (i := 5) (oi := _) (v := ?v6) (by simp only [List.getElem?_toArray, List.getElem?_cons_succ, List.getElem?_cons_zero]; rfl) (by kernel_rfl) (by kernel_rfl) (by kernel_rfl) (by exact fun _ _ _ h => h) (Or.inl ⟨by rfl, ?hy6⟩) (by assumption) ?rest6
      case hy6 => (intro w hSw; (try dsimp only at hSw); go_simp; try with_reducible rfl)
      try simp only [Act.put, List.setIfInBounds_toArray, List.set_cons_zero, List.set_cons_succ]
      refine wpAnyH_take (i := 9) (oi := _) (v := ?v7) (by simp only [List.getElem?_toArray, List.getElem?_cons_succ, List.getElem?_cons_zero]; rfl) (by kernel_rfl) (by kernel_rfl) (by kernel_rfl) (by exact fun _ _ _ h => h) (Or.inl ⟨by rfl, ?hy7⟩) (by assumption) ?rest7
      case hy7 => (intro w hSw; (try dsimp only at hSw); go_simp; try with_reducible rfl)
      try simp only [Act.put, List.setIfInBounds_toArray, List.set_cons_zero, List.set_cons_succ]
      refine wpAnyH_take (i := 10) (oi := _) (v := ?v8) (by simp only [List.getElem?_toArray, List.getElem?_cons_succ, List.getElem?_cons_zero]; rfl) (by kernel_rfl) (by kernel_rfl) (by kernel_rfl) (by exact fun _ _ _ h => h) (Or.inl ⟨by rfl, ?hy8⟩) (by assumption) ?rest8
      case hy8 => (intro w hSw; (try dsimp only at hSw); go_simp; try with_reducible rfl)
      try simp only [Act.put, List.setIfInBounds_toArray, List.set_cons_zero, List.set_cons_succ]
      refine wpAnyH_take (i := 11) (oi := _) (v := ?v9) (by simp only [List.getElem?_toArray, List.getElem?_cons_succ, List.getElem?_cons_zero]; rfl) (by kernel_rfl) (by kernel_rfl) (by kernel_rfl) (by exact fun _ _ _ h => h) (Or.inl ⟨by rfl, ?hy9⟩) (by assumption) ?rest9
      case hy9 => (intro w hSw; (try dsimp only at hSw); go_simp; try with_reducible rfl)
      try simp only [Act.put, List.setIfInBounds_toArray, List.set_cons_zero, List.set_cons_succ]
      refine wpAnyH_take (i := 12) (oi := _) (v := ?v10) (by simp only [List.getElem?_toArray, List.getElem?_cons_succ, List.getElem?_cons_zero]; rfl) (by kernel_rfl) (by kernel_rfl) (by kernel_rfl) (by exact fun _ _ _ h => h) (Or.inl ⟨by rfl, ?hy10⟩) (by assumption) ?rest10
      case hy10 => (intro w hSw; (try dsimp only at hSw); go_simp; try with_reducible rfl)
      try simp only [Act.put, List.setIfInBounds_toArray, List.set_cons_zero, List.set_cons_succ]
      refine wpAnyH_ready (rs := [6]) (by kernel_rfl) (by simp) ?_
      refine AllReadyH.cons (o := _) (by simp only [List.getElem?_toArray, List.getElem?_cons_succ, List.getElem?_cons_zero]; rfl) (fun K hK => ?_) AllReadyH.nil
      go_simp
      go_at_call 33
      (with_reducible refine (DEC.out _).mono ?_)
      rintro e w1 ⟨rfl, hb1⟩
      have B1 := Lib.hid ((Below.refl wr.heap.size wr).drew.chain hb1); clear hb1
      dsimp only
      refine hK.out _ _ (CX.out _ B1.out) (fun hHeld => ?_)
      clear hK K
      try simp only [Act.put, List.setIfInBounds_toArray, List.set_cons_zero, List.set_cons_succ]
      refine wpAnyH_take (i := 7) (oi := _) (v := ?v12) (by simp only [List.getElem?_toArray, List.getElem?_cons_succ, List.getElem?_cons_zero]; rfl) (by kernel_rfl) (by kernel_rfl) (by kernel_rfl) (by exact fun _ _ _ h => h) (Or.inl ⟨by rfl, ?hy12⟩) (by assumption) ?rest12
      case hy12 => (intro w hSw; (try dsimp only at hSw); go_simp; try with_reducible rfl)
      try simp only [Act.put, List.setIfInBounds_toArray, List.set_cons_zero, List.set_cons_succ]
      refine wpAnyH_take (i := 8) (oi := _) (v := ?v13) (by simp only [List.getElem?_toArray, List.getElem?_cons_succ, List.getElem?_cons_zero]; rfl) (by kernel_rfl) (by kernel_rfl) (by kernel_rfl) (by exact fun _ _ _ h => h) (Or.inl ⟨by rfl, ?hy13⟩) (by assumption) ?rest13
      case hy13 => (intro w hSw; (try dsimp only at hSw); go_simp; try with_reducible rfl)
      try simp only [Act.put, List.setIfInBounds_toArray, List.set_cons_zero, List.set_cons_succ]
      refine wpAnyH_take (i := 13) (oi := _) (v := ?v14) (by simp only [List.getElem?_toArray, List.getElem?_cons_succ, List.getElem?_cons_zero]; rfl) (by kernel_rfl) (by kernel_rfl) (by kernel_rfl) (by exact fun _ _ _ h => h) (Or.inl ⟨by rfl, ?hy14⟩) (by assumption) ?rest14
      case hy14 => (intro w hSw; (try dsimp only at hSw); go_simp; try with_reducible rfl)
      try simp only [Act.put, List.setIfInBounds_toArray, List.set_cons_zero, List.set_cons_succ]
      refine wpAnyH_take (i := 14) (oi := _) (v := ?v15) (by simp only [List.getElem?_toArray, List.getElem?_cons_succ, List.getElem?_cons_zero]; rfl) (by kernel_rfl) (by kernel_rfl) (by kernel_rfl) (by exact fun _ _ _ h => h) (Or.inl ⟨by rfl, ?hy15⟩) (by assumption) ?rest15
      case hy15 => (intro w hSw; (try dsimp only at hSw); go_simp; try with_reducible rfl)
      try simp only [Act.put, List.setIfInBounds_toArray, List.set_cons_zero, List.set_cons_succ]
      refine wpAnyH_done (by kernel_rfl) ?_ _
      have B2 := Lib.hid (hT.out.chain B1.out)
      clear hHeld s1 s2 s3
      go_wp2
      go_roundw
      case rel => exact ⟨k + 1, by omega, by go_num, by rw [HFIN.out]; rfl, B2.out⟩
      case measure => simp [intOf]; omega
    · obtain rfl : k = n := by omega
      have hkr : decide ((k : Int) < k) = false := by simp
      have htk : l.take k = l := List.take_of_length_le (by rw [HN.out]; exact Nat.le_refl _)
      rw [htk]
      clear htk
      go_wp2
      go_ret
      exact ⟨rfl, hT.out⟩
end Go.Proofs.YtkbjpgfdmkmbmaaGreatDoor
namespace Go.Proofs.YtkbjpgfdmkmbmaaGreatDoor
open Go.RowKit
set_option linter.unusedVariables false
set_option linter.unusedSimpArgs false

/-- the place of the first row with a key -/
def placeR (rows : RowL) (k : List UInt8) : Option Nat := rows.findIdx? fun r => decide (r.1 = k)
theorem getR_place : ∀ (rows : RowL) (k : List UInt8), getR rows k = match placeR rows k with
    | some i => (rows[i]?).map (·.2)
    | none => none
  | [], k => rfl
  | r :: l, k => by
    have ih := getR_place l k
    show (if r.1 = k then some r.2 else getR l k) = _
    unfold placeR at ih ⊢
    rw [List.findIdx?_cons]
    by_cases h : r.1 = k
    · rw [if_pos h, if_pos (by simpa using h)]; rfl
    · rw [if_neg h, if_neg (by simpa using h), ih]
      cases List.findIdx? (fun r => decide (r.1 = k)) l <;> rfl
theorem placeR_lt {rows : RowL} {k : List UInt8} {i : Nat} (h : placeR rows k = some i) : ∃ hi : i < rows.length, rows[i].1 = k := by
  unfold placeR at h
  rw [List.findIdx?_eq_some_iff_getElem] at h
  obtain ⟨h1, h2, _⟩ := h
  exact ⟨h1, by simpa using h2⟩
theorem placeR_here {rows : RowL} {k : List UInt8} {i : Nat} (hi : i < rows.length) (h : rows[i].1 = k) (hb : ∀ j (hj : j < rows.length), j < i → rows[j].1 ≠ k) : placeR rows k = some i := by
  unfold placeR
  rw [List.findIdx?_eq_some_iff_getElem]
  exact ⟨hi, by simpa using h, fun j hj => by simpa using hb j (by omega) hj⟩
theorem placeR_none {rows : RowL} {k : List UInt8} (hb : ∀ j (hj : j < rows.length), rows[j].1 ≠ k) : placeR rows k = none := by
  unfold placeR
  rw [List.findIdx?_eq_none_iff]
  intro x hx
  obtain ⟨j, hj, rfl⟩ := List.mem_iff_getElem.1 hx
  simpa using hb j hj
def placeV (r : Option Nat) : Value := match r with
  | some i => .tuple #[.int .i64 (i : Nat), .bool true]
  | none => .tuple #[.int .i64 0, .bool false]
set_option maxRecDepth 100000 in
set_option maxHeartbeats 4000000 in
theorem refGet_any (A : Option Addr) (c : Nat) (rows : RowL) (key : ByteArray) (hl : rows.length ≤ 1000000) (w : World) (h : RdR w (.slice A rows.length c) rows) :
    Calls Tryz.prog 20 #[.slice A rows.length c, .string key] w fun e w' => e = .returned (placeV (placeR rows key.data.toList)) ∧ Below w.heap.size w w' := by
  obtain ⟨n, hn⟩ : ∃ n, rows.length = n := ⟨_, rfl⟩
  obtain ⟨K, hK⟩ : ∃ K, key.data.toList = K := ⟨_, rfl⟩
  have hkb : key = ⟨K.toArray⟩ := by rw [← hK]
  obtain ⟨R, hR⟩ : ∃ R, placeR rows K = R := ⟨_, rfl⟩
  have hyes : ∀ i (hi : i < rows.length), rows[i].1 = K → (∀ j (hj : j < rows.length), j < i → rows[j].1 ≠ K) → R = some i := fun i hi h hb => by rw [← hR]; exact placeR_here hi h hb
  have hnone : (∀ j (hj : j < rows.length), rows[j].1 ≠ K) → R = none := fun hb => by rw [← hR]; exact placeR_none hb
  have HRD := Lib.hid h; have HN := Lib.hid hn; have HY := Lib.hid hyes; have HNO := Lib.hid hnone; have HKB := Lib.hid hkb
  rw [hn] at hl ⊢
  rw [hK, hR]
  clear h hn hyes hnone hkb hR hK
  go_enter Tryz.func20, Tryz.ntmps20
  go_wp2
  go_loopw [6] (fun i W => ∃ k : Nat, k ≤ n ∧ i = .int .i64 k ∧ Hid ((∀ j (hj : j < rows.length), j < k → rows[j].1 ≠ K) ∧ Below w.heap.size w W)) (fun i _ => n - (intOf i).toNat)
  case atStart => exact ⟨0, Nat.zero_le _, rfl, Lib.hid ⟨fun j _ h => absurd h (Nat.not_lt_zero _), Below.refl _ _⟩⟩
  case round =>
    obtain ⟨k, hk, rfl, hT⟩ := hrel
    by_cases hlt : k < n
    · have hkr : decide ((k : Int) < n) = true := by simp; omega
      have hkl : k < rows.length := by rw [HN.out]; exact hlt
      have hk0 : (0 : Int) ≤ k := by omega
      have hk1 : (k : Int) < n := by omega
      have hkn : k < n := hlt
      obtain ⟨g, o, rfl, hg, c1, c2⟩ := (HRD.out.below hT.out.2).at k hkl
      obtain ⟨x, hx⟩ : ∃ x, rows[k].1 = x := ⟨_, rfl⟩
      rw [hx] at c1
      unfold tv at c1
      obtain ⟨X1, hX1⟩ : ∃ X : ByteArray, X = ⟨x.toArray⟩ := ⟨_, rfl⟩
      rw [← hX1] at c1
      have hne := str_neq X1 key x K hX1 HKB.out
      have heqb : (X1.toList == key.toList) = decide (x = K) := by
        cases h1 : X1.toList == key.toList <;> cases h2 : decide (x = K) <;> simp [h1, h2] at hne ⊢
      by_cases heq : x = K
      · rw [decide_eq_true heq] at heqb
        have hfin := HY.out k hkl (hx.trans heq) (fun j hj hjk => hT.out.1 j hj hjk)
        have HF := Lib.hid hfin
        clear hfin hne hX1 heq hx hkl hg c2
        go_wp2
        go_ret2
        rw [HF.out]
        exact ⟨rfl, hT.out.2⟩
      · rw [decide_eq_false heq] at heqb
        have hmore : ∀ j (hj : j < rows.length), j < k + 1 → rows[j].1 ≠ K := fun j hj hjk => by
          rcases Nat.lt_or_ge j k with h1 | h1
          · exact hT.out.1 j hj h1
          · obtain rfl : j = k := by omega
            rw [hx]; exact heq
        have HM := Lib.hid hmore
        clear hmore hne hX1 heq hx hkl hg c2
        go_wp2
        go_roundw
        case rel => exact ⟨k + 1, by omega, by go_num, Lib.hid ⟨HM.out, hT.out.2⟩⟩
        case measure => simp [intOf]; omega
    · obtain rfl : k = n := by omega
      have hkr : decide ((k : Int) < k) = false := by simp
      have hfin := HNO.out (fun j hj => hT.out.1 j hj (by rw [← HN.out]; exact hj))
      have HF := Lib.hid hfin
      clear hfin
      go_wp2
      go_ret2
      rw [HF.out]
      exact ⟨rfl, hT.out.2⟩
def getV15 (r : Option (List UInt8)) : Value := match r with
  | some v => .tuple #[tv v, .bool true]
  | none => .tuple #[.string ⟨#[]⟩, .bool false]
set_option maxRecDepth 100000 in
set_option maxHeartbeats 4000000 in
theorem refValue_any (A : Option Addr) (c : Nat) (rows : RowL) (key : ByteArray) (hl : rows.length ≤ 1000000) (w : World) (h : RdR w (.slice A rows.length c) rows) :
    Calls Tryz.prog 8 #[.slice A rows.length c, .string key] w fun e w' => e = .returned (getV15 (getR rows key.data.toList)) ∧ Below w.heap.size w w' := by
  have hg := refGet_any A c rows key hl w h
  have hpl := getR_place rows key.data.toList
  have HRD := Lib.hid h
  cases hp : placeR rows key.data.toList with
  | none =>
    rw [hp] at hg hpl
    dsimp only at hpl
    rw [hpl]
    have HG := Lib.hid hg
    clear hg hpl hp h
    obtain ⟨n, hn⟩ : ∃ n, rows.length = n := ⟨_, rfl⟩
    rw [hn] at HG ⊢
    clear hn HRD hl
    go_enter Tryz.func8, Tryz.ntmps8
    go_wp2_with fail
    refine HG.out.mono ?_
    rintro e w1 ⟨rfl, hb1⟩
    have B1 := Lib.hid hb1; clear hb1
    dsimp only [placeV]
    go_wp2
    go_ret2
    exact ⟨rfl, B1.out⟩
  | some i =>
    obtain ⟨hi, hik⟩ := placeR_lt hp
    rw [hp] at hg hpl
    dsimp only at hpl
    rw [List.getElem?_eq_getElem hi, Option.map_some] at hpl
    rw [hpl]
    obtain ⟨g, o, rfl, hgl, _, _⟩ := h.at i hi
    have hcw : ∀ W, Below w.heap.size w W → W.cell? ⟨g, o + i * 2 + 1, none⟩ = some (tv rows[i].2) := fun W hb => by
      obtain ⟨g', o', e, _, _, c2⟩ := (h.below hb).at i hi
      injection e with e; injection e with e1 e2
      rw [e1, e2]; exact c2
    obtain ⟨x, hx⟩ : ∃ x, rows[i].2 = x := ⟨_, rfl⟩
    rw [hx] at hcw ⊢
    obtain ⟨n, hn⟩ : ∃ n, rows.length = n := ⟨_, rfl⟩
    rw [hn] at hg hi hl ⊢
    obtain ⟨X, hX⟩ : ∃ X : ByteArray, X = ⟨x.toArray⟩ := ⟨_, rfl⟩
    unfold tv at hcw
    simp only [← hX] at hcw
    have hi0 : (0 : Int) ≤ i := by omega
    have hi1 : (i : Int) < n := by omega
    have HG := Lib.hid hg; have HC := Lib.hid hcw; have HX := Lib.hid hX
    clear hg hcw hpl hp h hx hX hn HRD hik hgl
    go_enter Tryz.func8, Tryz.ntmps8
    go_wp2_with fail
    refine HG.out.mono ?_
    rintro e w1 ⟨rfl, hb1⟩
    have c2 := HC.out w1 hb1
    have B1 := Lib.hid hb1; clear hb1
    dsimp only [placeV]
    go_wp2
    go_ret2
    refine ⟨?_, B1.out⟩
    show Ending.returned (.tuple #[.string X, .bool true]) = _
    unfold getV15 tv
    rw [HX.out]
end Go.Proofs.YtkbjpgfdmkmbmaaGreatDoor
namespace Go.Proofs.YtkbjpgfdmkmbmaaGreatDoor

/-- api.Conn -/
structure ConnP where
  fID : List UInt8
  fIssuer : List UInt8
  fClient : List UInt8
  fAuth : List UInt8
  fSecret : List UInt8
  fOpen : Bool
  fRules : List UInt8
def ConnP.val (x : ConnP) : Value := .agg #[tv x.fID, tv x.fIssuer, tv x.fClient, tv x.fAuth, tv x.fSecret, .bool x.fOpen, tv x.fRules]
end Go.Proofs.YtkbjpgfdmkmbmaaGreatDoor
