/- Texts merged by program, in build order: TextsPure, RowVals, JsonDec, RowRef, ValueRef, ConnVals, LinkPure, LinkRef, LinkSame, LinkStored, StoreSize, LawLinkA, LawLinkF, LawLinkR. -/
import Derived.Test.YtkbjpgfdmkmbmaaDoorG12
import Derived.Test.YtkbjpgfdmkmbmaaDoorG07
import Derived.Test.YtkbjpgfdmkmbmaaDoorG01
import Derived.Deep.RegionWith
import Derived.Deep.MidRow
import Derived.Test.YtkbjpgfdmkmbmaaDoorG03
import Derived.Deep.RegionLaw
import Derived.Deep.Cut
import Derived.Test.YtkbjpgfdmkmbmaaDoorG08
import Derived.Lib.AppendZeros
import Derived.Test.YtkbjpgfdmkmbmaaDoorG09
import Derived.Test.YtkbjpgfdmkmbmaaDoorG10
set_option linter.unusedVariables false
set_option linter.unusedSimpArgs false
namespace Go.Proofs.YtkbjpgfdmkmbmaaDoor
set_option linter.unusedVariables false

/-- the number of decimal digits -/
def dvalF (n : Nat) (c : UInt8) : Nat := n * 10 + (c.toNat - 48)
def dval (l : List UInt8) : Nat := l.foldl dvalF 0
theorem dval_nil : dval [] = 0 := rfl
theorem dval_snoc (l : List UInt8) (c : UInt8) : dval (l ++ [c]) = dval l * 10 + (c.toNat - 48) := by simp [dval, dvalF]
theorem dval_decL (n : Nat) : dval (decL n) = n := by
  induction n using Nat.strongRecOn with
  | _ n ih =>
    have hv := digit_val n
    by_cases h : n < 10
    · have e : decL n = [digit n] := by unfold decL; rw [if_pos h]
      rw [e]
      show 0 * 10 + ((digit n).toNat - 48) = n
      omega
    · have e : decL n = decL (n / 10) ++ [digit n] := by rw [decL, if_neg h]
      rw [e, dval_snoc, ih (n / 10) (by omega)]
      omega
theorem dval_more (a b : List UInt8) : dval a ≤ dval (a ++ b) := by
  induction b generalizing a with
  | nil => simp
  | cons c b ih =>
    have e : a ++ c :: b = (a ++ [c]) ++ b := by simp
    rw [e]
    have h1 := ih (a ++ [c])
    rw [dval_snoc] at h1
    omega
theorem decL_all (n : Nat) : ∀ c ∈ decL n, isDigit c = true := by
  induction n using Nat.strongRecOn with
  | _ n ih =>
    intro c hc
    by_cases h : n < 10
    · have e : decL n = [digit n] := by unfold decL; rw [if_pos h]
      rw [e, List.mem_singleton] at hc
      rw [hc]; exact digit_is n
    · have e : decL n = decL (n / 10) ++ [digit n] := by rw [decL, if_neg h]
      rw [e, List.mem_append, List.mem_singleton] at hc
      rcases hc with hc | rfl
      · exact ih (n / 10) (by omega) c hc
      · exact digit_is n
theorem isDigit_val {c : UInt8} (h : isDigit c = true) : 48 ≤ c.toNat ∧ c.toNat ≤ 57 := by
  unfold isDigit at h
  exact of_decide_eq_true h
theorem digit_of {c : UInt8} (h : isDigit c = true) (n : Nat) (hn : n % 10 = c.toNat - 48) : digit n = c := by
  have h1 := isDigit_val h
  apply UInt8.toNat_inj.1
  unfold digit
  rw [UInt8.toNat_ofNat']
  omega
/-- decimal digits without a nought ahead are those of their number -/
theorem decL_dval : ∀ (k : Nat) (d : List UInt8), d.length = k → d ≠ [] → (∀ c ∈ d, isDigit c = true) → (1 < d.length → d.head? ≠ some 48) → decL (dval d) = d ∧ (1 < d.length → 10 ^ (d.length - 1) ≤ dval d)
  | 0, d, hk, h0, _, _ => absurd (List.length_eq_zero_iff.1 hk) h0
  | 1, d, hk, h0, hd, _ => by
    obtain ⟨c, rfl⟩ := List.length_eq_one_iff.1 hk
    have hc := hd c (List.mem_singleton.2 rfl)
    have h1 := isDigit_val hc
    have e : dval [c] = c.toNat - 48 := by show 0 * 10 + (c.toNat - 48) = _; omega
    refine ⟨?_, fun h => absurd h (by simp)⟩
    rw [e]
    unfold decL
    rw [if_pos (by omega), digit_of hc _ (by omega)]
  | k + 2, d, hk, h0, hd, hz => by
    have hne : d ≠ [] := h0
    obtain ⟨d', c, rfl⟩ : ∃ d' c, d = d' ++ [c] := ⟨d.dropLast, d.getLast hne, (List.dropLast_concat_getLast hne).symm⟩
    rw [List.length_append, List.length_singleton] at hk
    have hk' : d'.length = k + 1 := by omega
    have hne' : d' ≠ [] := by intro e; rw [e] at hk'; simp at hk'
    have hc := hd c (by simp)
    have h1 := isDigit_val hc
    have hh : (d' ++ [c]).head? = d'.head? := by
      cases d' with
      | nil => exact absurd rfl hne'
      | cons x r => rfl
    have hz' : d'.head? ≠ some 48 := by rw [← hh]; exact hz (by rw [List.length_append, List.length_singleton]; omega)
    obtain ⟨i1, i2⟩ := decL_dval (k + 1) d' hk' hne' (fun x hx => hd x (by simp [hx])) (fun _ => hz')
    have hpos : 1 ≤ dval d' := by
      by_cases hk1 : 1 < d'.length
      · exact Nat.le_trans (Nat.one_le_pow _ _ (by decide)) (i2 hk1)
      · obtain ⟨x, rfl⟩ := List.length_eq_one_iff.1 (show d'.length = 1 by omega)
        have hx := isDigit_val (hd x (by simp))
        have hx2 : x.toNat ≠ 48 := fun e => hz' (by
          have : x = 48 := by apply UInt8.toNat_inj.1; rw [e]; rfl
          rw [this]; rfl)
        show 1 ≤ 0 * 10 + (x.toNat - 48)
        omega
    rw [dval_snoc]
    refine ⟨?_, fun _ => ?_⟩
    · rw [decL, if_neg (by omega), show (dval d' * 10 + (c.toNat - 48)) / 10 = dval d' by omega, i1, digit_of hc _ (by omega)]
    · rw [List.length_append, List.length_singleton, show d'.length + 1 - 1 = d'.length by omega]
      by_cases hk1 : 1 < d'.length
      · have h2 := i2 hk1
        have e : 10 ^ d'.length = 10 ^ (d'.length - 1) * 10 := by rw [← Nat.pow_succ]; congr 1; omega
        rw [e]; omega
      · rw [show d'.length = 1 by omega]; omega
/-- the digits of a number are told by what is behind them -/
theorem digits_cut : ∀ (a b x y : List UInt8), (∀ c ∈ a, isDigit c = true) → (∀ c ∈ b, isDigit c = true) → a ++ 58 :: x = b ++ 58 :: y → a = b ∧ x = y
  | [], [], x, y, _, _, h => by simp at h; exact ⟨rfl, h⟩
  | [], c :: b, x, y, _, hb, h => by
    simp at h
    have := hb c (List.mem_cons_self ..)
    rw [← h.1] at this; cases this
  | c :: a, [], x, y, ha, _, h => by
    simp at h
    have := ha c (List.mem_cons_self ..)
    rw [h.1] at this; cases this
  | c :: a, d :: b, x, y, ha, hb, h => by
    simp only [List.cons_append, List.cons.injEq] at h
    obtain ⟨h1, h2⟩ := digits_cut a b x y (fun c hc => ha c (List.mem_cons_of_mem _ hc)) (fun c hc => hb c (List.mem_cons_of_mem _ hc)) h.2
    exact ⟨by rw [h.1, h1], h2⟩
/-- a text with its length ahead -/
def oneT (t : List UInt8) : List UInt8 := decL t.length ++ 58 :: t
def textsL (l : List (List UInt8)) : List UInt8 := (l.map oneT).flatten
theorem textsL_nil : textsL [] = [] := rfl
theorem textsL_cons (t : List UInt8) (l : List (List UInt8)) : textsL (t :: l) = decL t.length ++ 58 :: (t ++ textsL l) := by
  show oneT t ++ textsL l = _
  unfold oneT
  simp
theorem textsL_app (a b : List (List UInt8)) : textsL (a ++ b) = textsL a ++ textsL b := by simp [textsL]
theorem textsL_snoc (a : List (List UInt8)) (t : List UInt8) : textsL (a ++ [t]) = textsL a ++ (decL t.length ++ 58 :: t) := by
  rw [textsL_app, textsL_cons, textsL_nil, List.append_nil]
theorem oneT_len (t : List UInt8) : t.length + 2 ≤ (oneT t).length := by
  unfold oneT
  have := decL_pos t.length
  rw [List.length_append, List.length_cons]; omega
theorem textsL_len : ∀ (l : List (List UInt8)), 2 * l.length + (l.map List.length).sum ≤ (textsL l).length
  | [] => Nat.le_refl _
  | t :: l => by
    have h := textsL_len l
    have h1 := oneT_len t
    have e : textsL (t :: l) = oneT t ++ textsL l := rfl
    rw [e, List.length_append, List.map_cons, List.sum_cons, List.length_cons]; omega
theorem textsL_first {t u r r' : List UInt8} (h : decL t.length ++ 58 :: (t ++ r) = decL u.length ++ 58 :: (u ++ r')) : t = u ∧ r = r' := by
  obtain ⟨h1, h2⟩ := digits_cut _ _ _ _ (decL_all _) (decL_all _) h
  have hl : t.length = u.length := by
    have := congrArg dval h1
    rwa [dval_decL, dval_decL] at this
  exact List.append_inj h2 hl
/-- texts ahead are the same ones -/
theorem textsL_pre : ∀ (pre l : List (List UInt8)) (r : List UInt8), textsL pre ++ r = textsL l → ∃ l', l = pre ++ l' ∧ r = textsL l'
  | [], l, r, h => ⟨l, rfl, h⟩
  | t :: pre, [], r, h => by
    rw [textsL_cons, textsL_nil] at h
    simp at h
  | t :: pre, u :: l, r, h => by
    rw [textsL_cons, textsL_cons] at h
    have h' : decL t.length ++ 58 :: (t ++ (textsL pre ++ r)) = decL u.length ++ 58 :: (u ++ textsL l) := by simpa using h
    obtain ⟨rfl, h2⟩ := textsL_first h'
    obtain ⟨l', rfl, h3⟩ := textsL_pre pre l r h2
    exact ⟨l', rfl, h3⟩
theorem textsL_inj {a b : List (List UInt8)} (h : textsL a = textsL b) : a = b := by
  obtain ⟨l', rfl, h2⟩ := textsL_pre a b [] (by rw [List.append_nil]; exact h)
  cases l' with
  | nil => simp
  | cons t l' => rw [textsL_cons] at h2; simp at h2
theorem decI_inj {n m : Int} (h : decI n = decI m) : n = m := by
  unfold decI at h
  have h45 : ∀ k : Nat, (45 : UInt8) ∉ decL k := fun k hk => by have := decL_all k 45 hk; cases this
  split at h <;> split at h
  · injection h with _ h
    have := congrArg dval h
    rw [dval_decL, dval_decL] at this
    omega
  · exact absurd (h ▸ List.mem_cons_self ..) (h45 _)
  · exact absurd (h ▸ List.mem_cons_self ..) (h45 _)
  · have := congrArg dval h
    rw [dval_decL, dval_decL] at this
    omega
/-- no nought ahead -/
theorem decL_head (n : Nat) : 1 < (decL n).length → (decL n).head? ≠ some 48 := by
  induction n using Nat.strongRecOn with
  | _ n ih =>
    intro hl
    by_cases h : n < 10
    · have e : decL n = [digit n] := by unfold decL; rw [if_pos h]
      rw [e] at hl; simp at hl
    · have e : decL n = decL (n / 10) ++ [digit n] := by rw [decL, if_neg h]
      have hp := decL_pos (n / 10)
      have hh : (decL n).head? = (decL (n / 10)).head? := by
        rw [e]
        cases hd : decL (n / 10) with
        | nil => rw [hd] at hp; simp at hp
        | cons x r => rfl
      rw [hh]
      by_cases h2 : 1 < (decL (n / 10)).length
      · exact ih (n / 10) (by omega) h2
      · intro hx
        have h10 : n / 10 < 10 := Nat.lt_of_not_le fun h10 => h2 (by
          have e2 : decL (n / 10) = decL (n / 10 / 10) ++ [digit (n / 10)] := by rw [decL, if_neg (by omega)]
          have := decL_pos (n / 10 / 10)
          rw [e2, List.length_append, List.length_singleton]; omega)
        have e3 : decL (n / 10) = [digit (n / 10)] := by unfold decL; rw [if_pos h10]
        rw [e3] at hx
        simp at hx
        have hv := digit_val (n / 10)
        rw [hx] at hv
        have : ((48 : UInt8).toNat : Int) = 48 := rfl
        omega
/-- digits up to a colon: those that were seen are its own -/
theorem scan_le {a x D : List UInt8} {p : Nat} (hD : D = a ++ 58 :: x) (hp : ∀ c ∈ D.take p, isDigit c = true) : p ≤ a.length := by
  refine Nat.le_of_not_lt fun h => ?_
  have h58 : (58 : UInt8) ∈ D.take p := by
    rw [List.mem_iff_getElem?]
    exact ⟨a.length, by rw [List.getElem?_take, if_pos h, hD]; simp⟩
  cases hp 58 h58
theorem scan_eq {a x D : List UInt8} {p : Nat} (ha : ∀ c ∈ a, isDigit c = true) (hD : D = a ++ 58 :: x) (hp : ∀ c ∈ D.take p, isDigit c = true) (hn : ∀ c, D[p]? = some c → isDigit c = false) : p = a.length := by
  have h1 := scan_le hD hp
  refine Nat.le_antisymm h1 (Nat.le_of_not_lt fun h => ?_)
  have he : D[p]? = some a[p] := by rw [hD, List.getElem?_append_left h, List.getElem?_eq_getElem h]
  have h2 := hn _ he
  rw [ha _ (List.getElem_mem h)] at h2
  cases h2
/-- what stands at the front of texts -/
theorem textsL_front {D : List UInt8} {l : List (List UInt8)} (h : D = textsL l) (h0 : D ≠ []) : ∃ t r, D = decL t.length ++ 58 :: (t ++ r) := by
  cases l with
  | nil => exact absurd h h0
  | cons t l => exact ⟨t, textsL l, by rw [h, textsL_cons]⟩
/-- what is seen of a front, and is none: at the end -/
theorem front_end {D : List UInt8} {l : List (List UInt8)} (h : D = textsL l) (h0 : D ≠ []) (hp : ∀ c ∈ D, isDigit c = true) : False := by
  obtain ⟨t, r, hD⟩ := textsL_front h h0
  have h1 := scan_le (p := D.length) hD (by rw [List.take_length]; exact hp)
  have h2 := congrArg List.length hD
  rw [List.length_append, List.length_cons] at h2
  omega
/-- too great a number -/
theorem front_great {D : List UInt8} {l : List (List UInt8)} {p : Nat} (h : D = textsL l) (h0 : D ≠ []) (hp : ∀ c ∈ D.take p, isDigit c = true) (hg : D.length < dval (D.take p)) : False := by
  obtain ⟨t, r, hD⟩ := textsL_front h h0
  have h1 := scan_le hD hp
  have h2 : D.take p = (decL t.length).take p := by rw [hD, List.take_append_of_le_length h1]
  have h3 := dval_more ((decL t.length).take p) ((decL t.length).drop p)
  rw [List.take_append_drop, dval_decL, ← h2] at h3
  have h4 := congrArg List.length hD
  rw [List.length_append, List.length_cons, List.length_append] at h4
  omega
/-- a front whose digits have ended -/
theorem front_stop {D : List UInt8} {l : List (List UInt8)} {p : Nat} {c : UInt8} (h : D = textsL l) (hc : D[p]? = some c) (hp : ∀ c ∈ D.take p, isDigit c = true) (hn : isDigit c = false) : p ≠ 0 ∧ c = 58 ∧ (1 < p → D.head? ≠ some 48) ∧ dval (D.take p) + p + 1 ≤ D.length := by
  have h0 : D ≠ [] := by intro e; rw [e] at hc; simp at hc
  obtain ⟨t, r, hD⟩ := textsL_front h h0
  have h1 : p = (decL t.length).length := scan_eq (decL_all _) hD hp (fun x hx => by rw [hc] at hx; injection hx with hx; rw [← hx]; exact hn)
  have hpos := decL_pos t.length
  have h2 : D.take p = decL t.length := by rw [hD, h1, List.take_left' rfl]
  have h4 := congrArg List.length hD
  rw [List.length_append, List.length_cons, List.length_append] at h4
  refine ⟨by omega, ?_, fun hp1 => ?_, ?_⟩
  · rw [hD, h1, List.getElem?_append_right (Nat.le_refl _), Nat.sub_self] at hc
    simp at hc
    exact hc.symm
  · have h5 := decL_head t.length (by omega)
    intro e
    apply h5
    rw [← e, hD]
    cases hd : decL t.length with
    | nil => rw [hd] at hpos; simp at hpos
    | cons x r => rfl
  · rw [h2, dval_decL]; omega
/-- a front that is one -/
theorem front_good {D : List UInt8} {p : Nat} (hc : D[p]? = some 58) (hp : ∀ c ∈ D.take p, isDigit c = true) (h0 : p ≠ 0) (hz : 1 < p → D.head? ≠ some 48) (hn : dval (D.take p) + p + 1 ≤ D.length) :
    ((D.drop (p + 1)).take (dval (D.take p))).length = dval (D.take p) ∧ D = decL ((D.drop (p + 1)).take (dval (D.take p))).length ++ 58 :: ((D.drop (p + 1)).take (dval (D.take p)) ++ D.drop (p + 1 + dval (D.take p))) := by
  have hlt : p < D.length := (List.getElem?_eq_some_iff.1 hc).1
  have hl : (D.take p).length = p := by rw [List.length_take]; omega
  have h1 : ((D.drop (p + 1)).take (dval (D.take p))).length = dval (D.take p) := by rw [List.length_take, List.length_drop]; omega
  refine ⟨h1, ?_⟩
  rw [h1]
  obtain ⟨h2, _⟩ := decL_dval p (D.take p) hl (by intro e; rw [e] at hl; exact h0 hl.symm) hp (fun hp1 => by
    rw [hl] at hp1
    have : (D.take p).head? = D.head? := by
      cases D with
      | nil => simp
      | cons x r => cases p with
        | zero => omega
        | succ p => rfl
    rw [this]; exact hz hp1)
  have h5 : (D.drop (p + 1)).take (dval (D.take p)) ++ D.drop (p + 1 + dval (D.take p)) = D.drop (p + 1) := by
    rw [← List.drop_drop (i := dval (D.take p)) (j := p + 1)]
    exact List.take_append_drop _ _
  rw [h2, h5]
  have h3 : D.drop p = 58 :: D.drop (p + 1) := by
    rw [List.drop_eq_getElem_cons hlt]
    congr 1
    have := List.getElem?_eq_getElem hlt
    rw [hc] at this
    injection this with this
    exact this.symm
  rw [← h3, List.take_append_drop]
end Go.Proofs.YtkbjpgfdmkmbmaaDoor
namespace Go.Proofs.YtkbjpgfdmkmbmaaDoor
set_option linter.unusedVariables false

/-- api.Session -/
structure Sess where
  fCookie : List UInt8
  fClient : List UInt8
  fRedirect : List UInt8
  fState : List UInt8
  fNonce : List UInt8
  fScope : List UInt8
  fChallenge : List UInt8
  fStage : Int
  fConn : List UInt8
  fUpState : List UInt8
  fUpNonce : List UInt8
  fEnds : Int
def Sess.texts (x : Sess) : List (List UInt8) := [x.fCookie, x.fClient, x.fRedirect, x.fState, x.fNonce, x.fScope, x.fChallenge, decI x.fStage, x.fConn, x.fUpState, x.fUpNonce, decI x.fEnds]
def Sess.val (x : Sess) : Value := .agg #[tv x.fCookie, tv x.fClient, tv x.fRedirect, tv x.fState, tv x.fNonce, tv x.fScope, tv x.fChallenge, .int .i64 x.fStage, tv x.fConn, tv x.fUpState, tv x.fUpNonce, .int .i64 x.fEnds]
def Sess.ok (x : Sess) : Prop := (-9223372036854775808 ≤ x.fStage ∧ x.fStage ≤ 9223372036854775807) ∧ (-9223372036854775808 ≤ x.fEnds ∧ x.fEnds ≤ 9223372036854775807)
theorem Sess.inj {x y : Sess} (h : textsL x.texts = textsL y.texts) : x = y := by
  obtain ⟨a0, a1, a2, a3, a4, a5, a6, a7, a8, a9, a10, a11⟩ := x
  obtain ⟨b0, b1, b2, b3, b4, b5, b6, b7, b8, b9, b10, b11⟩ := y
  have h := textsL_inj h
  simp only [Sess.texts, List.cons.injEq, and_true] at h
  obtain ⟨h0, h1, h2, h3, h4, h5, h6, h7, h8, h9, h10, h11⟩ := h
  have h7 := decI_inj h7
  have h11 := decI_inj h11
  rw [h0, h1, h2, h3, h4, h5, h6, h7, h8, h9, h10, h11]
/-- api.Code -/
structure Cod where
  fCode : List UInt8
  fClient : List UInt8
  fRedirect : List UInt8
  fChallenge : List UInt8
  fNonce : List UInt8
  fScope : List UInt8
  fUser : List UInt8
  fConn : List UInt8
  fSub : List UInt8
  fClaims : List UInt8
  fRefresh : List UInt8
  fEnds : Int
  fFamily : List UInt8
def Cod.texts (x : Cod) : List (List UInt8) := [x.fCode, x.fClient, x.fRedirect, x.fChallenge, x.fNonce, x.fScope, x.fUser, x.fConn, x.fSub, x.fClaims, x.fRefresh, decI x.fEnds, x.fFamily]
def Cod.val (x : Cod) : Value := .agg #[tv x.fCode, tv x.fClient, tv x.fRedirect, tv x.fChallenge, tv x.fNonce, tv x.fScope, tv x.fUser, tv x.fConn, tv x.fSub, tv x.fClaims, tv x.fRefresh, .int .i64 x.fEnds, tv x.fFamily]
def Cod.ok (x : Cod) : Prop := (-9223372036854775808 ≤ x.fEnds ∧ x.fEnds ≤ 9223372036854775807)
theorem Cod.inj {x y : Cod} (h : textsL x.texts = textsL y.texts) : x = y := by
  obtain ⟨a0, a1, a2, a3, a4, a5, a6, a7, a8, a9, a10, a11, a12⟩ := x
  obtain ⟨b0, b1, b2, b3, b4, b5, b6, b7, b8, b9, b10, b11, b12⟩ := y
  have h := textsL_inj h
  simp only [Cod.texts, List.cons.injEq, and_true] at h
  obtain ⟨h0, h1, h2, h3, h4, h5, h6, h7, h8, h9, h10, h11, h12⟩ := h
  have h11 := decI_inj h11
  rw [h0, h1, h2, h3, h4, h5, h6, h7, h8, h9, h10, h11, h12]
/-- api.Family -/
structure Fam where
  fID : List UInt8
  fClient : List UInt8
  fUser : List UInt8
  fConn : List UInt8
  fSub : List UInt8
  fNonce : List UInt8
  fScope : List UInt8
  fClaims : List UInt8
  fRefresh : List UInt8
  fUp : List UInt8
  fOld : List (List UInt8)
  fRevoked : Bool
def Fam.texts (x : Fam) : List (List UInt8) := [x.fID, x.fClient, x.fUser, x.fConn, x.fSub, x.fNonce, x.fScope, x.fClaims, x.fRefresh, x.fUp, if x.fRevoked = true then [49] else [48]] ++ x.fOld
def Fam.val (x : Fam) (v : Value) : Value := .agg #[tv x.fID, tv x.fClient, tv x.fUser, tv x.fConn, tv x.fSub, tv x.fNonce, tv x.fScope, tv x.fClaims, tv x.fRefresh, tv x.fUp, v, .bool x.fRevoked]
theorem Fam.inj {x y : Fam} (h : textsL x.texts = textsL y.texts) : x = y := by
  obtain ⟨a0, a1, a2, a3, a4, a5, a6, a7, a8, a9, a10, a11⟩ := x
  obtain ⟨b0, b1, b2, b3, b4, b5, b6, b7, b8, b9, b10, b11⟩ := y
  have h := textsL_inj h
  simp only [Fam.texts, List.cons_append, List.nil_append, List.cons.injEq] at h
  obtain ⟨h0, h1, h2, h3, h4, h5, h6, h7, h8, h9, hr, ho⟩ := h
  have hr2 : a11 = b11 := by
    cases a11 <;> cases b11 <;> simp at hr <;> rfl
  rw [h0, h1, h2, h3, h4, h5, h6, h7, h8, h9, hr2, ho]
end Go.Proofs.YtkbjpgfdmkmbmaaDoor
namespace Go.Proofs.YtkbjpgfdmkmbmaaDoor
open Go.RowKit

end Go.Proofs.YtkbjpgfdmkmbmaaDoor
namespace Go.Proofs.YtkbjpgfdmkmbmaaDoor
open Go.RowKit
set_option linter.unusedVariables false
set_option linter.unusedSimpArgs false

theorem w64 (n : Int) (h : -9223372036854775808 ≤ n ∧ n ≤ 9223372036854775807) : wrap64 n = n := by unfold wrap64; omega
end Go.Proofs.YtkbjpgfdmkmbmaaDoor
namespace Go.Proofs.YtkbjpgfdmkmbmaaDoor
open Go.RowKit
set_option linter.unusedVariables false
set_option linter.unusedSimpArgs false

/-- the place of the first row with a key -/
def placeR (rows : RowL) (k : List UInt8) : Option Nat := rows.findIdx? fun r => decide (r.1 = k)
theorem getR_place : ∀ (rows : RowL) (k : List UInt8), getR rows k = match placeR rows k with
    | some i => (rows[i]?).map (·.2)
    | none => none
  | [], k => rfl
  | r :: l, k => by
    have ih := getR_place l k
    show (if r.1 = k then some r.2 else getR l k) = _
    unfold placeR at ih ⊢
    rw [List.findIdx?_cons]
    by_cases h : r.1 = k
    · rw [if_pos h, if_pos (by simpa using h)]; rfl
    · rw [if_neg h, if_neg (by simpa using h), ih]
      cases List.findIdx? (fun r => decide (r.1 = k)) l <;> rfl
theorem placeR_lt {rows : RowL} {k : List UInt8} {i : Nat} (h : placeR rows k = some i) : ∃ hi : i < rows.length, rows[i].1 = k := by
  unfold placeR at h
  rw [List.findIdx?_eq_some_iff_getElem] at h
  obtain ⟨h1, h2, _⟩ := h
  exact ⟨h1, by simpa using h2⟩
theorem placeR_here {rows : RowL} {k : List UInt8} {i : Nat} (hi : i < rows.length) (h : rows[i].1 = k) (hb : ∀ j (hj : j < rows.length), j < i → rows[j].1 ≠ k) : placeR rows k = some i := by
  unfold placeR
  rw [List.findIdx?_eq_some_iff_getElem]
  exact ⟨hi, by simpa using h, fun j hj => by simpa using hb j (by omega) hj⟩
theorem placeR_none {rows : RowL} {k : List UInt8} (hb : ∀ j (hj : j < rows.length), rows[j].1 ≠ k) : placeR rows k = none := by
  unfold placeR
  rw [List.findIdx?_eq_none_iff]
  intro x hx
  obtain ⟨j, hj, rfl⟩ := List.mem_iff_getElem.1 hx
  simpa using hb j hj
def getV15 (r : Option (List UInt8)) : Value := match r with
  | some v => .tuple #[tv v, .bool true]
  | none => .tuple #[.string ⟨#[]⟩, .bool false]
end Go.Proofs.YtkbjpgfdmkmbmaaDoor
namespace Go.Proofs.YtkbjpgfdmkmbmaaDoor

/-- api.Conn -/
structure ConnP where
  fID : List UInt8
  fIssuer : List UInt8
  fClient : List UInt8
  fAuth : List UInt8
  fSecret : List UInt8
  fOpen : Bool
  fRules : List UInt8
def ConnP.val (x : ConnP) : Value := .agg #[tv x.fID, tv x.fIssuer, tv x.fClient, tv x.fAuth, tv x.fSecret, .bool x.fOpen, tv x.fRules]
end Go.Proofs.YtkbjpgfdmkmbmaaDoor
namespace Go.Proofs.YtkbjpgfdmkmbmaaDoor
set_option linter.unusedVariables false

def lkeyL (conn sub : List UInt8) : List UInt8 := 108 :: textsL [conn, sub]
theorem lkeyL_inj {c s c' s' : List UInt8} (h : lkeyL c s = lkeyL c' s') : c = c' ∧ s = s' := by
  unfold lkeyL at h
  injection h with _ h
  have := textsL_inj h
  simp only [List.cons.injEq, and_true] at this
  exact this
def userL (conn sub : List UInt8) : List UInt8 := conn ++ 58 :: sub
/-- the user, the changes, the error -/
def linkR (rows : RowL) (conn : List UInt8) (opn : Bool) (sub : List UInt8) : List UInt8 × List Ch × Int :=
  match getR rows (lkeyL conn sub) with
  | some v => (v, [], 0)
  | none => if opn = false then ([], [], 6) else if 32 ≤ (keysR rows [108]).length then ([], [], 7) else (userL conn sub, [⟨lkeyL conn sub, userL conn sub, false⟩], 0)
/-- the changes that take a link away -/
def unlinkR (rows : RowL) (conn sub : List UInt8) : List Ch × Bool :=
  match getR rows (lkeyL conn sub) with
  | some _ => ([⟨lkeyL conn sub, [], true⟩], true)
  | none => ([], false)
theorem lkeyL_len (c s : List UInt8) (h : c.length + s.length ≤ 1000000) : (lkeyL c s).length ≤ c.length + s.length + 17 := by
  unfold lkeyL
  have h1 := decL_len c.length 7 (Nat.lt_of_le_of_lt (show c.length ≤ 1000000 by omega) (by decide)) (by decide)
  have h2 := decL_len s.length 7 (Nat.lt_of_le_of_lt (show s.length ≤ 1000000 by omega) (by decide)) (by decide)
  rw [List.length_cons, textsL_cons, textsL_cons, textsL_nil]
  simp only [List.length_append, List.length_cons, List.length_nil]
  omega
end Go.Proofs.YtkbjpgfdmkmbmaaDoor
namespace Go.Proofs.YtkbjpgfdmkmbmaaDoor
open Go.RowKit
set_option linter.unusedVariables false
set_option linter.unusedSimpArgs false

theorem rdc_none (w : World) : RdC w (.slice none 0 0) [] := ⟨none, 0, rfl, Nat.le_refl _, fun k x hk => by simp at hk⟩
theorem one_ch {w : World} {b : Nat} {k v : List UInt8} {K V : ByteArray} {fr : Nat × Nat} (hk : tv k = .string K) (hv : tv v = .string V) (h : w.heap[b]? = some (.cells #[.string K, .string V, .bool false] 41 fr)) : RdC w (.slice (some ⟨b, 0, none⟩) 1 1) [⟨k, v, false⟩] :=
  ⟨_, 1, rfl, Nat.le_refl _, fun j x hj => by
    obtain rfl : j = 0 := by
      rcases j with _ | j
      · rfl
      · simp at hj
    obtain rfl : _ = x := Option.some.inj hj
    exact ⟨b, 0, rfl, (Array.getElem?_eq_some_iff.1 h).1, by rw [hk]; exact cell_here h, by rw [hv]; exact cell_here h, cell_here h⟩⟩
end Go.Proofs.YtkbjpgfdmkmbmaaDoor
namespace Go.Proofs.YtkbjpgfdmkmbmaaDoor
open Go.RowKit
set_option linter.unusedVariables false
set_option linter.unusedSimpArgs false

theorem ch_if {α : Type} (x y : Ch) (a b : α) : (if x.key = y.key then (if x.value = y.value then (if x.gone = y.gone then a else b) else b) else b) = if x = y then a else b := by
  obtain ⟨k, v, g⟩ := x
  obtain ⟨k', v', g'⟩ := y
  simp only [Ch.mk.injEq]
  by_cases h1 : k = k' <;> by_cases h2 : v = v' <;> by_cases h3 : g = g' <;> simp [h1, h2, h3]
end Go.Proofs.YtkbjpgfdmkmbmaaDoor
namespace Go.Proofs.YtkbjpgfdmkmbmaaDoor
open Go.RowKit
set_option linter.unusedVariables false
set_option linter.unusedSimpArgs false

def few15 (l : List Ch) : Bool := decide (l.length + sumC l < 20000) && decide (l.length ≤ 200)
variable {CT : World → (Nat → Prop) → Nat → TP → Prop} {CS : World → (Nat → Prop) → Nat → Nat → RowL → Prop}
set_option maxRecDepth 100000 in
set_option maxHeartbeats 4000000 in
theorem stored15_any (HT : TapeL CT) (H : CodeStore CT CS) (A : Option Addr) (c : Nat) (l : List Ch) (hl : l.length ≤ 200000000000000) (hz : ∀ x ∈ l, x.key.length ≤ 200000000000000 ∧ x.value.length ≤ 200000000000000) (w : World) (hrd : RoundsIn w) (h : RdC w (.slice A l.length c) l) (hown : ∀ g, (Value.slice A l.length c).ownBlock = some g → l.length ≠ 0 → g < w.heap.size)
    (hrec : few15 l = true → (recL l).length ≤ 1000000 ∧ (recL (allR (turnL [] l))).length ≤ 1000000) :
    Calls Tryd.prog 6 #[.slice A l.length c] w fun e w' => (few15 l = false ∧ e = .returned (.tuple #[.pointer none, .slice none 0 0, .bool false]) ∧ Below w.heap.size w w') ∨ (few15 l = true ∧ ∃ p v rows, e = .returned (.tuple #[.pointer (some ⟨p, 0, none⟩), v, .bool true]) ∧ (rows = turnL [] l ∨ rows = []) ∧ StoL CT CS w w' p rows (fun b => b < w.heap.size) ∧ RdR w' v rows) := by
  obtain ⟨n, hn⟩ : ∃ n, l.length = n := ⟨_, rfl⟩
  have hres : few15 l = (decide (n + sumC l < 20000) && decide (n ≤ 200)) := by unfold few15; rw [hn]
  have hmono := sumC_take l
  have HRC := Lib.hid h; have HN := Lib.hid hn; have HZ := Lib.hid hz; have RES := Lib.hid hres; have MONO := Lib.hid hmono; have HRD := Lib.hid hrd; have HOWN := Lib.hid hown; have HREC := Lib.hid hrec
  rw [hn] at hl ⊢
  clear h hn hz hres hmono hrd hown hrec
  have HH := Lib.hid H; have HHT := Lib.hid HT
  clear H HT
  go_enter Tryd.func6, Tryd.ntmps6
  go_wp2
  go_loopw [5, 6] (fun s i W => ∃ k sm : Nat, k ≤ n ∧ i = .int .i64 k ∧ s = .int .i64 sm ∧ Hid (sm = n + sumC (l.take k) ∧ (0 < k → sumC (l.take (k - 1)) + n < 20000) ∧ Below w.heap.size w W)) (fun _ i _ => n - (intOf i).toNat)
  case atStart => exact ⟨0, n, Nat.zero_le _, rfl, rfl, Lib.hid ⟨by simp [sumC], fun h => absurd h (Nat.lt_irrefl _), Below.refl _ _⟩⟩
  case round =>
    obtain ⟨k, sm, hk, rfl, rfl, hT⟩ := hrel
    by_cases hlt : k < n
    · have hkr : decide ((k : Int) < n) = true := by simp; omega
      by_cases hs : sm < 20000
      · have ds : decide ((sm : Int) < 20000) = true := by simp; omega
        have hkl : k < l.length := by rw [HN.out]; exact hlt
        have hk0 : (0 : Int) ≤ k := by omega
        have hk1 : (k : Int) < n := by omega
        obtain ⟨g, o, rfl, hg, c1, c2, -⟩ := (HRC.out.below hT.out.2.2).at k hkl
        obtain ⟨x, hx⟩ : ∃ x, l[k] = x := ⟨_, rfl⟩
        have hxz := HZ.out l[k] (List.getElem_mem hkl)
        have hst : sumC (l.take (k + 1)) = sumC (l.take k) + (x.key.length + x.value.length) := by
          rw [List.take_succ_eq_append_getElem hkl, hx, sumC_snoc]
        rw [hx] at c1 c2 hxz
        unfold tv at c1 c2
        obtain ⟨S1, hS1⟩ : ∃ S : ByteArray, S = ⟨x.key.toArray⟩ := ⟨_, rfl⟩
        obtain ⟨S2, hS2⟩ : ∃ S : ByteArray, S = ⟨x.value.toArray⟩ := ⟨_, rfl⟩
        have z1 : S1.size = x.key.length := by rw [hS1]; show x.key.toArray.size = _; simp
        have z2 : S2.size = x.value.length := by rw [hS2]; show x.value.toArray.size = _; simp
        rw [← hS1] at c1
        rw [← hS2] at c2
        obtain ⟨a1, ha1⟩ : ∃ n, S1.size = n := ⟨_, rfl⟩
        obtain ⟨a2, ha2⟩ : ∃ n, S2.size = n := ⟨_, rfl⟩
        have q1 : IntKind.i64.wrap ((sm : Int) + a1) = (sm : Int) + a1 := wraps_i64 _ (by omega) (by omega)
        have q2 : IntKind.i64.wrap ((sm : Int) + a1 + a2) = (sm : Int) + a1 + a2 := wraps_i64 _ (by omega) (by omega)
        have hnew : sm + a1 + a2 = n + sumC (l.take (k + 1)) := by have := hT.out.1; omega
        have hold : sumC (l.take k) + n < 20000 := by have := hT.out.1; omega
        have NEW := Lib.hid hnew; have OLD := Lib.hid hold
        clear hnew hold hst hxz hS1 hS2 z1 z2 hx hkl hg
        go_upto_region 5 with fail
        go_quiet (fail)
        go_wp2
        go_roundw
        case rel => exact ⟨k + 1, sm + a1 + a2, by omega, by go_num, by go_num, Lib.hid ⟨NEW.out, fun _ => OLD.out, belowDrewN hT.out.2.2 _⟩⟩
        case measure => simp [intOf]; omega
      · have ds : decide ((sm : Int) < 20000) = false := by simp; omega
        have hfin : few15 l = false := by
          rw [RES.out]
          have h1 := MONO.out k
          have h2 := hT.out.1
          rw [decide_eq_false (by omega)]; rfl
        have HF := Lib.hid hfin
        have ds2 : (20000 : Int) ≤ (sm : Int) := by omega
        clear hfin
        go_wp2
        go_ret3
        exact .inl ⟨HF.out, rfl, hT.out.2.2⟩
    · obtain rfl : k = n := by omega
      have hkr : decide ((k : Int) < k) = false := by simp
      have htk : l.take k = l := List.take_of_length_le (by rw [HN.out]; exact Nat.le_refl _)
      have h1 := hT.out.1
      rw [htk] at h1
      have hfin : few15 l = (decide (sm < 20000) && decide (k ≤ 200)) := by rw [RES.out, ← h1]
      have HF := Lib.hid hfin
      clear hfin h1 htk
      by_cases hs : sm < 20000
      · have ds : ¬ (20000 : Int) ≤ (sm : Int) := by omega
        by_cases h100 : k ≤ 200
        · have dk : ¬ (200 : Int) < (k : Int) := by omega
          have hf : few15 l = true := by rw [HF.out, decide_eq_true hs, decide_eq_true h100]; rfl
          have HG := Lib.hid hf
          clear hf
          have hkk : l.length = k := HN.out
          go_wp2_with fail
          refine (HHT.out.new wr).mono ?_
          rintro e w1 ⟨⟨q, T, rfl, hct, hTn⟩, hb1⟩
          have hlow1 := hT.out.2.2.chain hb1
          have hst := StoL.start (w0 := w) HH.out hct (fun b hb => Nat.le_trans hT.out.2.2.size (hTn b hb)) hlow1 (HRD.out.below hlow1)
          have HST := Lib.hid hst
          clear hct hTn hb1 hlow1 hst
          dsimp only
          go_wp2_with fail
          refine HST.out.mono ?_
          rintro e w2 ⟨p, rfl, hs2⟩
          have hdo := hs2.do_ HH.out A c l (by simp) HRD.out (HRC.out.below hs2.low) (by rw [hkk]; omega) (HREC.out HG.out).1 (HREC.out HG.out).2 (fun g h1 h2 => HOWN.out g h1 h2)
          have S2 := Lib.hid hs2; 
          rw [hkk] at hdo
          have HDO := Lib.hid hdo
          clear hs2 hdo
          dsimp only
          go_wp2_with fail
          refine HDO.out.mono ?_
          rintro e w3 ⟨r, rows', rfl, hs3, -, hcs⟩
          have S3 := Lib.hid hs3
          have nilR : ∀ W, RdR W (.slice none 0 0) [] := fun W => ⟨none, 0, rfl, Nat.le_refl _, fun _ => rfl, fun k r hk => by simp at hk⟩
          have htu := refTurn_any none 0 [] A c l (by decide) (by rw [hkk]; omega) w3 (nilR w3) (HRC.out.below hs3.low)
          rw [hkk] at htu
          have HTU := Lib.hid htu; have NR := Lib.hid nilR
          clear hs3 htu nilR
          dsimp only
          rcases hcs with ⟨rfl, hrows, -⟩ | ⟨rfl, hrows, -⟩ | ⟨rfl, hrows, -⟩
          · have HR := Lib.hid hrows
            clear hrows
            go_wp2_with fail
            refine HTU.out.mono ?_
            rintro e w4 ⟨⟨v, rfl, hq⟩, hb4⟩
            have Q4 := Lib.hid hq.rd; have B4 := Lib.hid hb4
            clear hq hb4
            dsimp only
            go_wp2
            go_ret3
            exact .inr ⟨HG.out, p, v, rows', rfl, .inl HR.out, (S3.out.later HHT.out HH.out B4.out).less (fun b hb => .inl hb), by rw [HR.out]; exact Q4.out⟩
          · have HR := Lib.hid hrows
            clear hrows
            go_wp2
            go_ret3
            exact .inr ⟨HG.out, p, _, rows', rfl, .inr HR.out, S3.out, by rw [HR.out]; exact NR.out _⟩
          · have HR := Lib.hid hrows
            clear hrows
            go_wp2
            go_ret3
            exact .inr ⟨HG.out, p, _, rows', rfl, .inr HR.out, S3.out, by rw [HR.out]; exact NR.out _⟩
        · have dk : (200 : Int) < (k : Int) := by omega
          have hf : few15 l = false := by rw [HF.out, decide_eq_false h100, Bool.and_false]
          have HG := Lib.hid hf
          clear hf
          go_wp2
          go_ret3
          exact .inl ⟨HG.out, rfl, hT.out.2.2⟩
      · have ds : (20000 : Int) ≤ (sm : Int) := by omega
        have hf : few15 l = false := by rw [HF.out, decide_eq_false hs]; rfl
        have HG := Lib.hid hf
        clear hf
        go_wp2
        go_ret3
        exact .inl ⟨HG.out, rfl, hT.out.2.2⟩
end Go.Proofs.YtkbjpgfdmkmbmaaDoor
namespace Go.Proofs.YtkbjpgfdmkmbmaaDoor
set_option linter.unusedVariables false

theorem recAll_size : ∀ (l : List Ch), (recAll l).length ≤ 12 * l.length + sumC l
  | [] => Nat.zero_le _
  | x :: l => by
    have := recAll_size l
    rw [recAll_cons, List.length_append, recOne_len, List.length_cons]
    simp only [sumC]
    have h : x.val.length ≤ x.value.length := by unfold Ch.val; split <;> simp
    omega
def sumR : RowL → Nat
  | [] => 0
  | r :: l => r.1.length + r.2.length + sumR l
theorem sumR_filter (p : List UInt8 × List UInt8 → Bool) : ∀ (l : RowL), sumR (l.filter p) ≤ sumR l
  | [] => Nat.le_refl _
  | r :: l => by
    have := sumR_filter p l
    rw [List.filter_cons]
    split
    · simp only [sumR]; omega
    · simp only [sumR]; omega
theorem sumR_ins (k v : List UInt8) : ∀ (p : Bool) (rows : RowL), sumR (insL k v p rows) ≤ sumR rows + (k.length + v.length)
  | true, rows => by rw [insL_placed]; have := sumR_filter (fun r : List UInt8 × List UInt8 => decide (r.1 ≠ k)) rows; omega
  | false, [] => by unfold insL; simp [sumR]
  | false, r :: rs => by
    rw [insL_cons]
    cases hl : Go.Op.bytesLess r.1 k with
    | true =>
      rw [if_neg (fun e => by cases e.2)]
      have := sumR_ins k v false rs
      simp only [List.nil_append, Bool.not_true, Bool.or_false]
      by_cases hk : r.1 = k
      · rw [if_pos hk]; simp only [List.nil_append, sumR]; omega
      · rw [if_neg hk]; simp only [List.cons_append, List.nil_append, sumR]; omega
    | false =>
      rw [if_pos ⟨rfl, rfl⟩]
      simp only [Bool.not_false, Bool.or_true]
      rw [insL_placed]
      have := sumR_filter (fun x : List UInt8 × List UInt8 => decide (x.1 ≠ k)) rs
      by_cases hk : r.1 = k
      · rw [if_pos hk]; simp only [List.cons_append, List.nil_append, sumR]; omega
      · rw [if_neg hk]; simp only [List.cons_append, List.nil_append, sumR]; omega
theorem sumR_turn : ∀ (l : List Ch) (rows : RowL), sumR (turnL rows l) ≤ sumR rows + sumC l
  | [], _ => Nat.le_refl _
  | x :: l, rows => by
    rw [turnL_cons]
    have h1 := sumR_turn l (turn1 rows x)
    have h2 := sumR_ins x.key x.value x.gone rows
    unfold turn1 at h1
    simp only [sumC]
    unfold turn1
    omega
theorem sumC_all : ∀ (rows : RowL), sumC (allR rows) = sumR rows
  | [] => rfl
  | r :: l => by
    show r.1.length + r.2.length + sumC (allR l) = _
    rw [sumC_all l]; rfl
theorem rec_all_le (rows : RowL) : (recL (allR rows)).length ≤ 4 + 12 * rows.length + sumR rows := by
  have := recAll_size (allR rows)
  rw [sumC_all] at this
  rw [recL_len]
  have h : (allR rows).length = rows.length := by simp [allR]
  omega
theorem sumR_mem : ∀ (rows : RowL) (r : List UInt8 × List UInt8), r ∈ rows → r.1.length + r.2.length ≤ sumR rows
  | x :: l, r, h => by
    simp only [sumR]
    rcases List.mem_cons.1 h with rfl | h
    · omega
    · have := sumR_mem l r h; omega
end Go.Proofs.YtkbjpgfdmkmbmaaDoor
namespace Go.Proofs.YtkbjpgfdmkmbmaaDoor
open Go.RowKit
set_option linter.unusedVariables false
set_option linter.unusedSimpArgs false

theorem few15_sizes {l : List Ch} (h : few15 l = true) : l.length ≤ 200 ∧ sumC l < 20000 ∧ (recL l).length ≤ 1000000 ∧ (recL (allR (turnL [] l))).length ≤ 1000000 ∧ (turnL [] l).length ≤ 200 ∧ ∀ r ∈ turnL [] l, r.1.length + r.2.length ≤ 20000 := by
  unfold few15 at h
  simp only [Bool.and_eq_true, decide_eq_true_eq] at h
  have h1 := recAll_size l
  have h2 := rec_all_le (turnL [] l)
  have h3 : sumR (turnL [] l) ≤ 0 + sumC l := sumR_turn l []
  have h4 : (turnL [] l).length ≤ 0 + l.length := turnL_len l []
  refine ⟨h.2, by omega, by rw [recL_len]; omega, by omega, by omega, fun r hr => ?_⟩
  have := sumR_mem _ r hr
  omega
/-- what the code's links do, over a store of just these rows, behind world w0 -/
structure CodeLink (w0 : World) (CS : World → (Nat → Prop) → Nat → Nat → RowL → Prop) : Prop where
  key : ∀ (w : World) (conn sub : List UInt8), Below w0.heap.size w0 w → conn.length + sub.length ≤ 2000 → Calls Tryd.prog 15 #[tv conn, tv sub] w fun e w' => e = .returned (tv (lkeyL conn sub)) ∧ Below w.heap.size w w'
  find : ∀ (w : World) (S : Nat → Prop) (p q : Nat) (rows : RowL) (conn sub : List UInt8), Below w0.heap.size w0 w → CS w S p q rows → conn.length + sub.length ≤ 2000 → Calls Tryd.prog 13 #[.pointer (some ⟨p, 0, none⟩), tv conn, tv sub] w fun e w' => e = .returned (getV (getR rows (lkeyL conn sub))) ∧ Below w.heap.size w w'
  resolve : ∀ (w : World) (S : Nat → Prop) (p q : Nat) (rows : RowL) (cn : ConnP) (sub : List UInt8), Below w0.heap.size w0 w → CS w S p q rows → cn.fID.length + sub.length ≤ 2000 → rows.length ≤ 100000 → Calls Tryd.prog 7 #[.pointer (some ⟨p, 0, none⟩), cn.val, tv sub] w fun e w' =>
    (∃ v, e = .returned (.tuple #[tv (linkR rows cn.fID cn.fOpen sub).1, v, .int .i64 (linkR rows cn.fID cn.fOpen sub).2.2]) ∧ RdC w' v (linkR rows cn.fID cn.fOpen sub).2.1 ∧ ∀ g, v.ownBlock = some g → (linkR rows cn.fID cn.fOpen sub).2.1.length ≠ 0 → w.heap.size ≤ g) ∧ Below w.heap.size w w'
  remove : ∀ (w : World) (S : Nat → Prop) (p q : Nat) (rows : RowL) (conn sub : List UInt8), Below w0.heap.size w0 w → CS w S p q rows → conn.length + sub.length ≤ 2000 → Calls Tryd.prog 9 #[.pointer (some ⟨p, 0, none⟩), tv conn, tv sub] w fun e w' =>
    (∃ v, e = .returned (.tuple #[v, .bool (unlinkR rows conn sub).2]) ∧ RdC w' v (unlinkR rows conn sub).1 ∧ ∀ g, v.ownBlock = some g → (unlinkR rows conn sub).1.length ≠ 0 → w.heap.size ≤ g) ∧ Below w.heap.size w w'
theorem CodeLink.later {w0 w1 : World} {CS : World → (Nat → Prop) → Nat → Nat → RowL → Prop} (K : CodeLink w0 CS) (hb : Below w0.heap.size w0 w1) : CodeLink w1 CS :=
  ⟨fun w c s h => K.key w c s (hb.chain h), fun w S p q rows c s h => K.find w S p q rows c s (hb.chain h), fun w S p q rows c s h => K.resolve w S p q rows c s (hb.chain h), fun w S p q rows c s h => K.remove w S p q rows c s (hb.chain h)⟩
variable {CT : World → (Nat → Prop) → Nat → TP → Prop} {CS : World → (Nat → Prop) → Nat → Nat → RowL → Prop}
theorem StoL.resolve {w0 w : World} (K : CodeLink w0 CS) {p : Nat} {rows : RowL} {F : Nat → Prop} (h : StoL CT CS w0 w p rows F) (cn : ConnP) (sub : List UInt8) (h1 : cn.fID.length + sub.length ≤ 2000) (h2 : rows.length ≤ 100000) : Calls Tryd.prog 7 #[.pointer (some ⟨p, 0, none⟩), cn.val, tv sub] w fun e w' =>
    (∃ v, e = .returned (.tuple #[tv (linkR rows cn.fID cn.fOpen sub).1, v, .int .i64 (linkR rows cn.fID cn.fOpen sub).2.2]) ∧ RdC w' v (linkR rows cn.fID cn.fOpen sub).2.1 ∧ ∀ g, v.ownBlock = some g → (linkR rows cn.fID cn.fOpen sub).2.1.length ≠ 0 → w.heap.size ≤ g) ∧ Below w.heap.size w w' := by
  obtain ⟨T, S, q, t, k1, k2, _⟩ := h.out
  exact K.resolve w S p q rows cn sub h.low k2 h1 h2
theorem StoL.find {w0 w : World} (K : CodeLink w0 CS) {p : Nat} {rows : RowL} {F : Nat → Prop} (h : StoL CT CS w0 w p rows F) (conn sub : List UInt8) (h1 : conn.length + sub.length ≤ 2000) : Calls Tryd.prog 13 #[.pointer (some ⟨p, 0, none⟩), tv conn, tv sub] w fun e w' => e = .returned (getV (getR rows (lkeyL conn sub))) ∧ Below w.heap.size w w' := by
  obtain ⟨T, S, q, t, k1, k2, _⟩ := h.out
  exact K.find w S p q rows conn sub h.low k2 h1
theorem StoL.remove {w0 w : World} (K : CodeLink w0 CS) {p : Nat} {rows : RowL} {F : Nat → Prop} (h : StoL CT CS w0 w p rows F) (conn sub : List UInt8) (h1 : conn.length + sub.length ≤ 2000) : Calls Tryd.prog 9 #[.pointer (some ⟨p, 0, none⟩), tv conn, tv sub] w fun e w' =>
    (∃ v, e = .returned (.tuple #[v, .bool (unlinkR rows conn sub).2]) ∧ RdC w' v (unlinkR rows conn sub).1 ∧ ∀ g, v.ownBlock = some g → (unlinkR rows conn sub).1.length ≠ 0 → w.heap.size ≤ g) ∧ Below w.heap.size w w' := by
  obtain ⟨T, S, q, t, k1, k2, _⟩ := h.out
  exact K.remove w S p q rows conn sub h.low k2 h1
/-- a store of nothing -/
theorem stored_none (HT : TapeL CT) (H : CodeStore CT CS) (w : World) (hrd : RoundsIn w) :
    Calls Tryd.prog 6 #[.slice none 0 0] w fun e w' => ∃ p v, e = .returned (.tuple #[.pointer (some ⟨p, 0, none⟩), v, .bool true]) ∧ StoL CT CS w w' p [] (fun b => b < w.heap.size) ∧ RdR w' v [] := by
  refine (stored15_any HT H none 0 [] (by decide) (fun x hx => by cases hx) w hrd (rdc_none w) (fun g hg => by cases hg) (fun _ => ⟨by rw [rec0_four]; decide, by rw [turnL_nil]; show (recL []).length ≤ _; rw [rec0_four]; decide⟩)).mono ?_
  rintro e w' (⟨h, _⟩ | ⟨_, p, v, rows, rfl, hr, hs, hv⟩)
  · exact absurd h (by decide)
  · obtain rfl : rows = [] := hr.elim (fun e => by rw [e, turnL_nil]) id
    exact ⟨p, v, rfl, hs, hv⟩
set_option maxRecDepth 100000 in
set_option maxHeartbeats 4000000 in
theorem answers15_any (HT : TapeL CT) (H : CodeStore CT CS) (w : World) (K : CodeLink w CS) (hrd : RoundsIn w) : Calls Tryd.prog 5 #[] w fun e w' => e = .returned (.bool true) ∧ Below w.heap.size w w' := by
  have hst := stored_none HT H w hrd
  have HST := Lib.hid hst; have KK := Lib.hid K
  clear hst HT H K hrd
  go_enter Tryd.func5, Tryd.ntmps5
  go_wp2_with fail
  refine HST.out.mono ?_
  rintro e w1 ⟨p, v, rfl, hs, -⟩
  have hres := hs.resolve KK.out ⟨[99], [], [], [], [], true, []⟩ [120] (by decide) (by decide)
  have el : linkR [] [99] true [120] = ([99, 58, 120], [⟨lkeyL [99] [120], [99, 58, 120], false⟩], 0) := rfl
  dsimp only at hres
  rw [el] at hres
  have HRES := Lib.hid hres; have S1 := Lib.hid hs
  clear hres hs el
  dsimp only
  go_wp2_with fail
  refine HRES.out.mono ?_
  rintro e w2 ⟨⟨v2, rfl, hr2, -⟩, hb2⟩
  have B2 := Lib.hid (S1.out.low.chain hb2)
  obtain ⟨A2, c2, rfl, -, -⟩ := hr2
  clear hb2
  dsimp only [tv]
  go_wp2
  go_ret
  exact ⟨rfl, B2.out⟩
end Go.Proofs.YtkbjpgfdmkmbmaaDoor
namespace Go.Proofs.YtkbjpgfdmkmbmaaDoor
open Go.RowKit
set_option linter.unusedVariables false
set_option linter.unusedSimpArgs false

theorem gone_ch {w : World} {b : Nat} {k : List UInt8} {K : ByteArray} {fr : Nat × Nat} (hk : tv k = .string K) (h : w.heap[b]? = some (.cells #[.string K, .string ⟨#[]⟩, .bool true] 41 fr)) : RdC w (.slice (some ⟨b, 0, none⟩) 1 1) [⟨k, [], true⟩] :=
  ⟨_, 1, rfl, Nat.le_refl _, fun j x hj => by
    obtain rfl : j = 0 := by
      rcases j with _ | j
      · rfl
      · simp at hj
    obtain rfl : _ = x := Option.some.inj hj
    exact ⟨b, 0, rfl, (Array.getElem?_eq_some_iff.1 h).1, by rw [hk]; exact cell_here h, cell_here h, cell_here h⟩⟩
end Go.Proofs.YtkbjpgfdmkmbmaaDoor
namespace Go.Proofs.YtkbjpgfdmkmbmaaDoor
open Go.RowKit
set_option linter.unusedVariables false
set_option linter.unusedSimpArgs false

end Go.Proofs.YtkbjpgfdmkmbmaaDoor
