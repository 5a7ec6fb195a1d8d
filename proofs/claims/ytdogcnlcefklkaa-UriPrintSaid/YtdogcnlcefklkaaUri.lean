/- URIs as functions of lists: nothing of the program. -/
import Derived.Test.YtdogcnlcefklkaaParts
import Derived.Test.YtdogcnlcefklkaaWords
import Derived.Lib.IndexMore
namespace Go.Proofs.Ytdogcnlcefklkaa

/-- a byte of a host -/
def hostB (c : UInt8) : Bool := decide (97 ≤ c.toNat ∧ c.toNat ≤ 122 ∨ 48 ≤ c.toNat ∧ c.toNat ≤ 57 ∨ c.toNat = 45 ∨ c.toNat = 46 ∨ c.toNat = 58)
/-- one of the ten that no URI has -/
def oddB (c : UInt8) : Bool := decide (c.toNat = 34 ∨ c.toNat = 35 ∨ c.toNat = 60 ∨ c.toNat = 62 ∨ c.toNat = 92 ∨ c.toNat = 94 ∨ c.toNat = 96 ∨ c.toNat = 123 ∨ c.toNat = 124 ∨ c.toNat = 125)
def charB (c : UInt8) : Bool := decide (33 ≤ c.toNat) && decide (c.toNat ≤ 126) && !oddB c

/-- all bytes are such as may be -/
def okL (l : List UInt8) : Bool := l.all charB
def codeOdd : List UInt8 := [35, 34, 60, 62, 92, 94, 96, 123, 124, 125]
def refOdd : List UInt8 := [34, 35, 60, 62, 92, 94, 96, 123, 124, 125]
theorem odd_all : ∀ n : Nat, n < 256 → (decide (0 ≤ Lib.indexByte codeOdd (UInt8.ofNat n)) = oddB (UInt8.ofNat n) ∧ decide (atL (UInt8.ofNat n) refOdd < 10) = oddB (UInt8.ofNat n)) := by decide +kernel
theorem of_all (c : UInt8) : UInt8.ofNat c.toNat = c := by simp
theorem odd_code (c : UInt8) : decide (0 ≤ Lib.indexByte codeOdd c) = oddB c := by have := (odd_all c.toNat c.toNat_lt).1; rwa [of_all] at this
theorem odd_ref (c : UInt8) : decide (atL c refOdd < 10) = oddB c := by have := (odd_all c.toNat c.toNat_lt).2; rwa [of_all] at this
theorem host_slash : hostB 47 = false := by decide

abbrev Quad := List UInt8 × List UInt8 × List UInt8 × List UInt8
def noU : Quad := ([], [], [], [])
def httpL : List UInt8 := [104, 116, 116, 112]
def httpsL : List UInt8 := [104, 116, 116, 112, 115]
/-- what stands behind the scheme: the path's front, and the parts -/
def frontL (r : List UInt8) : List UInt8 := r.take (atL 63 r)
def queryL (r : List UInt8) : List UInt8 := r.drop (atL 63 r + 1)
def restU (sch r : List UInt8) : Option Quad :=
  if (frontL r).take (atL 47 (frontL r)) ≠ [] ∧ ((frontL r).take (atL 47 (frontL r))).all hostB = true then
    some (sch, (frontL r).take (atL 47 (frontL r)), (frontL r).drop (atL 47 (frontL r)), queryL r) else none
def uriL (l : List UInt8) : Option Quad :=
  if okL l = true then
    (if l.take 7 = httpL ++ [58, 47, 47] then restU httpL (l.drop 7) else if l.take 8 = httpsL ++ [58, 47, 47] then restU httpsL (l.drop 8) else none) else none
def uriE (l : List UInt8) : Int := if 4096 < l.length then 3 else if (uriL l).isNone then 2 else 0
def uriV (l : List UInt8) : Quad := if 4096 < l.length then noU else (uriL l).getD noU
def printL (q : Quad) : List UInt8 := q.1 ++ [58, 47, 47] ++ q.2.1 ++ q.2.2.1 ++ (if q.2.2.2 = [] then [] else 63 :: q.2.2.2)

/-! ## the host's end -/
def endL : List UInt8 → Nat
  | [] => 0
  | c :: r => if hostB c then endL r + 1 else 0
theorem endL_le (l : List UInt8) : endL l ≤ l.length := by
  induction l with
  | nil => simp [endL]
  | cons c r ih => unfold endL; split <;> simp <;> omega
theorem endL_is (l : List UInt8) (k : Nat) (hk : k ≤ l.length) (hb : ∀ j (hj : j < l.length), j < k → hostB l[j] = true) (hh : ∀ h : k < l.length, hostB l[k] = false) : endL l = k := by
  induction l generalizing k with
  | nil => simp at hk; subst hk; rfl
  | cons c r ih =>
    cases k with
    | zero =>
      have := hh (by simp)
      simp at this
      simp [endL, this]
    | succ k =>
      have h0 := hb 0 (by simp) (by omega)
      simp at h0
      simp [endL, h0]
      exact ih k (by simpa using hk) (fun j hj hjk => by have := hb (j + 1) (by simp; omega) (by omega); simpa using this) (fun h => by have := hh (by simp; omega); simpa using this)
theorem endL_take (l : List UInt8) : (l.take (endL l)).all hostB = true := by
  induction l with
  | nil => rfl
  | cons c r ih =>
    unfold endL
    split
    · next h => simp only [List.take_succ_cons, List.all_cons, h, ih]; rfl
    · rfl
theorem endL_stop (l : List UInt8) (h : endL l < l.length) : hostB l[endL l] = false := by
  induction l with
  | nil => simp at h
  | cons c r ih =>
    by_cases e : hostB c = true
    · have e' : endL (c :: r) = endL r + 1 := by simp [endL, e]
      simp only [e'] at h ⊢
      simp at h ⊢
      exact ih h
    · have e' : endL (c :: r) = 0 := by simp [endL, e]
      simp only [e']
      simpa using e
/-- the first / ends the host, or the host's end is no / -/
theorem end_slash (l : List UInt8) (h : endL l = l.length ∨ ∃ h : endL l < l.length, l[endL l] = 47) : endL l = atL 47 l := by
  refine (atL_is 47 l (endL l) (endL_le l) ?_ ?_).symm
  · intro j hj hjk e
    have h1 := endL_take l
    rw [List.all_eq_true] at h1
    have := h1 l[j] (by rw [List.mem_take_iff_getElem]; exact ⟨j, by omega, rfl⟩)
    rw [e, host_slash] at this; cases this
  · intro hlt
    rcases h with h | ⟨h', h⟩
    · omega
    · exact h
theorem end_all (l : List UInt8) (h : (l.take (atL 47 l)).all hostB = true) : endL l = atL 47 l := by
  have hle := atL_le 47 l
  rw [List.all_eq_true] at h
  refine endL_is l _ hle (fun j hj hjk => h _ (by rw [List.mem_take_iff_getElem]; exact ⟨j, by omega, rfl⟩)) (fun hlt => ?_)
  rw [atL_hit 47 l hlt]; exact host_slash
theorem restU_some {r : List UInt8} (sch : List UInt8) (h0 : endL (frontL r) ≠ 0) (h : endL (frontL r) = (frontL r).length ∨ ∃ h : endL (frontL r) < (frontL r).length, (frontL r)[endL (frontL r)] = 47) :
    restU sch r = some (sch, (frontL r).take (endL (frontL r)), (frontL r).drop (endL (frontL r)), queryL r) := by
  have e := end_slash _ h
  have hle := endL_le (frontL r)
  have hne : (frontL r).take (endL (frontL r)) ≠ [] := by
    intro he
    have := congrArg List.length he
    rw [List.length_take, List.length_nil] at this
    omega
  have hall := endL_take (frontL r)
  unfold restU
  rw [← e, if_pos ⟨hne, hall⟩]
theorem restU_none {r : List UInt8} (sch : List UInt8) (h : endL (frontL r) = 0 ∨ ∃ h : endL (frontL r) < (frontL r).length, (frontL r)[endL (frontL r)] ≠ 47) : restU sch r = none := by
  unfold restU
  rw [if_neg]
  rintro ⟨h1, h2⟩
  have e := end_all _ h2
  rcases h with h | ⟨hlt, h⟩
  · rw [← e, h] at h1; simp at h1
  · have hlt' : atL 47 (frontL r) < (frontL r).length := by omega
    have := atL_hit 47 (frontL r) hlt'
    apply h
    simp only [e]; exact this

/-! ## Cut at :// -/
theorem cut_http (sch r : List UInt8) (hs : ∀ c ∈ sch, c ≠ 58) : Lib.cut (sch ++ [58, 47, 47] ++ r) [58, 47, 47] = (sch, r, true) := by
  have hi : Lib.index (sch ++ [58, 47, 47] ++ r) [58, 47, 47] = sch.length := by
    refine Lib.index_first (by simp) ?_ ?_
    · unfold Lib.occAt
      simp [List.append_assoc]
    · intro j hj
      unfold Lib.occAt
      have hj' : j < (sch ++ [58, 47, 47] ++ r).length := by simp; omega
      rw [List.drop_eq_getElem_cons hj']
      have : (sch ++ [58, 47, 47] ++ r)[j] = sch[j] := by simp [hj]
      rw [this]
      have hne := hs sch[j] (List.getElem_mem hj)
      have hbe : ((58 : UInt8) == sch[j]) = false := by simp; exact fun e => hne e.symm
      simp [List.isPrefixOf, hbe]
  unfold Lib.cut
  rw [hi, if_pos (by omega)]
  simp [List.append_assoc]
theorem cut_found {l sep : List UInt8} (h : (Lib.cut l sep).2.2 = true) : l = (Lib.cut l sep).1 ++ sep ++ (Lib.cut l sep).2.1 := by
  unfold Lib.cut at h ⊢
  by_cases h0 : 0 ≤ Lib.index l sep
  · rw [if_pos h0]
    rcases Lib.index_spec l sep with ⟨h1, _⟩ | ⟨i, h1, h2, h3, _⟩
    · omega
    · have hr := Lib.index_room l sep h0
      rw [h1] at hr
      simp only [h1, Int.toNat_natCast]
      by_cases hs : sep = []
      · subst hs; simp
      · have ht := (Lib.occAt_iff_take l sep i (by omega)).symm.trans h3
        have ht' : (l.drop i).take sep.length = sep := by simpa using ht
        conv => lhs; rw [← List.take_append_drop i l, ← List.take_append_drop sep.length (l.drop i), ht', List.drop_drop]
        rw [List.append_assoc]
  · rw [if_neg h0] at h; cases h
theorem take_app (a r : List UInt8) (n : Nat) (h : n = a.length) : (a ++ r).take n = a := by subst h; simp
theorem drop_app (a r : List UInt8) (n : Nat) (h : n = a.length) : (a ++ r).drop n = r := by subst h; simp
theorem uri_http {l a r : List UInt8} (hc : okL l = true) (hcut : Lib.cut l [58, 47, 47] = (a, r, true)) (ha : a = httpL) : uriL l = restU httpL r := by
  have h := cut_found (l := l) (sep := [58, 47, 47]) (by rw [hcut])
  rw [hcut] at h
  dsimp only at h
  subst ha
  subst h
  unfold uriL
  rw [if_pos hc, if_pos (take_app (httpL ++ [58, 47, 47]) r 7 rfl), drop_app (httpL ++ [58, 47, 47]) r 7 rfl]
theorem uri_https {l a r : List UInt8} (hc : okL l = true) (hcut : Lib.cut l [58, 47, 47] = (a, r, true)) (ha : a = httpsL) : uriL l = restU httpsL r := by
  have h := cut_found (l := l) (sep := [58, 47, 47]) (by rw [hcut])
  rw [hcut] at h
  dsimp only at h
  subst ha
  subst h
  unfold uriL
  rw [if_pos hc, if_neg (by simp [httpL, httpsL]), if_pos (take_app (httpsL ++ [58, 47, 47]) r 8 rfl), drop_app (httpsL ++ [58, 47, 47]) r 8 rfl]
theorem uri_other {l a r : List UInt8} {f : Bool} (hcut : Lib.cut l [58, 47, 47] = (a, r, f)) (h : f = false ∨ a ≠ httpL ∧ a ≠ httpsL) : uriL l = none := by
  unfold uriL
  by_cases hc : okL l = true
  · rw [if_pos hc]
    by_cases h1 : l.take 7 = httpL ++ [58, 47, 47]
    · exfalso
      have e := cut_http httpL (l.drop 7) (by decide)
      rw [← h1, List.take_append_drop, hcut] at e
      injection e with e1 e2; injection e2 with e3 e4
      rcases h with h | h
      · subst h; cases e4
      · exact h.1 e1
    · rw [if_neg h1]
      by_cases h2 : l.take 8 = httpsL ++ [58, 47, 47]
      · exfalso
        have e := cut_http httpsL (l.drop 8) (by decide)
        rw [← h2, List.take_append_drop, hcut] at e
        injection e with e1 e2; injection e2 with e3 e4
        rcases h with h | h
        · subst h; cases e4
        · exact h.2 e1
      · rw [if_neg h2]
  · rw [if_neg hc]
theorem uri_large {l : List UInt8} (h : 4096 < l.length) : uriE l = 3 ∧ uriV l = noU := by unfold uriE uriV; rw [if_pos h, if_pos h]; exact ⟨rfl, rfl⟩
theorem uri_bad {l : List UInt8} (h : l.length ≤ 4096) (h' : uriL l = none) : uriE l = 2 ∧ uriV l = noU := by
  have hn : ¬ 4096 < l.length := by omega
  unfold uriE uriV; rw [if_neg hn, if_neg hn, h']; exact ⟨rfl, rfl⟩
theorem uri_good {l : List UInt8} {q : Quad} (h : l.length ≤ 4096) (h' : uriL l = some q) : uriE l = 0 ∧ uriV l = q := by
  have hn : ¬ 4096 < l.length := by omega
  unfold uriE uriV; rw [if_neg hn, if_neg hn, h']; exact ⟨rfl, rfl⟩
theorem uri_char {l : List UInt8} (h : okL l = false) : uriL l = none := by unfold uriL; rw [if_neg (by simp [h])]

/-! ## the parts make it again -/
theorem restU_again {sch r : List UInt8} {q : Quad} (h : restU sch r = some q) : printL q = sch ++ [58, 47, 47] ++ r ∨ printL q ++ [63] = sch ++ [58, 47, 47] ++ r := by
  unfold restU at h
  split at h
  · injection h with h
    subst h
    have e : ∀ z, sch ++ [58, 47, 47] ++ (frontL r).take (atL 47 (frontL r)) ++ (frontL r).drop (atL 47 (frontL r)) ++ z = sch ++ [58, 47, 47] ++ (frontL r ++ z) := fun z => by
      rw [List.append_assoc _ _ ((frontL r).drop _), List.take_append_drop, List.append_assoc]
    have hd : ∀ h : atL 63 r < r.length, r = frontL r ++ 63 :: queryL r := fun h => by
      unfold frontL queryL
      have := List.drop_eq_getElem_cons h
      rw [atL_hit 63 r h] at this
      rw [← this, List.take_append_drop]
    unfold printL
    dsimp only
    by_cases hq : queryL r = []
    · rw [if_pos hq, e, List.append_nil]
      by_cases hlt : atL 63 r < r.length
      · right
        conv => rhs; rw [hd hlt, hq]
        simp only [List.append_assoc]
      · left
        have hle := atL_le 63 r
        have : frontL r = r := by unfold frontL; exact List.take_of_length_le (by omega)
        rw [this]
    · left
      rw [if_neg hq, e]
      have hlt : atL 63 r < r.length := by
        rcases Nat.lt_or_ge (atL 63 r) r.length with h | h
        · exact h
        · exact absurd (by unfold queryL; exact List.drop_eq_nil_of_le (by omega)) hq
      rw [← hd hlt]
  · cases h
theorem uri_again {l : List UInt8} (h : uriE l = 0) : printL (uriV l) = l ∨ printL (uriV l) ++ [63] = l := by
  by_cases hl : 4096 < l.length
  · rw [(uri_large hl).1] at h; cases h
  · cases hu : uriL l with
    | none => rw [(uri_bad (by omega) hu).1] at h; cases h
    | some q =>
      rw [(uri_good (by omega) hu).2]
      unfold uriL at hu
      split at hu
      · split at hu
        · next h1 => have := restU_again hu; rwa [← h1, List.take_append_drop] at this
        · split at hu
          · next h1 => have := restU_again hu; rwa [← h1, List.take_append_drop] at this
          · cases hu
      · cases hu
theorem uri_len (l : List UInt8) : (uriV l).1.length ≤ 5 ∧ (uriV l).2.1.length ≤ 4096 ∧ (uriV l).2.2.1.length ≤ 4096 ∧ (uriV l).2.2.2.length ≤ 4096 := by
  by_cases hl : 4096 < l.length
  · rw [(uri_large hl).2]; simp [noU]
  · have hr : ∀ sch r : List UInt8, r.length ≤ 4096 → sch.length ≤ 5 → ∀ q, restU sch r = some q → q.1.length ≤ 5 ∧ q.2.1.length ≤ 4096 ∧ q.2.2.1.length ≤ 4096 ∧ q.2.2.2.length ≤ 4096 := by
      intro sch r hr hs q hq
      unfold restU at hq
      split at hq
      · injection hq with hq
        subst hq
        have hf : (frontL r).length ≤ r.length := by unfold frontL; rw [List.length_take]; omega
        have hq : (queryL r).length ≤ r.length := by unfold queryL; rw [List.length_drop]; omega
        dsimp only
        rw [List.length_take, List.length_drop]
        omega
      · cases hq
    cases hu : uriL l with
    | none => rw [(uri_bad (by omega) hu).2]; simp [noU]
    | some q =>
      rw [(uri_good (by omega) hu).2]
      unfold uriL at hu
      split at hu
      · split at hu
        · exact hr _ _ (by rw [List.length_drop]; omega) (by decide) _ hu
        · split at hu
          · exact hr _ _ (by rw [List.length_drop]; omega) (by decide) _ hu
          · cases hu
      · cases hu
end Go.Proofs.Ytdogcnlcefklkaa
