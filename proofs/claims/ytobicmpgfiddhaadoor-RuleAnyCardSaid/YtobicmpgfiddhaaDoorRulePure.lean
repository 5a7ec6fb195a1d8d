/- Rules as data: which there are, and what they make of claims; what is kept by them. -/
import Derived.Test.YtobicmpgfiddhaaDoorKeyAt
import Derived.Test.YtobicmpgfiddhaaDoorJsonFits
namespace Go.Proofs.YtobicmpgfiddhaaDoor
set_option linter.unusedVariables false
set_option linter.unusedSimpArgs false

/-- a rule: what it does, its words -/
structure RU where
  op : List UInt8
  args : List (List UInt8)
def opSet : List UInt8 := [115, 101, 116]
def opText : List UInt8 := [116, 101, 120, 116]
def opJoin : List UInt8 := [106, 111, 105, 110]
def opNeed : List UInt8 := [110, 101, 101, 100]
def opOnly : List UInt8 := [111, 110, 108, 121]
def argsN (op : List UInt8) : Nat := if op = opSet ∨ op = opText ∨ op = opNeed then 2 else if op = opJoin ∨ op = opOnly then 3 else 0
def letterR (c : UInt8) : Bool := decide (97 ≤ c ∧ c ≤ 122) || decide (65 ≤ c ∧ c ≤ 90) || decide (48 ≤ c ∧ c ≤ 57) || decide (c = 95) || decide (c = 45)
def nameR (s : List UInt8) : Bool := s.all letterR && decide (1 ≤ s.length ∧ s.length ≤ 32)
/-- what tokens say of themselves -/
def keptR : List (List UInt8) := [[105, 115, 115], [115, 117, 98], [97, 117, 100], [101, 120, 112], [105, 97, 116], [110, 111, 110, 99, 101], [117, 115, 101], [102, 97, 109]]
def RU.good (r : RU) : Bool := decide (argsN r.op ≠ 0) && decide (r.args.length = argsN r.op) && r.args.all nameR && (decide (r.op = opNeed) || !keptR.contains (r.args.headD []))
def wordV (s : List UInt8) : V := .mk 4 0 s [] []
def listV (l : List V) : V := .mk 5 0 [] l []
def emptyO : V := .mk 6 0 [] [] []
/-- an object in which a key has a value -/
def putV (v : V) (key : List UInt8) (x : V) : V := if keyAt key v.keys < v.keys.length then .mk 6 0 [] (v.list.set (keyAt key v.keys) x) v.keys else .mk 6 0 [] (v.list ++ [x]) (v.keys ++ [key])
def isW (v : V) (s : List UInt8) : Bool := decide (v.kind = 4) && decide (v.text = s)
def needB (w : V) (s : List UInt8) : Bool := isW w s || (decide (w.kind = 5) && w.list.any (isW · s))
def onlyL (v : V) (s : List UInt8) : List V := if v.kind = 5 then v.list.filter (fun x => decide (x.kind = 4) && decide (x.text.take s.length = s)) else []
/-- one rule, of claims c, behind what there is -/
def stepR (c out : V) (r : RU) : Option V :=
  let v := fieldV (r.args.getD 1 []) c
  if r.op = opSet then (match v with | some x => some (putV out (r.args.getD 0 []) x) | none => some out)
  else if r.op = opText then some (putV out (r.args.getD 0 []) (wordV (r.args.getD 1 [])))
  else if r.op = opJoin then
    (if (v.getD V.zero).kind = 4 ∧ ((fieldV (r.args.getD 2 []) c).getD V.zero).kind = 4 then some (putV out (r.args.getD 0 []) (wordV ((v.getD V.zero).text ++ [46] ++ ((fieldV (r.args.getD 2 []) c).getD V.zero).text))) else none)
  else if r.op = opNeed then (if needB ((fieldV (r.args.getD 0 []) c).getD V.zero) (r.args.getD 1 []) = true then some out else none)
  else if r.op = opOnly then some (putV out (r.args.getD 0 []) (listV (onlyL (v.getD V.zero) (r.args.getD 2 []))))
  else some out
def foldU (c : V) : V → List RU → Option V
  | out, [] => some out
  | out, r :: rs => match stepR c out r with
    | none => none
    | some o => foldU c o rs
def runU (rs : List RU) (c : V) : Option V := if c.kind = 6 ∧ c.fits 8 = true then foldU c emptyO rs else none
theorem foldU_snoc (c : V) : ∀ (rs : List RU) (out : V) (r : RU), foldU c out (rs ++ [r]) = match foldU c out rs with
    | none => none
    | some o => stepR c o r
  | [], out, r => by
    show (match stepR c out r with | none => none | some o => foldU c o []) = stepR c out r
    cases stepR c out r <;> rfl
  | x :: rs, out, r => by
    show (match stepR c out x with | none => none | some o => foldU c o (rs ++ [r])) = (match (match stepR c out x with | none => none | some o => foldU c o rs) with | none => none | some o => stepR c o r)
    cases stepR c out x with
    | none => rfl
    | some o => exact foldU_snoc c rs o r
theorem foldU_none (c : V) : ∀ (rs ss : List RU) (out : V), foldU c out rs = none → foldU c out (rs ++ ss) = none
  | [], ss, out, h => by cases h
  | x :: rs, ss, out, h => by
    have h : (match stepR c out x with | none => none | some o => foldU c o rs) = none := h
    show (match stepR c out x with | none => none | some o => foldU c o (rs ++ ss)) = none
    cases hx : stepR c out x with
    | none => rfl
    | some o =>
      rw [hx] at h
      exact foldU_none c rs ss o h
/-- what every object that rules make is -/
structure OutR (v : V) (n : Nat) : Prop where
  form : ∃ l ks, v = .mk 6 0 [] l ks ∧ l.length = ks.length ∧ ks.length ≤ n ∧ ks.Nodup ∧ (∀ x ∈ l, V.fits x 7 = true) ∧ ∀ k ∈ ks, nameR k = true ∧ keptR.contains k = false
theorem outR_empty : OutR emptyO 0 := ⟨[], [], rfl, rfl, Nat.le_refl _, List.nodup_nil, fun x hx => (by cases hx), fun k hk => (by cases hk)⟩
theorem OutR.more {v : V} {n m : Nat} (h : OutR v n) (hm : n ≤ m) : OutR v m := by
  obtain ⟨l, ks, h1, h2, h3, h4⟩ := h.form
  exact ⟨l, ks, h1, h2, Nat.le_trans h3 hm, h4⟩
theorem OutR.put {v : V} {n : Nat} (h : OutR v n) (key : List UInt8) (x : V) (hx : x.fits 7 = true) (hk : nameR key = true ∧ keptR.contains key = false) : OutR (putV v key x) (n + 1) := by
  obtain ⟨l, ks, rfl, h2, h3, h4, h5, h6⟩ := h.form
  unfold putV
  show OutR (if keyAt key ks < ks.length then .mk 6 0 [] (l.set (keyAt key ks) x) ks else .mk 6 0 [] (l ++ [x]) (ks ++ [key])) (n + 1)
  by_cases hi : keyAt key ks < ks.length
  · rw [if_pos hi]
    refine ⟨_, _, rfl, by rw [List.length_set]; exact h2, by omega, h4, fun y hy => ?_, h6⟩
    rcases List.mem_or_eq_of_mem_set hy with hy | rfl
    · exact h5 y hy
    · exact hx
  · rw [if_neg hi]
    have hnot : key ∉ ks := fun hm => by
      obtain ⟨i, hi2, e⟩ := List.getElem_of_mem hm
      have h7 := keyAt_ahead key ks i hi2
      have h8 := keyAt_le key ks
      exact h7 (by omega) e
    refine ⟨_, _, rfl, by rw [List.length_append, List.length_append, h2]; rfl, by rw [List.length_append]; show ks.length + 1 ≤ _; omega, List.nodup_append.2 ⟨h4, by simp, fun a ha b hb => by simp at hb; subst hb; exact fun e => hnot (e ▸ ha)⟩, fun y hy => ?_, fun k hk2 => ?_⟩
    · rcases List.mem_append.1 hy with hy | hy
      · exact h5 y hy
      · rw [List.mem_singleton] at hy; subst hy; exact hx
    · rcases List.mem_append.1 hk2 with hk2 | hk2
      · exact h6 k hk2
      · rw [List.mem_singleton] at hk2; subst hk2; exact hk
theorem field_fits {c x : V} {key : List UInt8} {d : Nat} (hc : c.fits (d + 1) = true) (h : fieldV key c = some x) : x.fits d = true := by
  obtain ⟨k, n, t, l, ks⟩ := c
  rw [fits_mk, Bool.and_eq_true] at hc
  have h : (if k = 6 ∧ keyAt key ks < ks.length then l[keyAt key ks]? else none) = some x := h
  split at h
  · exact (fitsAll_iff l d).1 hc.2 x (List.mem_of_getElem? h)
  · cases h
theorem word_fits (s : List UInt8) (d : Nat) : (wordV s).fits (d + 1) = true := by
  unfold wordV
  rw [fits_mk]
  simp [headB, V.fitsAll, unlikeB]
theorem list_fits {v : V} {s : List UInt8} {d : Nat} (h : v.fits (d + 2) = true ∨ v = V.zero) : (listV (onlyL v s)).fits (d + 2) = true := by
  have hlist : ∀ l : List V, l.length ≤ 64 → (∀ x ∈ l, x.fits (d + 1) = true) → (listV l).fits (d + 2) = true := fun l h1 h2 => by
    unfold listV
    rw [fits_mk, (fitsAll_iff l (d + 1)).2 h2]
    simp [headB, unlikeB, h1]
  unfold onlyL
  by_cases hk : v.kind = 5
  · rw [if_pos hk]
    rcases h with h | rfl
    · obtain ⟨k, n, t, l, ks⟩ := v
      rw [fits_mk, Bool.and_eq_true] at h
      have hl : l.length ≤ 64 := by
        have := h.1
        unfold headB at this
        simp only [Bool.and_eq_true, decide_eq_true_eq] at this
        omega
      refine hlist _ (Nat.le_trans (List.length_filter_le _ _) hl) fun x hx => ?_
      exact (fitsAll_iff l (d + 1)).1 h.2 x (List.mem_filter.1 hx).1
    · exact absurd hk (by decide)
  · rw [if_neg hk]
    exact hlist [] (by decide) (fun x hx => by cases hx)
theorem good_key {r : RU} (h : r.good = true) (hn : r.op ≠ opNeed) : nameR (r.args.getD 0 []) = true ∧ keptR.contains (r.args.getD 0 []) = false := by
  unfold RU.good at h
  simp only [Bool.and_eq_true, decide_eq_true_eq, Bool.or_eq_true, Bool.not_eq_true', List.all_eq_true] at h
  obtain ⟨⟨⟨h1, h2⟩, h3⟩, h4⟩ := h
  have h0 : 0 < r.args.length := by omega
  have e : r.args.getD 0 [] = r.args[0] := by rw [List.getD_eq_getElem?_getD, List.getElem?_eq_getElem h0]; rfl
  have e2 : r.args.headD [] = r.args[0] := by
    rw [List.headD_eq_head?_getD, List.head?_eq_getElem?, List.getElem?_eq_getElem h0]; rfl
  rw [e]
  refine ⟨h3 _ (List.getElem_mem h0), ?_⟩
  rcases h4 with h4 | h4
  · exact absurd h4 hn
  · rw [e2] at h4; exact h4
theorem step_out {c out o : V} {r : RU} {n : Nat} (hc : c.fits 8 = true) (h : OutR out n) (hg : r.good = true) (hs : stepR c out r = some o) : OutR o (n + 1) := by
  unfold stepR at hs
  dsimp only at hs
  by_cases h1 : r.op = opSet
  · rw [if_pos h1] at hs
    cases hf : fieldV (r.args.getD 1 []) c with
    | none => rw [hf] at hs; injection hs with hs; rw [← hs]; exact h.more (Nat.le_succ _)
    | some x =>
      rw [hf] at hs
      injection hs with hs
      rw [← hs]
      exact h.put _ x (field_fits hc hf) (good_key hg (by rw [h1]; decide))
  · rw [if_neg h1] at hs
    by_cases h2 : r.op = opText
    · rw [if_pos h2] at hs
      injection hs with hs
      rw [← hs]
      exact h.put _ _ (word_fits _ _) (good_key hg (by rw [h2]; decide))
    · rw [if_neg h2] at hs
      by_cases h3 : r.op = opJoin
      · rw [if_pos h3] at hs
        split at hs
        · injection hs with hs
          rw [← hs]
          exact h.put _ _ (word_fits _ _) (good_key hg (by rw [h3]; decide))
        · cases hs
      · rw [if_neg h3] at hs
        by_cases h4 : r.op = opNeed
        · rw [if_pos h4] at hs
          split at hs
          · injection hs with hs; rw [← hs]; exact h.more (Nat.le_succ _)
          · cases hs
        · rw [if_neg h4] at hs
          by_cases h5 : r.op = opOnly
          · rw [if_pos h5] at hs
            injection hs with hs
            rw [← hs]
            refine h.put _ _ (list_fits ?_) (good_key hg (by rw [h5]; decide))
            cases hf : fieldV (r.args.getD 1 []) c with
            | none => exact .inr rfl
            | some x => exact .inl (field_fits hc hf)
          · rw [if_neg h5] at hs
            injection hs with hs; rw [← hs]; exact h.more (Nat.le_succ _)
theorem fold_out {c : V} (hc : c.fits 8 = true) : ∀ (rs : List RU) (out o : V) (n : Nat), OutR out n → (∀ r ∈ rs, r.good = true) → foldU c out rs = some o → OutR o (n + rs.length)
  | [], out, o, n, h, _, hs => by
    have hs : some out = some o := hs
    injection hs with hs
    rw [← hs]; exact h
  | r :: rs, out, o, n, h, hg, hs => by
    have hs : (match stepR c out r with | none => none | some o => foldU c o rs) = some o := hs
    cases hx : stepR c out r with
    | none => rw [hx] at hs; cases hs
    | some x =>
      rw [hx] at hs
      have := fold_out hc rs x o (n + 1) (step_out hc h (hg r (List.mem_cons_self ..)) hx) (fun y hy => hg y (List.mem_cons_of_mem _ hy)) hs
      rw [List.length_cons, show n + (rs.length + 1) = n + 1 + rs.length by omega]
      exact this
theorem run_out {rs : List RU} {c o : V} (hg : ∀ r ∈ rs, r.good = true) (h : runU rs c = some o) : OutR o rs.length := by
  unfold runU at h
  split at h
  · rename_i hc
    have := fold_out hc.2 rs emptyO o 0 outR_empty hg h
    rwa [Nat.zero_add] at this
  · cases h
theorem out_fits {v : V} (h : OutR v 64) : v.fits 8 = true ∧ v.kind = 6 ∧ ∀ k ∈ v.keys, keptR.contains k = false := by
  obtain ⟨l, ks, rfl, h2, h3, h4, h5, h6⟩ := h.form
  refine ⟨?_, rfl, fun k hk => (h6 k hk).2⟩
  rw [fits_mk, (fitsAll_iff l 7).2 h5]
  have := (unlike_nodup ks).2 h4
  simp [headB, this, h2]
  omega
end Go.Proofs.YtobicmpgfiddhaaDoor
