/- Texts merged by program, in build order: RulePure, RdAt, Texts, RuleVals, RuleOut, RuleSeq. -/
import Derived.Test.YtobicmpgfiddhaaDoorG03
import Derived.Test.YtobicmpgfiddhaaDoorG02
import Derived.RangeFuncNested
import Derived.RangeFuncBound
import Derived.RangeFuncCalls
import Derived.RangeFuncLeaves
import Derived.RangeFuncBox
namespace Go.Proofs.YtobicmpgfiddhaaDoor
set_option linter.unusedVariables false
set_option linter.unusedSimpArgs false

/-- a rule: what it does, its words -/
structure RU where
  op : List UInt8
  args : List (List UInt8)
def opSet : List UInt8 := [115, 101, 116]
def opText : List UInt8 := [116, 101, 120, 116]
def opJoin : List UInt8 := [106, 111, 105, 110]
def opNeed : List UInt8 := [110, 101, 101, 100]
def opOnly : List UInt8 := [111, 110, 108, 121]
def argsN (op : List UInt8) : Nat := if op = opSet ∨ op = opText ∨ op = opNeed then 2 else if op = opJoin ∨ op = opOnly then 3 else 0
def letterR (c : UInt8) : Bool := decide (97 ≤ c ∧ c ≤ 122) || decide (65 ≤ c ∧ c ≤ 90) || decide (48 ≤ c ∧ c ≤ 57) || decide (c = 95) || decide (c = 45)
def nameR (s : List UInt8) : Bool := s.all letterR && decide (1 ≤ s.length ∧ s.length ≤ 32)
/-- what tokens say of themselves -/
def keptR : List (List UInt8) := [[105, 115, 115], [115, 117, 98], [97, 117, 100], [101, 120, 112], [105, 97, 116], [110, 111, 110, 99, 101], [117, 115, 101], [102, 97, 109]]
def RU.good (r : RU) : Bool := decide (argsN r.op ≠ 0) && decide (r.args.length = argsN r.op) && r.args.all nameR && (decide (r.op = opNeed) || !keptR.contains (r.args.headD []))
def wordV (s : List UInt8) : V := .mk 4 0 s [] []
def listV (l : List V) : V := .mk 5 0 [] l []
def emptyO : V := .mk 6 0 [] [] []
/-- an object in which a key has a value -/
def putV (v : V) (key : List UInt8) (x : V) : V := if keyAt key v.keys < v.keys.length then .mk 6 0 [] (v.list.set (keyAt key v.keys) x) v.keys else .mk 6 0 [] (v.list ++ [x]) (v.keys ++ [key])
def isW (v : V) (s : List UInt8) : Bool := decide (v.kind = 4) && decide (v.text = s)
def needB (w : V) (s : List UInt8) : Bool := isW w s || (decide (w.kind = 5) && w.list.any (isW · s))
def onlyL (v : V) (s : List UInt8) : List V := if v.kind = 5 then v.list.filter (fun x => decide (x.kind = 4) && decide (x.text.take s.length = s)) else []
/-- one rule, of claims c, behind what there is -/
def stepR (c out : V) (r : RU) : Option V :=
  let v := fieldV (r.args.getD 1 []) c
  if r.op = opSet then (match v with | some x => some (putV out (r.args.getD 0 []) x) | none => some out)
  else if r.op = opText then some (putV out (r.args.getD 0 []) (wordV (r.args.getD 1 [])))
  else if r.op = opJoin then
    (if (v.getD V.zero).kind = 4 ∧ ((fieldV (r.args.getD 2 []) c).getD V.zero).kind = 4 then some (putV out (r.args.getD 0 []) (wordV ((v.getD V.zero).text ++ [46] ++ ((fieldV (r.args.getD 2 []) c).getD V.zero).text))) else none)
  else if r.op = opNeed then (if needB ((fieldV (r.args.getD 0 []) c).getD V.zero) (r.args.getD 1 []) = true then some out else none)
  else if r.op = opOnly then some (putV out (r.args.getD 0 []) (listV (onlyL (v.getD V.zero) (r.args.getD 2 []))))
  else some out
def foldU (c : V) : V → List RU → Option V
  | out, [] => some out
  | out, r :: rs => match stepR c out r with
    | none => none
    | some o => foldU c o rs
def runU (rs : List RU) (c : V) : Option V := if c.kind = 6 ∧ c.fits 8 = true then foldU c emptyO rs else none
theorem foldU_snoc (c : V) : ∀ (rs : List RU) (out : V) (r : RU), foldU c out (rs ++ [r]) = match foldU c out rs with
    | none => none
    | some o => stepR c o r
  | [], out, r => by
    show (match stepR c out r with | none => none | some o => foldU c o []) = stepR c out r
    cases stepR c out r <;> rfl
  | x :: rs, out, r => by
    show (match stepR c out x with | none => none | some o => foldU c o (rs ++ [r])) = (match (match stepR c out x with | none => none | some o => foldU c o rs) with | none => none | some o => stepR c o r)
    cases stepR c out x with
    | none => rfl
    | some o => exact foldU_snoc c rs o r
theorem foldU_none (c : V) : ∀ (rs ss : List RU) (out : V), foldU c out rs = none → foldU c out (rs ++ ss) = none
  | [], ss, out, h => by cases h
  | x :: rs, ss, out, h => by
    have h : (match stepR c out x with | none => none | some o => foldU c o rs) = none := h
    show (match stepR c out x with | none => none | some o => foldU c o (rs ++ ss)) = none
    cases hx : stepR c out x with
    | none => rfl
    | some o =>
      rw [hx] at h
      exact foldU_none c rs ss o h
/-- what every object that rules make is -/
structure OutR (v : V) (n : Nat) : Prop where
  form : ∃ l ks, v = .mk 6 0 [] l ks ∧ l.length = ks.length ∧ ks.length ≤ n ∧ ks.Nodup ∧ (∀ x ∈ l, V.fits x 7 = true) ∧ ∀ k ∈ ks, nameR k = true ∧ keptR.contains k = false
theorem outR_empty : OutR emptyO 0 := ⟨[], [], rfl, rfl, Nat.le_refl _, List.nodup_nil, fun x hx => (by cases hx), fun k hk => (by cases hk)⟩
theorem OutR.more {v : V} {n m : Nat} (h : OutR v n) (hm : n ≤ m) : OutR v m := by
  obtain ⟨l, ks, h1, h2, h3, h4⟩ := h.form
  exact ⟨l, ks, h1, h2, Nat.le_trans h3 hm, h4⟩
theorem OutR.put {v : V} {n : Nat} (h : OutR v n) (key : List UInt8) (x : V) (hx : x.fits 7 = true) (hk : nameR key = true ∧ keptR.contains key = false) : OutR (putV v key x) (n + 1) := by
  obtain ⟨l, ks, rfl, h2, h3, h4, h5, h6⟩ := h.form
  unfold putV
  show OutR (if keyAt key ks < ks.length then .mk 6 0 [] (l.set (keyAt key ks) x) ks else .mk 6 0 [] (l ++ [x]) (ks ++ [key])) (n + 1)
  by_cases hi : keyAt key ks < ks.length
  · rw [if_pos hi]
    refine ⟨_, _, rfl, by rw [List.length_set]; exact h2, by omega, h4, fun y hy => ?_, h6⟩
    rcases List.mem_or_eq_of_mem_set hy with hy | rfl
    · exact h5 y hy
    · exact hx
  · rw [if_neg hi]
    have hnot : key ∉ ks := fun hm => by
      obtain ⟨i, hi2, e⟩ := List.getElem_of_mem hm
      have h7 := keyAt_ahead key ks i hi2
      have h8 := keyAt_le key ks
      exact h7 (by omega) e
    refine ⟨_, _, rfl, by rw [List.length_append, List.length_append, h2]; rfl, by rw [List.length_append]; show ks.length + 1 ≤ _; omega, List.nodup_append.2 ⟨h4, by simp, fun a ha b hb => by simp at hb; subst hb; exact fun e => hnot (e ▸ ha)⟩, fun y hy => ?_, fun k hk2 => ?_⟩
    · rcases List.mem_append.1 hy with hy | hy
      · exact h5 y hy
      · rw [List.mem_singleton] at hy; subst hy; exact hx
    · rcases List.mem_append.1 hk2 with hk2 | hk2
      · exact h6 k hk2
      · rw [List.mem_singleton] at hk2; subst hk2; exact hk
theorem field_fits {c x : V} {key : List UInt8} {d : Nat} (hc : c.fits (d + 1) = true) (h : fieldV key c = some x) : x.fits d = true := by
  obtain ⟨k, n, t, l, ks⟩ := c
  rw [fits_mk, Bool.and_eq_true] at hc
  have h : (if k = 6 ∧ keyAt key ks < ks.length then l[keyAt key ks]? else none) = some x := h
  split at h
  · exact (fitsAll_iff l d).1 hc.2 x (List.mem_of_getElem? h)
  · cases h
theorem word_fits (s : List UInt8) (d : Nat) : (wordV s).fits (d + 1) = true := by
  unfold wordV
  rw [fits_mk]
  simp [headB, V.fitsAll, unlikeB]
theorem list_fits {v : V} {s : List UInt8} {d : Nat} (h : v.fits (d + 2) = true ∨ v = V.zero) : (listV (onlyL v s)).fits (d + 2) = true := by
  have hlist : ∀ l : List V, l.length ≤ 64 → (∀ x ∈ l, x.fits (d + 1) = true) → (listV l).fits (d + 2) = true := fun l h1 h2 => by
    unfold listV
    rw [fits_mk, (fitsAll_iff l (d + 1)).2 h2]
    simp [headB, unlikeB, h1]
  unfold onlyL
  by_cases hk : v.kind = 5
  · rw [if_pos hk]
    rcases h with h | rfl
    · obtain ⟨k, n, t, l, ks⟩ := v
      rw [fits_mk, Bool.and_eq_true] at h
      have hl : l.length ≤ 64 := by
        have := h.1
        unfold headB at this
        simp only [Bool.and_eq_true, decide_eq_true_eq] at this
        omega
      refine hlist _ (Nat.le_trans (List.length_filter_le _ _) hl) fun x hx => ?_
      exact (fitsAll_iff l (d + 1)).1 h.2 x (List.mem_filter.1 hx).1
    · exact absurd hk (by decide)
  · rw [if_neg hk]
    exact hlist [] (by decide) (fun x hx => by cases hx)
theorem good_key {r : RU} (h : r.good = true) (hn : r.op ≠ opNeed) : nameR (r.args.getD 0 []) = true ∧ keptR.contains (r.args.getD 0 []) = false := by
  unfold RU.good at h
  simp only [Bool.and_eq_true, decide_eq_true_eq, Bool.or_eq_true, Bool.not_eq_true', List.all_eq_true] at h
  obtain ⟨⟨⟨h1, h2⟩, h3⟩, h4⟩ := h
  have h0 : 0 < r.args.length := by omega
  have e : r.args.getD 0 [] = r.args[0] := by rw [List.getD_eq_getElem?_getD, List.getElem?_eq_getElem h0]; rfl
  have e2 : r.args.headD [] = r.args[0] := by
    rw [List.headD_eq_head?_getD, List.head?_eq_getElem?, List.getElem?_eq_getElem h0]; rfl
  rw [e]
  refine ⟨h3 _ (List.getElem_mem h0), ?_⟩
  rcases h4 with h4 | h4
  · exact absurd h4 hn
  · rw [e2] at h4; exact h4
theorem step_out {c out o : V} {r : RU} {n : Nat} (hc : c.fits 8 = true) (h : OutR out n) (hg : r.good = true) (hs : stepR c out r = some o) : OutR o (n + 1) := by
  unfold stepR at hs
  dsimp only at hs
  by_cases h1 : r.op = opSet
  · rw [if_pos h1] at hs
    cases hf : fieldV (r.args.getD 1 []) c with
    | none => rw [hf] at hs; injection hs with hs; rw [← hs]; exact h.more (Nat.le_succ _)
    | some x =>
      rw [hf] at hs
      injection hs with hs
      rw [← hs]
      exact h.put _ x (field_fits hc hf) (good_key hg (by rw [h1]; decide))
  · rw [if_neg h1] at hs
    by_cases h2 : r.op = opText
    · rw [if_pos h2] at hs
      injection hs with hs
      rw [← hs]
      exact h.put _ _ (word_fits _ _) (good_key hg (by rw [h2]; decide))
    · rw [if_neg h2] at hs
      by_cases h3 : r.op = opJoin
      · rw [if_pos h3] at hs
        split at hs
        · injection hs with hs
          rw [← hs]
          exact h.put _ _ (word_fits _ _) (good_key hg (by rw [h3]; decide))
        · cases hs
      · rw [if_neg h3] at hs
        by_cases h4 : r.op = opNeed
        · rw [if_pos h4] at hs
          split at hs
          · injection hs with hs; rw [← hs]; exact h.more (Nat.le_succ _)
          · cases hs
        · rw [if_neg h4] at hs
          by_cases h5 : r.op = opOnly
          · rw [if_pos h5] at hs
            injection hs with hs
            rw [← hs]
            refine h.put _ _ (list_fits ?_) (good_key hg (by rw [h5]; decide))
            cases hf : fieldV (r.args.getD 1 []) c with
            | none => exact .inr rfl
            | some x => exact .inl (field_fits hc hf)
          · rw [if_neg h5] at hs
            injection hs with hs; rw [← hs]; exact h.more (Nat.le_succ _)
theorem fold_out {c : V} (hc : c.fits 8 = true) : ∀ (rs : List RU) (out o : V) (n : Nat), OutR out n → (∀ r ∈ rs, r.good = true) → foldU c out rs = some o → OutR o (n + rs.length)
  | [], out, o, n, h, _, hs => by
    have hs : some out = some o := hs
    injection hs with hs
    rw [← hs]; exact h
  | r :: rs, out, o, n, h, hg, hs => by
    have hs : (match stepR c out r with | none => none | some o => foldU c o rs) = some o := hs
    cases hx : stepR c out r with
    | none => rw [hx] at hs; cases hs
    | some x =>
      rw [hx] at hs
      have := fold_out hc rs x o (n + 1) (step_out hc h (hg r (List.mem_cons_self ..)) hx) (fun y hy => hg y (List.mem_cons_of_mem _ hy)) hs
      rw [List.length_cons, show n + (rs.length + 1) = n + 1 + rs.length by omega]
      exact this
theorem run_out {rs : List RU} {c o : V} (hg : ∀ r ∈ rs, r.good = true) (h : runU rs c = some o) : OutR o rs.length := by
  unfold runU at h
  split at h
  · rename_i hc
    have := fold_out hc.2 rs emptyO o 0 outR_empty hg h
    rwa [Nat.zero_add] at this
  · cases h
theorem out_fits {v : V} (h : OutR v 64) : v.fits 8 = true ∧ v.kind = 6 ∧ ∀ k ∈ v.keys, keptR.contains k = false := by
  obtain ⟨l, ks, rfl, h2, h3, h4, h5, h6⟩ := h.form
  refine ⟨?_, rfl, fun k hk => (h6 k hk).2⟩
  rw [fits_mk, (fitsAll_iff l 7).2 h5]
  have := (unlike_nodup ks).2 h4
  simp [headB, this, h2]
  omega
end Go.Proofs.YtobicmpgfiddhaaDoor
namespace Go.Proofs.YtobicmpgfiddhaaDoor
open Go.RowKit
set_option linter.unusedVariables false
set_option linter.unusedSimpArgs false

/-- a slice of bytes reads as these -/
def RdAt (w : World) (v : Value) (l : List UInt8) : Prop :=
  ∃ A c, v = .slice A l.length c ∧ l.length ≤ c ∧ c ≤ 9223372036854775807 ∧ ((A = none ∧ l.length = 0 ∧ c = 0) ∨ ∃ g o, A = some ⟨g, o, none⟩ ∧ g < w.heap.size ∧ ∀ j u, (cells l)[j]? = some u → w.cell? ((⟨g, o, none⟩ : Addr).add j) = some u)
/-- only blocks of S, and new ones, are other ones -/
structure Only (S : Nat → Prop) (w w' : World) : Prop where
  os : w'.os = w.os
  tape : w'.tape = w.tape
  output : w'.output = w.output
  size : w.heap.size ≤ w'.heap.size
  block : ∀ k, k < w.heap.size → ¬ S k → w'.heap[k]? = w.heap[k]?
theorem Only.refl (S : Nat → Prop) (w : World) : Only S w w := ⟨rfl, rfl, rfl, Nat.le_refl _, fun _ _ _ => rfl⟩
theorem Only.trans {S : Nat → Prop} {a b c : World} (h : Only S a b) (k : Only S b c) : Only S a c :=
  ⟨k.os.trans h.os, k.tape.trans h.tape, k.output.trans h.output, Nat.le_trans h.size k.size, fun i hi hn => (k.block i (by have := h.size; omega) hn).trans (h.block i hi hn)⟩
/-- what the second may write, but for what was new, the first one may -/
theorem Only.then {S S' : Nat → Prop} {a b c : World} (h : Only S a b) (k : Only S' b c) (hs : ∀ i, S' i → i < a.heap.size → S i) : Only S a c :=
  ⟨k.os.trans h.os, k.tape.trans h.tape, k.output.trans h.output, Nat.le_trans h.size k.size, fun i hi hn => (k.block i (by have := h.size; omega) (fun e => hn (hs i e hi))).trans (h.block i hi hn)⟩
theorem Only.mono {S S' : Nat → Prop} {w w' : World} (h : Only S w w') (hs : ∀ i, i < w.heap.size → S i → S' i) : Only S' w w' := ⟨h.os, h.tape, h.output, h.size, fun i hi hn => h.block i hi (fun e => hn (hs i hi e))⟩
theorem Only.below {S : Nat → Prop} {w w' : World} {B : Nat} (h : Only S w w') (hB : B ≤ w.heap.size) (hs : ∀ i, S i → B ≤ i) : Below B w w' := ⟨h.os, h.tape, h.output, h.size, fun i hi => h.block i (by omega) (fun e => by have := hs i e; omega)⟩
theorem Only.of_below {S : Nat → Prop} {w w' : World} (h : Below w.heap.size w w') : Only S w w' := ⟨h.os, h.tape, h.output, h.size, fun i hi _ => h.block i hi⟩
theorem Only.of_grown {S : Nat → Prop} {w w' : World} {row : Option Nat} (h : w.grownBy w' row) (hs : ∀ i, row = some i → S i) : Only S w w' := ⟨h.os, h.tape, h.output, h.size, fun i hi hn => h.block i hi (fun e => hn (hs i e.symm))⟩
theorem Only.set {S : Nat → Prop} {w w' : World} {b o : Nat} (h : Only S w w') (hb : S b) (v : Value) : Only S w (w'.setCell ⟨b, o, none⟩ v) :=
  ⟨h.os, h.tape, h.output, by rw [set_size]; exact h.size, fun i hi hn => (set_there v (fun e => hn (by rw [e]; exact hb))).trans (h.block i hi hn)⟩
theorem Only.alloc {S : Nat → Prop} {w w' : World} (h : Only S w w') (x : Obj) : Only S w (w'.alloc x) :=
  ⟨h.os, h.tape, h.output, by simp; have := h.size; omega, fun i hi hn => (Below.heap_alloc _ _ _ (by have := h.size; omega)).trans (h.block i hi hn)⟩
theorem Only.drewN {S : Nat → Prop} {w w' : World} (h : Only S w w') (n : Nat) : Only S w (w'.drewN n) := ⟨h.os, h.tape, h.output, h.size, h.block⟩
theorem Only.drew {S : Nat → Prop} {w w' : World} (h : Only S w w') : Only S w w'.drew := ⟨h.os, h.tape, h.output, h.size, h.block⟩

theorem RdAt.keep {w w' : World} {v : Value} {l : List UInt8} (h : RdAt w v l) (hs : w.heap.size ≤ w'.heap.size) (hb : ∀ g, v.ownBlock = some g → w'.heap[g]? = w.heap[g]?) : RdAt w' v l := by
  obtain ⟨A, c, rfl, h1, h2, h3⟩ := h
  refine ⟨A, c, rfl, h1, h2, ?_⟩
  rcases h3 with h3 | ⟨g, o, rfl, hg, h3⟩
  · exact .inl h3
  · refine .inr ⟨g, o, rfl, by omega, fun j u hu => ?_⟩
    rw [← h3 j u hu]
    exact World.cell?_of_block (by rw [Addr.add_lit]; exact hb g rfl)
theorem RdAt.lt {w : World} {v : Value} {l : List UInt8} (h : RdAt w v l) {g : Nat} (hg : v.ownBlock = some g) : g < w.heap.size := by
  obtain ⟨A, c, rfl, h1, h2, h3⟩ := h
  rcases h3 with ⟨rfl, _⟩ | ⟨g', o, rfl, hg', _⟩
  · cases hg
  · injection hg with hg; rw [← hg]; exact hg'
theorem RdAt.only {S : Nat → Prop} {w w' : World} {v : Value} {l : List UInt8} (h : RdAt w v l) (ho : Only S w w') (hb : ∀ g, v.ownBlock = some g → ¬ S g) : RdAt w' v l :=
  h.keep ho.size fun g hg => ho.block g (h.lt hg) (hb g hg)
theorem RdAt.below {w w' : World} {v : Value} {l : List UInt8} (h : RdAt w v l) (hb : Below w.heap.size w w') : RdAt w' v l := h.keep hb.size fun g hg => hb.block g (h.lt hg)
theorem RdAt.nil (w : World) : RdAt w (.slice none 0 0) [] := ⟨none, 0, rfl, Nat.le_refl _, Nat.zero_le _, .inl ⟨rfl, rfl, rfl⟩⟩
/-- the first n of them -/
theorem cells_take (l : List UInt8) (n j : Nat) (u : Value) (h : (cells (l.take n))[j]? = some u) : (cells l)[j]? = some u := by
  unfold cells at h ⊢
  rw [List.getElem?_map] at h ⊢
  rw [List.getElem?_take] at h
  split at h
  · exact h
  · cases h
theorem RdAt.take {w : World} {A : Option Addr} {c : Nat} {l : List UInt8} (h : RdAt w (.slice A l.length c) l) (n : Nat) (hn : n ≤ l.length) : RdAt w (.slice A n c) (l.take n) := by
  obtain ⟨A', c', e, h1, h2, h3⟩ := h
  cases e
  have hl : (l.take n).length = n := by rw [List.length_take]; omega
  refine ⟨A, c, by rw [hl], by omega, h2, ?_⟩
  rcases h3 with ⟨rfl, h4, h5⟩ | ⟨g, o, rfl, hg, h3⟩
  · exact .inl ⟨rfl, by omega, h5⟩
  · exact .inr ⟨g, o, rfl, hg, fun j u hu => h3 j u (cells_take l n j u hu)⟩
/-- a row of the call's own reads as its bytes -/
theorem Buf.rd {w : World} {B : Nat} {v : Value} {l : List UInt8} (h : Buf w B v l) : RdAt w v l := by
  have hc := fun g => World.ownsRow.cells (g := g) h
  rcases h.2 with ⟨rfl, h0⟩ | ⟨g, cap, cur, rfl, hB, hg, h4, h5, _⟩
  · obtain rfl := List.length_eq_zero_iff.1 h0
    exact RdAt.nil w
  · refine ⟨_, cap, rfl, ?_, ?_, .inr ⟨g, 0, rfl, (Array.getElem?_eq_some_iff.1 hg).1, hc g rfl⟩⟩
    · omega
    · unfold maxLen at *; omega
/-- an empty literal -/
theorem own_empty (w : World) : (w.alloc (.cells #[] 5)).ownsRow w.heap.size 5 1 (.slice (some ⟨w.heap.size, 0, none⟩) 0 0) 0 [] := ⟨by simp, Or.inr ⟨w.heap.size, 0, #[], rfl, Nat.le_refl _, heap_alloc_last w _, Nat.le_refl _, by unfold maxLen; decide, by simp, by simp⟩⟩
/-- what an append takes of it -/
theorem RdAt.news {w : World} {v : Value} {l : List UInt8} (h : RdAt w v l) : ∃ A c, v = .slice A l.length c ∧ ((A = none ∧ l.length = 0 ∧ c = 0) ∨ ∃ ad, A = some ad ∧ ∀ j u, (cells l)[j]? = some u → w.cell? (ad.add j) = some u) := by
  obtain ⟨A, c, rfl, h1, h2, h3⟩ := h
  refine ⟨A, c, rfl, ?_⟩
  rcases h3 with h3 | ⟨g, o, rfl, hg, h3⟩
  · exact .inl h3
  · exact .inr ⟨_, rfl, h3⟩
/-- 'string(b)' -/
theorem RdAt.text {w : World} {v : Value} {l : List UInt8} (h : RdAt w v l) : (convert 46 9 v).run Tryd.prog w = .ok (.string ⟨l.toArray⟩) w := by
  obtain ⟨A, c, rfl, h1, h2, h3⟩ := h
  rcases h3 with ⟨rfl, h0, rfl⟩ | ⟨g, o, rfl, hg, h3⟩
  · obtain rfl : l = [] := List.length_eq_zero_iff.1 h0
    show (convert 46 9 (.slice none 0 0)).run Tryd.prog w = _
    rw [run_convert_bytes_string (P := Tryd.prog) w 46 9 5 none 0 0 Tryd.underlying46 Tryd.underlying5 Tryd.underlying9]
    rfl
  · exact run_convert_bytes_back (P := Tryd.prog) w 46 9 5 ⟨g, o, none⟩ c l Tryd.underlying46 Tryd.underlying5 Tryd.underlying9 (fun j hj => h3 j _ (by simp [cells, hj]))

/-! ### bytes within an argument: where there is no room at all, nothing is known of the block -/
def rdBlock : Value → Option Nat
  | .slice (some a) _ c => if c = 0 then none else some a.block
  | _ => none
def RdW (w : World) (v : Value) (l : List UInt8) : Prop :=
  ∃ A c, v = .slice A l.length c ∧ l.length ≤ c ∧ c ≤ 9223372036854775807 ∧ ((l.length = 0 ∧ c = 0) ∨ ∃ g o, A = some ⟨g, o, none⟩ ∧ g < w.heap.size ∧ ∀ j u, (cells l)[j]? = some u → w.cell? ((⟨g, o, none⟩ : Addr).add j) = some u)
theorem RdAt.weak {w : World} {v : Value} {l : List UInt8} (h : RdAt w v l) : RdW w v l := by
  obtain ⟨A, c, rfl, h1, h2, h3⟩ := h
  exact ⟨A, c, rfl, h1, h2, h3.imp (fun h => h.2) id⟩
theorem rdBlock_own {v : Value} {g : Nat} (h : rdBlock v = some g) : v.ownBlock = some g := by
  unfold rdBlock at h
  split at h
  · split at h
    · cases h
    · exact h
  · cases h
theorem RdW.lt {w : World} {v : Value} {l : List UInt8} (h : RdW w v l) {g : Nat} (hg : rdBlock v = some g) : g < w.heap.size := by
  obtain ⟨A, c, rfl, h1, h2, h3⟩ := h
  rcases h3 with ⟨_, rfl⟩ | ⟨g', o, rfl, hg', _⟩
  · cases A <;> simp [rdBlock] at hg
  · have hg := rdBlock_own hg
    injection hg with hg
    rw [← hg]
    exact hg'
theorem RdW.keep {w w' : World} {v : Value} {l : List UInt8} (h : RdW w v l) (hs : w.heap.size ≤ w'.heap.size) (hb : ∀ g, rdBlock v = some g → w'.heap[g]? = w.heap[g]?) : RdW w' v l := by
  obtain ⟨A, c, rfl, h1, h2, h3⟩ := h
  refine ⟨A, c, rfl, h1, h2, ?_⟩
  by_cases hc : c = 0
  · exact .inl ⟨by omega, hc⟩
  rcases h3 with h3 | ⟨g, o, rfl, hg, h3⟩
  · exact .inl h3
  · refine .inr ⟨g, o, rfl, by omega, fun j u hu => ?_⟩
    rw [← h3 j u hu]
    exact World.cell?_of_block (by rw [Addr.add_lit]; exact hb g (by simp [rdBlock, hc]))
theorem RdW.below {w w' : World} {v : Value} {l : List UInt8} (h : RdW w v l) (hb : Below w.heap.size w w') : RdW w' v l := h.keep hb.size fun g hg => hb.block g (h.lt hg)
theorem RdW.only {S : Nat → Prop} {w w' : World} {v : Value} {l : List UInt8} (h : RdW w v l) (ho : Only S w w') (hb : ∀ g, rdBlock v = some g → ¬ S g) : RdW w' v l :=
  h.keep ho.size fun g hg => ho.block g (h.lt hg) (hb g hg)
theorem RdW.take {w : World} {A : Option Addr} {c : Nat} {l : List UInt8} (h : RdW w (.slice A l.length c) l) (n : Nat) (hn : n ≤ l.length) : RdW w (.slice A n c) (l.take n) := by
  obtain ⟨A', c', e, h1, h2, h3⟩ := h
  cases e
  have hl : (l.take n).length = n := by rw [List.length_take]; omega
  refine ⟨A, c, by rw [hl], by omega, h2, ?_⟩
  rcases h3 with ⟨h4, h5⟩ | ⟨g, o, rfl, hg, h3⟩
  · exact .inl ⟨by omega, h5⟩
  · exact .inr ⟨g, o, rfl, hg, fun j u hu => h3 j u (cells_take l n j u hu)⟩
theorem RdW.news {w : World} {v : Value} {l : List UInt8} (h : RdW w v l) : ∃ A c, v = .slice A l.length c ∧ ((A = none ∧ l.length = 0 ∧ c = 0) ∨ ∃ ad, A = some ad ∧ ∀ j u, (cells l)[j]? = some u → w.cell? (ad.add j) = some u) := by
  obtain ⟨A, c, rfl, h1, h2, h3⟩ := h
  refine ⟨A, c, rfl, ?_⟩
  rcases h3 with h3 | ⟨g, o, rfl, hg, h3⟩
  · cases A with
    | none => exact .inl ⟨rfl, h3.1, h3.2⟩
    | some ad => exact .inr ⟨ad, rfl, fun j u hu => by
        obtain rfl : l = [] := List.length_eq_zero_iff.1 h3.1
        simp [cells] at hu⟩
  · exact .inr ⟨_, rfl, h3⟩
end Go.Proofs.YtobicmpgfiddhaaDoor
namespace Go.Proofs.YtobicmpgfiddhaaDoor
open Go.RowKit
set_option linter.unusedVariables false
set_option linter.unusedSimpArgs false

def tv (l : List UInt8) : Value := .string ⟨l.toArray⟩
/-- a slice that reads as these texts -/
def RdT (w : World) (v : Value) (l : List (List UInt8)) : Prop :=
  ∃ A c, v = .slice A l.length c ∧ l.length ≤ c ∧ ∀ k x, l[k]? = some x → ∃ g o, A = some ⟨g, o, none⟩ ∧ g < w.heap.size ∧ w.cell? ⟨g, o + k, none⟩ = some (tv x)
theorem RdT.below {w w' : World} {v : Value} {l : List (List UInt8)} (h : RdT w v l) (hb : Below w.heap.size w w') : RdT w' v l := by
  obtain ⟨A, c, rfl, hc, h⟩ := h
  refine ⟨A, c, rfl, hc, fun k r hk => ?_⟩
  obtain ⟨g, o, rfl, hg, h1⟩ := h k r hk
  exact ⟨g, o, rfl, Nat.lt_of_lt_of_le hg hb.size, (World.cell?_of_block (hb.block g hg)).trans h1⟩
theorem rdt_form {w : World} {v : Value} {l : List (List UInt8)} (h : RdT w v l) : ∃ A c, v = .slice A l.length c := by
  obtain ⟨A, c, rfl, _⟩ := h
  exact ⟨A, c, rfl⟩
theorem RdT.at {w : World} {A : Option Addr} {c n : Nat} {l : List (List UInt8)} (h : RdT w (.slice A n c) l) (k : Nat) (hk : k < l.length) : ∃ g o, A = some ⟨g, o, none⟩ ∧ g < w.heap.size ∧ w.cell? ⟨g, o + k, none⟩ = some (tv l[k]) := by
  obtain ⟨A', c', e, hc, hA⟩ := h
  cases e
  exact hA k _ (List.getElem?_eq_getElem hk)
/-- two texts are not the same -/
theorem str_neq (x y : ByteArray) (a b : List UInt8) (hx : x = ⟨a.toArray⟩) (hy : y = ⟨b.toArray⟩) : (!x.toList == y.toList) = !decide (a = b) := by
  rw [hx, hy, ByteArray.toList_eq, ByteArray.toList_eq]
  show (!a == b) = _
  by_cases h : a = b <;> simp [h]
theorem take_eq_step {α : Type} {a b : List α} {k : Nat} (h : a.take k = b.take k) (ha : k < a.length) (hb : k < b.length) (he : a[k] = b[k]) : a.take (k + 1) = b.take (k + 1) := by
  rw [List.take_succ_eq_append_getElem ha, List.take_succ_eq_append_getElem hb, h, he]
theorem Tryd.infoStrK : (Tryd.prog.info? 9).map (fun i => (i.zero, i.size, i.bytes)) = some (some (.string ⟨#[]⟩), 1, 16) := by kernel_rfl
def tcells (l : List (List UInt8)) : List Value := l.map tv
theorem tcells_app (a b : List (List UInt8)) : tcells (a ++ b) = tcells a ++ tcells b := by simp [tcells]
/-- texts of the call's own -/
def TRow (w : World) (B : Nat) (v : Value) (l : List (List UInt8)) : Prop := w.ownsRow B 9 1 v l.length (tcells l)
theorem TRow.cut {w : World} {B n : Nat} {v : Value} {l : List (List UInt8)} {xs : List Value} (h : w.ownsRow B 9 1 v n xs) (hn : n = l.length) (hx : xs = tcells l) : TRow w B v l := by subst hn; subst hx; exact h
theorem TRow.rd {w : World} {B : Nat} {v : Value} {l : List (List UInt8)} (h : TRow w B v l) : RdT w v l := by
  have hc := fun g => World.ownsRow.cells (g := g) h
  rcases h.2 with ⟨rfl, h0⟩ | ⟨g, cap, cur, rfl, hB, hg, h4, h5, _⟩
  · obtain rfl := List.length_eq_zero_iff.1 h0
    exact ⟨none, 0, rfl, Nat.le_refl _, fun k l hk => by simp only [List.getElem?_nil] at hk; cases hk⟩
  · refine ⟨_, cap, rfl, h4, fun k x hk => ⟨g, 0, rfl, (Array.getElem?_eq_some_iff.1 hg).1, ?_⟩⟩
    have := hc g rfl k (tv x) (by unfold tcells; rw [List.getElem?_map, hk]; rfl)
    rwa [Addr.add_lit] at this
/-- a row of texts that has just been made -/
theorem rdt_new {W : World} {R : Nat} {C : Array Value} {t : TypeId} {fr : Nat × Nat} {l : List (List UInt8)} (h : W.heap[R]? = some (.cells C t fr)) (hC : C.toList = tcells l) : RdT W (.slice (some ⟨R, 0, none⟩) l.length l.length) l :=
  ⟨_, _, rfl, Nat.le_refl _, fun k x hk => ⟨R, 0, rfl, (Array.getElem?_eq_some_iff.1 h).1, by
    rw [Nat.zero_add, cell_here h]
    have : C.toList[k]? = some (tv x) := by rw [hC]; unfold tcells; rw [List.getElem?_map, hk]; rfl
    simpa using this⟩⟩
end Go.Proofs.YtobicmpgfiddhaaDoor
namespace Go.Proofs.YtobicmpgfiddhaaDoor
open Go.RowKit
set_option linter.unusedVariables false
set_option linter.unusedSimpArgs false

/-- a slice that reads as these rules -/
def RdU (w : World) (v : Value) (l : List RU) : Prop :=
  ∃ A c, v = .slice A l.length c ∧ l.length ≤ c ∧ ∀ k r, l[k]? = some r → ∃ g o u, A = some ⟨g, o, none⟩ ∧ g < w.heap.size ∧ w.cell? ⟨g, o + k * 2, none⟩ = some (tv r.op) ∧ w.cell? ⟨g, o + k * 2 + 1, none⟩ = some u ∧ RdT w u r.args
theorem RdU.below {w w' : World} {v : Value} {l : List RU} (h : RdU w v l) (hb : Below w.heap.size w w') : RdU w' v l := by
  obtain ⟨A, c, rfl, hc, h⟩ := h
  refine ⟨A, c, rfl, hc, fun k r hk => ?_⟩
  obtain ⟨g, o, u, rfl, hg, h1, h2, h3⟩ := h k r hk
  have he := hb.block g hg
  exact ⟨g, o, u, rfl, Nat.lt_of_lt_of_le hg hb.size, (World.cell?_of_block he).trans h1, (World.cell?_of_block he).trans h2, h3.below hb⟩
theorem RdU.at {w : World} {A : Option Addr} {c n : Nat} {l : List RU} (h : RdU w (.slice A n c) l) (k : Nat) (hk : k < l.length) : ∃ g o u, A = some ⟨g, o, none⟩ ∧ g < w.heap.size ∧ w.cell? ⟨g, o + k * 2, none⟩ = some (tv l[k].op) ∧ w.cell? ⟨g, o + k * 2 + 1, none⟩ = some u ∧ RdT w u l[k].args := by
  obtain ⟨A', c', e, hc, hA⟩ := h
  cases e
  exact hA k _ (List.getElem?_eq_getElem hk)
/-- a slice of slices of texts: the words of rules -/
def RdX (w : World) (v : Value) (l : List (List (List UInt8))) : Prop :=
  ∃ A c, v = .slice A l.length c ∧ l.length ≤ c ∧ ∀ k r, l[k]? = some r → ∃ g o u, A = some ⟨g, o, none⟩ ∧ g < w.heap.size ∧ w.cell? ⟨g, o + k, none⟩ = some u ∧ RdT w u r
theorem RdX.below {w w' : World} {v : Value} {l : List (List (List UInt8))} (h : RdX w v l) (hb : Below w.heap.size w w') : RdX w' v l := by
  obtain ⟨A, c, rfl, hc, h⟩ := h
  refine ⟨A, c, rfl, hc, fun k r hk => ?_⟩
  obtain ⟨g, o, u, rfl, hg, h1, h2⟩ := h k r hk
  have he := hb.block g hg
  exact ⟨g, o, u, rfl, Nat.lt_of_lt_of_le hg hb.size, (World.cell?_of_block he).trans h1, h2.below hb⟩
theorem RdX.at {w : World} {A : Option Addr} {c n : Nat} {l : List (List (List UInt8))} (h : RdX w (.slice A n c) l) (k : Nat) (hk : k < l.length) : ∃ g o u, A = some ⟨g, o, none⟩ ∧ g < w.heap.size ∧ w.cell? ⟨g, o + k, none⟩ = some u ∧ RdT w u l[k] := by
  obtain ⟨A', c', e, hc, hA⟩ := h
  cases e
  exact hA k _ (List.getElem?_eq_getElem hk)
def RU.words (r : RU) : List (List UInt8) := r.op :: r.args
end Go.Proofs.YtobicmpgfiddhaaDoor
namespace Go.Proofs.YtobicmpgfiddhaaDoor
open Go.RowKit
set_option linter.unusedVariables false
set_option linter.unusedSimpArgs false

/-- whatever lay below B lies as it lay, but block p -/
structure ButO (B p : Nat) (w w' : World) : Prop where
  os : w'.os = w.os
  tape : w'.tape = w.tape
  output : w'.output = w.output
  size : w.heap.size ≤ w'.heap.size
  block : ∀ k, k < B → k ≠ p → w'.heap[k]? = w.heap[k]?
theorem ButO.refl (B p : Nat) (w : World) : ButO B p w w := ⟨rfl, rfl, rfl, Nat.le_refl _, fun _ _ _ => rfl⟩
theorem ButO.trans {B p : Nat} {a b c : World} (h : ButO B p a b) (k : ButO B p b c) : ButO B p a c :=
  ⟨k.os.trans h.os, k.tape.trans h.tape, k.output.trans h.output, Nat.le_trans h.size k.size, fun i h1 h2 => (k.block i h1 h2).trans (h.block i h1 h2)⟩
theorem ButO.of {B p : Nat} {w w' : World} (h : Below B w w') : ButO B p w w' := ⟨h.os, h.tape, h.output, h.size, fun k hk _ => h.block k hk⟩
theorem ButO.low {B p A : Nat} {w w' : World} (h : ButO B p w w') (h1 : A ≤ B) (h2 : A ≤ p) : Below A w w' := ⟨h.os, h.tape, h.output, h.size, fun k hk => h.block k (by omega) (by omega)⟩
theorem ButO.mono {B B' p : Nat} {w w' : World} (h : ButO B p w w') (hB : B' ≤ B) : ButO B' p w w' := ⟨h.os, h.tape, h.output, h.size, fun k hk hp => h.block k (by omega) hp⟩
theorem ButO.set {B p : Nat} {w w' : World} (h : ButO B p w w') {b o : Nat} (hb : B ≤ b ∨ b = p) (v : Value) : ButO B p w (w'.setCell ⟨b, o, none⟩ v) :=
  ⟨h.os, h.tape, h.output, by rw [set_size]; exact h.size, fun k h1 h2 => (set_there v (by omega)).trans (h.block k h1 h2)⟩
theorem ButO.set5 {B p : Nat} {w w' : World} (h : ButO B p w w') {b o : Nat} (hb : B ≤ b ∨ b = p) (c0 c1 c2 c3 c4 : Value) : ButO B p w (set5 w' b o c0 c1 c2 c3 c4) := by
  unfold Proofs.YtobicmpgfiddhaaDoor.set5
  exact ((((h.set hb c0).set hb c1).set hb c2).set hb c3).set hb c4
theorem ButO.grown {B p : Nat} {w w' w'' : World} {row : Option Nat} (h : ButO B p w w') (hg : w'.grownBy w'' row) (hB : B ≤ w'.heap.size) (hr : ∀ k, row = some k → B ≤ k ∨ k = p) : ButO B p w w'' :=
  ⟨hg.os.trans h.os, hg.tape.trans h.tape, hg.output.trans h.output, Nat.le_trans h.size hg.size, fun k h1 h2 => (hg.block k (by omega) (fun e => by have := hr k e.symm; omega)).trans (h.block k h1 h2)⟩

/-- a block apart from the object's -/
def ApB (p : Nat) (lv kv : Value) (g : Nat) : Prop := g ≠ p ∧ lv.ownBlock ≠ some g ∧ kv.ownBlock ≠ some g
/-- a value that lies apart from the object's blocks -/
def ApV (B : Nat) (w : World) (p : Nat) (lv kv : Value) (x : V) (cs : List Value) : Prop := ∃ L N, (N = 0 ∨ B ≤ L) ∧ N ≤ w.heap.size ∧ (∀ g, L ≤ g → g < N → ApB p lv kv g) ∧ VIs w L N x cs
theorem ApV.step {B : Nat} {w w' : World} {p : Nat} {lv kv lv' kv' : Value} {x : V} {cs : List Value} (h : ApV B w p lv kv x cs) (hk : ∀ g, g < w.heap.size → ApB p lv kv g → w'.heap[g]? = w.heap[g]?) (hs : w.heap.size ≤ w'.heap.size)
    (ha : ∀ g, g < w.heap.size → ApB p lv kv g → ApB p lv' kv' g) : ApV B w' p lv' kv' x cs := by
  obtain ⟨L, N, h0, h1, h2, h3⟩ := h
  exact ⟨L, N, h0, Nat.le_trans h1 hs, fun g a b => ha g (by omega) (h2 g a b), h3.keep2 fun q q1 q2 => World.cell?_of_block (w := w) (hk q.block (by omega) (h2 _ q1 q2))⟩
theorem ApV.form {B : Nat} {w : World} {p : Nat} {lv kv : Value} {x : V} {cs : List Value} (h : ApV B w p lv kv x cs) : ∃ A c A' c', cs = [.int .i64 x.kind, .int .i64 x.num, .string ⟨x.text.toArray⟩, .slice A x.list.length c, .slice A' x.keys.length c'] := by
  obtain ⟨L, N, _, _, _, h3⟩ := h; exact h3.form
theorem ApV.one {B : Nat} {w : World} {p : Nat} {lv kv : Value} {x : V} {cs : List Value} (h : ApV B w p lv kv x cs) : ∀ u ∈ cs, u.oneCell' = true := by
  obtain ⟨L, N, _, _, _, h3⟩ := h; exact five_oneR h3
/-- the object in its variable p, its rows from block B on -/
structure ROut (B p : Nat) (w : World) (lv kv : Value) (l : List V) (ks : List (List UInt8)) (xs : List Value) : Prop where
  var : w.heap[p]? = some (.cells #[.int .i64 6, .int .i64 0, .string ⟨#[]⟩, lv, kv] 25 (0, 0))
  rowL : w.ownsRow B 25 5 lv l.length xs
  rowK : w.ownsRow B 9 1 kv ks.length (ksCells ks)
  far : lv.ownBlock ≠ some p
  elem : ∀ i (h : i < l.length), ∃ c0 c1 c2 c3 c4, xs[i * 5]? = some c0 ∧ xs[i * 5 + 1]? = some c1 ∧ xs[i * 5 + 2]? = some c2 ∧ xs[i * 5 + 3]? = some c3 ∧ xs[i * 5 + 4]? = some c4 ∧ ApV B w p lv kv l[i] [c0, c1, c2, c3, c4]
theorem ROut.start {B p : Nat} {w : World} (hv : w.heap[p]? = some (.cells #[.int .i64 6, .int .i64 0, .string ⟨#[]⟩, .slice none 0 0, .slice none 0 0] 25 (0, 0))) : ROut B p w (.slice none 0 0) (.slice none 0 0) [] [] [] :=
  ⟨hv, ⟨rfl, .inl ⟨rfl, rfl⟩⟩, ⟨rfl, .inl ⟨rfl, rfl⟩⟩, fun e => (by cases e), fun i h => absurd h (Nat.not_lt_zero _)⟩
theorem ROut.psize {B p : Nat} {w : World} {lv kv : Value} {l : List V} {ks : List (List UInt8)} {xs : List Value} (h : ROut B p w lv kv l ks xs) : p < w.heap.size := (Array.getElem?_eq_some_iff.1 h.var).1
theorem ROut.farK {B p : Nat} {w : World} {lv kv : Value} {l : List V} {ks : List (List UInt8)} {xs : List Value} (h : ROut B p w lv kv l ks xs) : kv.ownBlock ≠ some p := own_not h.rowK h.var (by decide)
/-- other blocks made or written -/
theorem ROut.keep {B p : Nat} {w w' : World} {lv kv : Value} {l : List V} {ks : List (List UInt8)} {xs : List Value} (h : ROut B p w lv kv l ks xs) (hb : Below w.heap.size w w') : ROut B p w' lv kv l ks xs := by
  refine ⟨(hb.block _ h.psize).trans h.var, own_below h.rowL hb, own_below h.rowK hb, h.far, fun i hi => ?_⟩
  obtain ⟨c0, c1, c2, c3, c4, e0, e1, e2, e3, e4, hv⟩ := h.elem i hi
  exact ⟨c0, c1, c2, c3, c4, e0, e1, e2, e3, e4, hv.step (fun g hg _ => hb.block g hg) hb.size fun g _ h => h⟩
/-- a block below its rows is written, that is not its own -/
theorem ROut.other {B p q : Nat} {w w' : World} {lv kv : Value} {l : List V} {ks : List (List UInt8)} {xs : List Value} (h : ROut B p w lv kv l ks xs) (hq : q < B) (hqp : q ≠ p) (hb : ∀ k, k ≠ q → w'.heap[k]? = w.heap[k]?) (hs : w.heap.size ≤ w'.heap.size) : ROut B p w' lv kv l ks xs := by
  refine ⟨(hb _ (Ne.symm hqp)).trans h.var, own_kept h.rowL fun g hg => hb g (by have := (h.rowL.lt g hg).1; omega), own_kept h.rowK fun g hg => hb g (by have := (h.rowK.lt g hg).1; omega), h.far, fun i hi => ?_⟩
  obtain ⟨c0, c1, c2, c3, c4, e0, e1, e2, e3, e4, L, N, h0, h1, h2, h3⟩ := h.elem i hi
  refine ⟨c0, c1, c2, c3, c4, e0, e1, e2, e3, e4, L, N, h0, Nat.le_trans h1 hs, h2, h3.keep2 fun r r1 r2 => World.cell?_of_block (w := w) (hb r.block ?_)⟩
  rcases h0 with h0 | h0 <;> omega
/-- a value made since is apart -/
theorem ROut.fresh {B p : Nat} {w w' : World} {lv kv : Value} {l : List V} {ks : List (List UInt8)} {xs : List Value} (h : ROut B p w lv kv l ks xs) {L N : Nat} {x : V} {cs : List Value} (hB : B ≤ w.heap.size) (hL : w.heap.size ≤ L) (hN : N ≤ w'.heap.size) (hv : VIs w' L N x cs) : ApV B w' p lv kv x cs := by
  refine ⟨L, N, .inr (Nat.le_trans hB hL), hN, fun g h1 h2 => ⟨?_, fun e => ?_, fun e => ?_⟩, hv⟩
  · have := h.psize; omega
  · have := (h.rowL.lt g e).2; omega
  · have := (h.rowK.lt g e).2; omega
/-- keys more: behind the append, and the store of the row -/
theorem ROut.keysMore {B p : Nat} {w w2 : World} {lv kv kv' : Value} {l : List V} {ks : List (List UInt8)} {xs : List Value} (h : ROut B p w lv kv l ks xs) (new : List (List UInt8))
    (hown : w2.ownsRow B 9 1 kv' (ks.length + new.length) (ksCells ks ++ ksCells new)) (hg : w.grownBy w2 kv.ownBlock) (hat : kv'.ownBlock = kv.ownBlock ∨ kv'.ownBlock = some w.heap.size) :
    ROut B p (w2.setCell ⟨p, 4, none⟩ kv') lv kv' l (ks ++ new) xs := by
  have hps := h.psize
  have hkp := h.farK
  have hv2 := (hg.block p hps (fun e => hkp e.symm)).trans h.var
  have hkp' := own_not hown hv2 (by decide)
  refine ⟨?_, ?_, ?_, h.far, fun i hi => ?_⟩
  · have := set_here (o := 4) hv2 kv'
    simpa using this
  · exact own_kept h.rowL fun g hgl => (set_there _ (fun e => h.far (by rw [← e]; exact hgl))).trans (hg.block g (h.rowL.lt g hgl).2 (fun e => own_apart h.rowL h.rowK (by decide) g hgl e.symm))
  · rw [List.length_append]
    have : ksCells (ks ++ new) = ksCells ks ++ ksCells new := by simp [ksCells]
    rw [this]
    exact own_kept hown fun g hgk => set_there _ (fun e => hkp' (by rw [← e]; exact hgk))
  · obtain ⟨c0, c1, c2, c3, c4, e0, e1, e2, e3, e4, hv⟩ := h.elem i hi
    refine ⟨c0, c1, c2, c3, c4, e0, e1, e2, e3, e4, hv.step (fun g hgs ⟨a1, a2, a3⟩ => (set_there _ a1).trans (hg.block g hgs fun e => a3 e.symm)) (by rw [set_size]; exact hg.size) fun g hgs ⟨a1, a2, a3⟩ => ⟨a1, a2, fun e => ?_⟩⟩
    rcases hat with ha | ha
    · rw [ha] at e; exact a3 e
    · rw [ha] at e; injection e with e; omega
/-- a value of it is another one -/
theorem ROut.itemSet {B p g c : Nat} {w : World} {kv : Value} {l : List V} {ks : List (List UInt8)} {xs : List Value} (h : ROut B p w (.slice (some ⟨g, 0, none⟩) l.length c) kv l ks xs) (j : Nat) (hj : j < l.length) (x : V) {c0 c1 c2 c3 c4 : Value} (hx : ApV B w p (.slice (some ⟨g, 0, none⟩) l.length c) kv x [c0, c1, c2, c3, c4]) :
    ROut B p (set5 w g (j * 5) c0 c1 c2 c3 c4) (.slice (some ⟨g, 0, none⟩) l.length c) kv (l.set j x) ks (put5 xs (j * 5) c0 c1 c2 c3 c4) := by
  have hgp : g ≠ p := fun e => h.far (by rw [e]; rfl)
  have hlen : xs.length = l.length * 5 := h.rowL.1
  have hr : (set5 w g (j * 5) c0 c1 c2 c3 c4).ownsRow B 25 5 (.slice (some ⟨g, 0, none⟩) l.length c) l.length (put5 xs (j * 5) c0 c1 c2 c3 c4) := by
    have r0 := (h.rowL.stored (j * 5) c0).1
    have r1 := (r0.stored (j * 5 + 1) c1).1
    have r2 := (r1.stored (j * 5 + 2) c2).1
    have r3 := (r2.stored (j * 5 + 3) c3).1
    exact (r3.stored (j * 5 + 4) c4).1
  have hst : ∀ {y : V} {cs : List Value}, ApV B w p (.slice (some ⟨g, 0, none⟩) l.length c) kv y cs → ApV B (set5 w g (j * 5) c0 c1 c2 c3 c4) p (.slice (some ⟨g, 0, none⟩) l.length c) kv y cs := fun hv =>
    hv.step (fun q _ ⟨_, a2, _⟩ => set5_there (fun e => a2 (by rw [e]; rfl))) (by rw [set5_size]; exact Nat.le_refl _) fun q _ h => h
  refine ⟨(set5_there (Ne.symm hgp)).trans h.var, by rw [List.length_set]; exact hr, own_kept h.rowK fun g' hg' => set5_there (fun e => ?_), h.far, fun i hi => ?_⟩
  · exact own_apart h.rowL h.rowK (by decide) g rfl (by rw [← e]; exact hg')
  · rw [List.length_set] at hi
    by_cases hij : i = j
    · subst hij
      obtain ⟨e0, e1, e2, e3, e4⟩ := put5_at (xs := xs) (j := i * 5) (by omega) c0 c1 c2 c3 c4
      exact ⟨c0, c1, c2, c3, c4, e0, e1, e2, e3, e4, by rw [List.getElem_set_self]; exact hst hx⟩
    · obtain ⟨d0, d1, d2, d3, d4, e0, e1, e2, e3, e4, hv⟩ := h.elem i hi
      have ho : ∀ k, k < 5 → (put5 xs (j * 5) c0 c1 c2 c3 c4)[i * 5 + k]? = xs[i * 5 + k]? := fun k hk => put5_other (by omega) c0 c1 c2 c3 c4
      exact ⟨d0, d1, d2, d3, d4, (ho 0 (by decide)).trans e0, (ho 1 (by decide)).trans e1, (ho 2 (by decide)).trans e2, (ho 3 (by decide)).trans e3, (ho 4 (by decide)).trans e4, by rw [List.getElem_set_ne (Ne.symm hij)]; exact hst hv⟩
/-- an item more: behind the append, and the store of the row -/
theorem ROut.itemMore {B p : Nat} {w w2 : World} {lv lv' kv : Value} {l : List V} {ks : List (List UInt8)} {xs ys : List Value} (h : ROut B p w lv kv l ks xs) (x : V) (hy : ∃ c0 c1 c2 c3 c4, ys = [c0, c1, c2, c3, c4] ∧ ApV B w p lv kv x ys)
    (hown : w2.ownsRow B 25 5 lv' (l.length + 1) (xs ++ ys)) (hg : w.grownBy w2 lv.ownBlock) (hat : lv'.ownBlock = lv.ownBlock ∨ lv'.ownBlock = some w.heap.size) :
    ROut B p (w2.setCell ⟨p, 3, none⟩ lv') lv' kv (l ++ [x]) ks (xs ++ ys) := by
  obtain ⟨y0, y1, y2, y3, y4, rfl, hyv⟩ := hy
  have hps := h.psize
  have hxl := h.rowL.1
  have hf : lv'.ownBlock ≠ some p := fun e => by
    rcases hat with ha | ha
    · rw [ha] at e; exact h.far e
    · rw [ha] at e; injection e with e; omega
  have hv2 := (hg.block p hps (fun e => h.far e.symm)).trans h.var
  have hst : ∀ {y : V} {cs : List Value}, ApV B w p lv kv y cs → ApV B (w2.setCell ⟨p, 3, none⟩ lv') p lv' kv y cs := fun hv =>
    hv.step (fun g hgs ⟨a1, a2, a3⟩ => (set_there _ a1).trans (hg.block g hgs fun e => a2 e.symm)) (by rw [set_size]; exact hg.size) fun g hgs ⟨a1, a2, a3⟩ => ⟨a1, fun e => by
      rcases hat with ha | ha
      · rw [ha] at e; exact a2 e
      · rw [ha] at e; injection e with e; omega, a3⟩
  refine ⟨?_, ?_, ?_, hf, fun i hi => ?_⟩
  · have := set_here (o := 3) hv2 lv'
    simpa using this
  · rw [List.length_append, List.length_singleton]
    exact own_kept hown fun g hgl => set_there _ (fun e => hf (by rw [← e]; exact hgl))
  · exact own_kept h.rowK fun g hgk => (set_there _ (fun e => h.farK (by rw [← e]; exact hgk))).trans (hg.block g (h.rowK.lt g hgk).2 (fun e => own_apart h.rowL h.rowK (by decide) g e.symm hgk))
  · rcases Nat.lt_or_ge i l.length with hil | hil
    · obtain ⟨d0, d1, d2, d3, d4, e0, e1, e2, e3, e4, hv⟩ := h.elem i hil
      have hgl : (l ++ [x])[i] = l[i] := List.getElem_append_left hil
      rw [hgl]
      refine ⟨d0, d1, d2, d3, d4, ?_, ?_, ?_, ?_, ?_, hst hv⟩
      · rw [List.getElem?_append_left (by omega)]; exact e0
      · rw [List.getElem?_append_left (by omega)]; exact e1
      · rw [List.getElem?_append_left (by omega)]; exact e2
      · rw [List.getElem?_append_left (by omega)]; exact e3
      · rw [List.getElem?_append_left (by omega)]; exact e4
    · have hie : i = l.length := by simp at hi; omega
      subst hie
      have hgl : (l ++ [x])[l.length] = x := by simp
      rw [hgl]
      exact ⟨y0, y1, y2, y3, y4, app_at hxl _ _ _ _ _ (k := 0) (by decide), app_at hxl _ _ _ _ _ (k := 1) (by decide), app_at hxl _ _ _ _ _ (k := 2) (by decide), app_at hxl _ _ _ _ _ (k := 3) (by decide), app_at hxl _ _ _ _ _ (k := 4) (by decide), hst hyv⟩
/-- what its keys' row reads as -/
theorem ROut.keysIs {B p : Nat} {w : World} {lv kv : Value} {l : List V} {ks : List (List UInt8)} {xs : List Value} (h : ROut B p w lv kv l ks xs) : ∃ A c, kv = .slice A ks.length c ∧ (ks = [] ∨ ∃ b o, A = some ⟨b, o, none⟩ ∧ KIs w 0 w.heap.size ks b o) := by
  have hc := fun g => World.ownsRow.cells (g := g) h.rowK
  rcases h.rowK.2 with ⟨hv, h0⟩ | ⟨g, cap, cur, hv, hB, hg, _⟩
  · exact ⟨none, 0, by rw [hv, h0], .inl (List.length_eq_zero_iff.1 h0)⟩
  · refine ⟨_, _, hv, .inr ⟨g, 0, rfl, KIs.of (Nat.zero_le _) (Array.getElem?_eq_some_iff.1 hg).1 fun i hi => ?_⟩⟩
    have := hc g (by rw [hv]; rfl) i (.string ⟨ks[i].toArray⟩) (by unfold ksCells; rw [List.getElem?_map, List.getElem?_eq_getElem hi]; rfl)
    rwa [Addr.add_lit] at this
/-- it reads as its value -/
theorem ROut.is {B p : Nat} {w : World} {lv kv : Value} {l : List V} {ks : List (List UInt8)} {xs : List Value} (h : ROut B p w lv kv l ks xs) (hl : l.length ≤ 9223372036854775807) (hk : ks.length ≤ 9223372036854775807) (hz : ∀ x ∈ ks, x.length ≤ 9223372036854775807) : VIs w 0 w.heap.size (.mk 6 0 [] l ks) [.int .i64 6, .int .i64 0, .string ⟨#[]⟩, lv, kv] := by
  obtain ⟨A', c', rfl, hA'⟩ := h.keysIs
  obtain ⟨A, c, rfl, hA⟩ : ∃ A c, lv = .slice A l.length c ∧ (l = [] ∨ ∃ b o, A = some ⟨b, o, none⟩ ∧ LIs w 0 w.heap.size l b o) := by
    have hc := fun g => World.ownsRow.cells (g := g) h.rowL
    rcases h.rowL.2 with ⟨hv, h0⟩ | ⟨g, cap, cur, hv, hB, hg, _⟩
    · exact ⟨none, 0, by rw [hv, h0], .inl (List.length_eq_zero_iff.1 h0)⟩
    · refine ⟨_, _, hv, .inr ⟨g, 0, rfl, LIs.of (Nat.zero_le _) (Array.getElem?_eq_some_iff.1 hg).1 fun i hi => ?_⟩⟩
      obtain ⟨c0, c1, c2, c3, c4, e0, e1, e2, e3, e4, L, N, _, hN, _, hv'⟩ := h.elem i hi
      have hcc : ∀ j u, xs[j]? = some u → w.cell? ⟨g, 0 + j, none⟩ = some u := fun j u hu => by
        have := hc g (by rw [hv]; rfl) j u hu
        rwa [Addr.add_lit] at this
      exact ⟨[c0, c1, c2, c3, c4], ⟨c0, c1, c2, c3, c4, rfl, hcc _ _ e0, hcc _ _ e1, hcc _ _ e2, hcc _ _ e3, hcc _ _ e4⟩, hv'.more (Nat.zero_le _) hN⟩
  exact VIs.mk (t := []) ⟨hl, hk, by simp, hz⟩ hA' hA
end Go.Proofs.YtobicmpgfiddhaaDoor
namespace Go.Proofs.YtobicmpgfiddhaaDoor
open Go.RowKit
set_option linter.unusedVariables false
set_option linter.unusedSimpArgs false

/-- one block is turned: the iterator's cell, or one of the loop's own books; new ones may come -/
def TurnC (b0 Bn : Nat) (A B : World) : Prop := ∃ q, (q = Bn ∨ (b0 ≤ q ∧ ∃ o : Obj, A.heap[q]? = some o ∧ o.isCells = false)) ∧ ButO A.heap.size q A B
theorem turn_alloc (b0 Bn : Nat) (A : World) (o : Obj) : TurnC b0 Bn A (A.alloc o) := ⟨Bn, .inl rfl, ButO.of ((Below.refl _ A).alloc (Nat.le_refl _) o)⟩
theorem turn_put {b0 Bn l : Nat} {A : World} {o : Obj} (o' : Obj) (hl : b0 ≤ l) (h : A.heap[l]? = some o) (hc : o.isCells = false) : TurnC b0 Bn A (A.putObj l o') :=
  ⟨l, .inr ⟨hl, o, h, hc⟩, rfl, rfl, rfl, (grownBy_putObj' A l o').size, fun k _ hk => World.putObj_heap_other hk⟩
theorem turn_cell {b0 Bn : Nat} {A B : World} (h : ButO A.heap.size Bn A B) : TurnC b0 Bn A B := ⟨Bn, .inl rfl, h⟩
/-- how a round may be left -/
def postC {α : Type} (b0 : Nat) (K : Nat → Prop) (I Ix : List α → World → Prop) (xs : List α) (W : World) : Exit → Act → World → Prop
  | .normal, _, W' => KeepsFrom b0 W W' ∧ (∀ k, K k → W'.heap[k]? = W.heap[k]?) ∧ I xs W'
  | .ret, _, W' => KeepsFrom b0 W W' ∧ Ix xs W'
  | _, _, _ => False
/-- what the iterator gives, whatever its caller holds that abides its own cell's turns -/
def SeqC {α : Type} (F : Fence) (n : Nat) (P : Program) (g : Nat) (lb : Array Value) (encs : α → Array Value) (Bn : Nat) (K : Nat → Prop) (S Sp : List α → Prop) (N : Nat) (w : World) : Prop :=
  ∀ (l : Nat) (J Jx : List α → World → Prop) (W : World), Below w.heap.size w W → (∀ s A B, J s A → ButO A.heap.size Bn A B → J s B) → (∀ s A B, Jx s A → ButO A.heap.size Bn A B → Jx s B) →
    (∀ pre x W1, J pre W1 → pre.length < N → YieldAt F (n - 1) P l (encs x) W1 fun e W' =>
      (e = .returned (.bool true) ∧ J (pre ++ [x]) W' ∧ ∀ k, K k → W'.heap[k]? = W1.heap[k]?) ∨ (e = .returned (.bool false) ∧ Jx (pre ++ [x]) W')) →
    J [] W → CallsIn F n P g (#[.func (.yield l) #[] #[]] ++ lb) W fun e W' => (∃ v, e = .returned v) ∧ ((∃ xs, S xs ∧ J xs W') ∨ (∃ pre, Sp pre ∧ Jx pre W'))
variable {F : Fence} {n : Nat} {P : Program}
theorem range_cell {α : Type} {g : Operand} {ps : Array Tmp} {assign body : Code} {Q : Exit → Act → World → Prop} {a : Act} {w : World}
    (hro : F.round = none) (h1 : 1 ≤ n) {gf : Nat} {lb : Array Value} (hg : a.eval g = .func (.func gf) #[] lb) (hFg : F.fn gf) (eg : ∀ args w, (callFunc gf args).run P w = .ok (.enter gf args) w)
    {encs : α → Array Value} {Bn : Nat} {K : Nat → Prop} {S Sp : List α → Prop} {N : Nat} (hBn : Bn < w.heap.size) (hK : ∀ k, K k → k < w.heap.size) (hseq : SeqC F (n - 1) P gf lb encs Bn K S Sp N w) (hps : ∀ x, (encs x).size = ps.size)
    (I Ix : List α → World → Prop) (hI : ∀ s A B, I s A → TurnC w.heap.size Bn A B → I s B) (hIx : ∀ s A B, Ix s A → TurnC w.heap.size Bn A B → Ix s B) (h0 : I [] w) (a₁ : α → Act)
    (hassign : ∀ (l : Nat) (x : α) (W : World) (K : Act → World → Prop), K (a₁ x) W →
      assign.wpIn (F.inRound l) (n - 1 - 1) P (Exit.then K (fun _ _ _ => False)) { tmps := (ps.zip (encs x)).foldl (fun t (p, v) => t.setIfInBounds p v) a.tmps, defers := [] } W)
    (hbody : ∀ (l : Nat) (pre : List α) (x : α) (W : World), I pre W → w.heap.size ≤ W.heap.size → pre.length < N → body.wpIn (F.inRound l) (n - 1 - 1) P (postC w.heap.size K I Ix (pre ++ [x]) W) (a₁ x) W)
    (hdone : ∀ (D : Nat) (xs : List α) (W : World), w.heap.size ≤ D → S xs → I xs W → W.heap[D]? = some (.deferred (some [])) → Q .normal { a with defers := { target := .collected D, args := #[] } :: a.defers } W)
    (hstop : ∀ (D : Nat) (pre : List α) (W : World), w.heap.size ≤ D → Sp pre → Ix pre W → W.heap[D]? = some (.deferred (some [])) → Code.ret.wpIn F n P Q { a with defers := { target := .collected D, args := #[] } :: a.defers } W) :
    (Code.rangeFunc g ps assign body).wpIn F n P Q a w := by
  refine wpIn_rangeFunc fun fn hfn => ?_
  rw [hro]
  -- the loop's two blocks: its deferred calls (D), its record (R)
  obtain ⟨D, hD⟩ : ∃ D, w.heap.size = D := ⟨_, rfl⟩
  obtain ⟨mk, hmk⟩ : ∃ mk : LoopState → Option Code → Loop, mk = fun st pe => { state := st, pending := pe, fn, tmps := a.tmps, params := ps, assign, body, defers := w.heap.size } := ⟨_, rfl⟩
  obtain ⟨V, hV⟩ : ∃ V, V = (w.alloc (.deferred (some []))).alloc (.loop (mk .ready none)) := ⟨_, rfl⟩
  have vR : V.heap[D + 1]? = some (.loop (mk .ready none)) := by
    have := World.alloc_heap_new (w.alloc (.deferred (some []))) (.loop (mk .ready none))
    rw [World.size_alloc, hD] at this
    rw [hV]; exact this
  have vD : V.heap[D]? = some (.deferred (some [])) := by rw [hV, ← hD]; exact (Below.heap_alloc _ _ _ (by simp)).trans (World.alloc_heap_new w _)
  have vI : I [] V := by rw [hV]; exact hI _ _ _ (hI _ _ _ h0 (turn_alloc ..)) (turn_alloc ..)
  have vB : Below w.heap.size w V := by rw [hV]; exact ((Below.refl _ w).alloc (Nat.le_refl _) _).alloc (by simp) _
  refine ⟨D + 1, [{ target := .collected D, args := #[] }], V, { target := .fn (.func gf) lb, args := #[.func (.yield (D + 1)) #[] #[]] }, V, gf, #[.func (.yield (D + 1)) #[] #[]] ++ lb, V, ?_, ?_, ?_, ?_, fun _ => h1, ?_⟩
  · have := run_enterLoop_outer (P := P) (w := w) fn a.tmps ps assign body
    rw [hV, hmk, ← hD]; exact this
  · simp only [resolve, hg]
    simp [go_sem]
  · intro f' hf'
    simp [Target.leads] at hf'
    subst hf'; exact hFg
  · simp [invoke, go_sem, eg]
  have hRp : ∀ pe, (mk .ready pe).params = ps := fun pe => by rw [hmk]
  have book : ∀ {A B : World} {k : Nat} {o : Obj}, ButO A.heap.size Bn A B → A.heap[k]? = some o → D ≤ k → B.heap[k]? = some o := fun hb ho hk =>
    (hb.block _ (Array.getElem?_eq_some_iff.1 ho).1 (by omega)).trans ho
  refine (hseq (D + 1) (fun pre W => I pre W ∧ W.heap[D + 1]? = some (.loop (mk .ready none)) ∧ W.heap[D]? = some (.deferred (some []))) (fun pre W => Ix pre W ∧ W.heap[D + 1]? = some (.loop (mk .done (some .ret))) ∧ W.heap[D]? = some (.deferred (some [])))
    V vB (fun s A B hs hb => ⟨hI _ _ _ hs.1 (turn_cell hb), book hb hs.2.1 (by omega), book hb hs.2.2 (by omega)⟩) (fun s A B hs hb => ⟨hIx _ _ _ hs.1 (turn_cell hb), book hb hs.2.1 (by omega), book hb hs.2.2 (by omega)⟩) ?_ ⟨vI, vR, vD⟩).mono ?_
  · -- one round
    rintro pre x W ⟨hi, hl, hk⟩ hlen
    have hlt := (Array.getElem?_eq_some_iff.1 hl).1
    have hy := run_yield (P := P) (args := encs x) hl (by rw [hRp]; exact hps x)
    rw [hmk] at hy
    refine ⟨fn, _, assign, body, hy, roundIn_of_wpIn hfn (hassign _ x W _ ⟨_, run_beginRound hl (by rw [hmk]), ?_⟩)⟩
    clear hy
    obtain ⟨Wb, hWb⟩ : ∃ Wb, Wb = W.putObj (D + 1) (.loop { mk .ready none with state := .busy }) := ⟨_, rfl⟩
    rw [← hWb]
    have bl : Wb.heap[D + 1]? = some (.loop { mk .ready none with state := .busy }) := by rw [hWb]; exact World.putObj_heap_same hlt
    have bk : Wb.heap[D]? = some (.deferred (some [])) := by rw [hWb]; exact (World.putObj_heap_other (by omega)).trans hk
    have bi : I pre Wb := by rw [hWb]; exact hI _ _ _ hi (turn_put _ (by omega) hl rfl)
    have bK : ∀ k, K k → Wb.heap[k]? = W.heap[k]? := fun k hk => by rw [hWb]; exact World.putObj_heap_other (by have := hK k hk; omega)
    have bs : w.heap.size ≤ Wb.heap.size := by have := (Array.getElem?_eq_some_iff.1 bl).1; omega
    refine wpIn_mono (hbody _ pre x Wb bi bs hlen) ?_
    have fin : ∀ (jump : Option Code) (W3 : World), KeepsFrom w.heap.size Wb W3 → (Instr.endRound (D + 1) jump).run P W3 = .ok (.bool jump.isNone) (W3.putObj (D + 1) (.loop (mk (if jump.isNone then .ready else .done) jump))) ∧
        (W3.putObj (D + 1) (.loop (mk (if jump.isNone then .ready else .done) jump))).heap[D + 1]? = some (.loop (mk (if jump.isNone then .ready else .done) jump)) ∧
        (W3.putObj (D + 1) (.loop (mk (if jump.isNone then .ready else .done) jump))).heap[D]? = some (.deferred (some [])) ∧ W3.heap[D + 1]? = some (.loop { mk .ready none with state := .busy }) := fun jump W3 hk3 => by
      have h3 := hk3.same _ _ (by omega) bl rfl
      have hr := run_endRound (P := P) jump h3
      rw [hmk] at hr h3 ⊢
      exact ⟨hr, World.putObj_heap_same (Array.getElem?_eq_some_iff.1 h3).1, (World.putObj_heap_other (by omega)).trans (hk3.same _ _ (by omega) bk rfl), h3⟩
    rintro e a3 W3 hp
    cases e with
    | normal =>
      obtain ⟨hk3, hs3, hi3⟩ := hp
      obtain ⟨hr, r1, r2, r3⟩ := fin none W3 hk3
      exact ⟨_, _, hr, .inl ⟨rfl, ⟨hI _ _ _ hi3 (turn_put _ (by omega) r3 rfl), r1, r2⟩, fun k hk => (World.putObj_heap_other (by have := hK k hk; omega)).trans ((hs3 k hk).trans (bK k hk))⟩⟩
    | ret =>
      obtain ⟨hk3, hi3⟩ := hp
      obtain ⟨hr, r1, r2, r3⟩ := fin (some .ret) W3 hk3
      exact ⟨_, _, hr, .inr ⟨rfl, hIx _ _ _ hi3 (turn_put _ (by omega) r3 rfl), r1, r2⟩⟩
    | exit id => exact hp.elim
    | goto t => exact hp.elim
    | panic ch => exact hp.elim
    | outgrown => exact hp.elim
  · -- behind the iterator
    rintro e W2 ⟨⟨v, rfl⟩, ⟨xs, hS, hi, hl, hk⟩ | ⟨pre, hSp, hi, hl, hk⟩⟩
    · refine ⟨none, _, by have := run_endLoop (P := P) hl (by rw [hmk]; simp); rw [hmk] at this; exact this, ?_⟩
      exact hdone D xs _ (by omega) hS (hI _ _ _ hi (turn_put _ (by omega) hl rfl)) ((World.putObj_heap_other (by omega)).trans hk)
    · refine ⟨some .ret, _, by have := run_endLoop (P := P) hl (by rw [hmk]; simp); rw [hmk] at this; exact this, ?_⟩
      exact hstop D pre _ (by omega) hSp (hIx _ _ _ hi (turn_put _ (by omega) hl rfl)) ((World.putObj_heap_other (by omega)).trans hk)
end Go.Proofs.YtobicmpgfiddhaaDoor
