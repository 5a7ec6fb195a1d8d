/- Texts merged by program, in build order: JsonRRead, LawRuleK, OpenValue, Both, LaidRule, RuleItem. -/
import Derived.Test.YtobicmpgfiddhaaDoorG12
import Derived.Test.YtobicmpgfiddhaaDoorG01
import Derived.Test.YtobicmpgfiddhaaDoorG02
import Derived.Test.YtobicmpgfiddhaaDoorG11
import Derived.Test.YtobicmpgfiddhaaDoorG05
import Derived.Deep.RegionLaw
import Derived.Deep.RegionWith
import Derived.ProofKit
import Derived.ChangeMaps5
import Derived.Deep.Slices
import Derived.SizedLaws
import Derived.Lib.LaidTab
import Derived.LaidMore
import Derived.LaidSub
import Derived.OpenShut
import Derived.Stop.Joined
import Derived.Stop.LaidErr
import Derived.HandedShaped
import Derived.Shelf.Vars
namespace Go.Proofs.YtobicmpgfiddhaaDoor
set_option linter.unusedVariables false
set_option linter.unusedSimpArgs false

theorem wordT_le : ∀ (m : Nat) (l acc t : List UInt8) (k n : Nat), l.length ≤ m → wordT l acc k = some (t, n) → t.length + k + 1 ≤ n + acc.length ∧ n ≤ k + l.length ∧ k < n
  | 0, l, acc, t, k, n, hl, h => by
    have : l = [] := List.length_eq_zero_iff.1 (by omega)
    subst this
    unfold wordT at h; cases h
  | m + 1, [], acc, t, k, n, hl, h => by unfold wordT at h; cases h
  | m + 1, c :: r, acc, t, k, n, hl, h => by
    rw [List.length_cons] at hl ⊢
    unfold wordT at h
    by_cases h34 : c = 34
    · rw [if_pos h34] at h
      injection h with h; injection h with h1 h2
      subst h1; subst h2
      omega
    · rw [if_neg h34] at h
      by_cases h92 : c = 92
      · rw [if_pos h92] at h
        match r, hl, h with
        | [], hl, h => cases h
        | e :: r', hl, h =>
          dsimp only at h
          by_cases he : e = 34 ∨ e = 92
          · rw [if_pos he] at h
            have := wordT_le m r' _ t _ n (by simp at hl; omega) h
            rw [List.length_append, List.length_singleton] at this
            rw [List.length_cons]
            omega
          · rw [if_neg he] at h
            match r', hl, h with
            | x :: y :: h' :: l' :: r'', hl, h =>
              dsimp only at h
              split at h
              · have := wordT_le m r'' _ t _ n (by simp at hl; omega) h
                rw [List.length_append, List.length_singleton] at this
                simp only [List.length_cons]
                omega
              · cases h
            | [], _, h => cases h
            | [_], _, h => cases h
            | [_, _], _, h => cases h
            | [_, _, _], _, h => cases h
      · rw [if_neg h92] at h
        have := wordT_le m r _ t _ n (by omega) h
        rw [List.length_append, List.length_singleton] at this
        omega
theorem numT_le : ∀ (l : List UInt8) (m : Nat) (v : Int) (n : Nat), n ≤ (numT l m v n).2 ∧ (numT l m v n).2 ≤ n + l.length
  | [], m, v, n => by cases m <;> exact ⟨Nat.le_refl _, Nat.le_refl _⟩
  | c :: r, 0, v, n => ⟨Nat.le_refl _, by show n ≤ n + _; omega⟩
  | c :: r, m + 1, v, n => by
    rw [numT]
    by_cases h : isDigit c
    · rw [if_pos h]
      have := numT_le r m (v * 10 + (c.toNat - 48 : Int)) (n + 1)
      rw [List.length_cons]; omega
    · rw [if_neg h]
      exact ⟨Nat.le_refl _, by show n ≤ n + _; omega⟩
theorem begins_len {s t : List UInt8} (h : beginsB s t = true) : t.length ≤ s.length := by
  unfold beginsB at h
  have := congrArg List.length (eq_of_beq h)
  rw [List.length_take] at this
  omega
mutual
/-- how much a value holds -/
def V.wt : V → Nat
  | .mk _ _ t l ks => 1 + t.length + V.wts l + kwts ks
def V.wts : List V → Nat
  | [] => 0
  | v :: r => v.wt + V.wts r
def kwts : List (List UInt8) → Nat
  | [] => 0
  | k :: r => 1 + k.length + kwts r
end
theorem wt_mk (k n : Int) (t : List UInt8) (l : List V) (ks : List (List UInt8)) : (V.mk k n t l ks).wt = 1 + t.length + V.wts l + kwts ks := by conv => lhs; unfold V.wt
theorem wts_cons (v : V) (r : List V) : V.wts (v :: r) = v.wt + V.wts r := by conv => lhs; unfold V.wts
theorem wts_nil : V.wts [] = 0 := by unfold V.wts; rfl
theorem kwts_cons (k : List UInt8) (r : List (List UInt8)) : kwts (k :: r) = 1 + k.length + kwts r := by conv => lhs; unfold kwts
theorem kwts_nil : kwts [] = 0 := by unfold kwts; rfl
theorem wts_snoc (l : List V) (v : V) : V.wts (l ++ [v]) = V.wts l + v.wt := by
  induction l with
  | nil => rw [List.nil_append, wts_cons, wts_nil]; omega
  | cons u r ih => rw [List.cons_append, wts_cons, wts_cons, ih]; omega
theorem kwts_snoc (l : List (List UInt8)) (k : List UInt8) : kwts (l ++ [k]) = kwts l + (1 + k.length) := by
  induction l with
  | nil => rw [List.nil_append, kwts_cons, kwts_nil]; omega
  | cons u r ih => rw [List.cons_append, kwts_cons, kwts_cons, ih]; omega
theorem wt_pos (v : V) : 1 ≤ v.wt := by obtain ⟨k, n, t, l, ks⟩ := v; rw [wt_mk]; omega
theorem wts_mem {l : List V} {v : V} (h : v ∈ l) : v.wt ≤ V.wts l := by
  induction l with
  | nil => cases h
  | cons u r ih =>
    rw [wts_cons]
    rcases List.mem_cons.1 h with rfl | h
    · omega
    · have := ih h; omega
def ReadV (f : Nat) : Prop := ∀ s : List UInt8, (valueT f s).2 ≤ s.length ∧ ((valueT f s).2 ≠ 0 → (valueT f s).1.wt ≤ (valueT f s).2)
def ReadL (f : Nat) : Prop := ∀ (obj : Bool) (s : List UInt8) (n : Nat) (ks : List (List UInt8)) (l : List V), (loopT f obj s n ks l).2 ≤ n + s.length ∧
  ((loopT f obj s n ks l).2 ≠ 0 → n < (loopT f obj s n ks l).2 ∧ (loopT f obj s n ks l).1.wt + n ≤ (loopT f obj s n ks l).2 + V.wts l + kwts ks)
theorem wt_plain (k n : Int) (t : List UInt8) : (V.mk k n t [] []).wt = 1 + t.length := by rw [wt_mk, wts_nil, kwts_nil]; rfl
/-- the key ahead of an item -/
def keyT (obj : Bool) (s : List UInt8) (ks : List (List UInt8)) : Option (List (List UInt8) × Nat) :=
  if obj then (if beginsB s [34] then (match wordT (s.drop 1) [] 1 with
      | some (t, k) => if beginsB (s.drop k) [58] then some (ks ++ [t], k + 1) else none
      | none => none) else none) else some (ks, 0)
theorem loopT_succ (f : Nat) (obj : Bool) (s : List UInt8) (n : Nat) (ks : List (List UInt8)) (l : List V) : loopT (f + 1) obj s n ks l = (match keyT obj s ks with
    | none => (.mk (if obj then 6 else 5) 0 [] l ks, 0)
    | some (ks', j) =>
      match valueT f (s.drop j) with
      | (x, k) =>
        if k = 0 then (.mk (if obj then 6 else 5) 0 [] l ks', 0)
        else if beginsB (s.drop (j + k)) [if obj then 125 else 93] then (.mk (if obj then 6 else 5) 0 [] (l ++ [x]) ks', n + j + k + 1)
        else if beginsB (s.drop (j + k)) [44] then loopT f obj (s.drop (j + k + 1)) (n + j + k + 1) ks' (l ++ [x])
        else (.mk (if obj then 6 else 5) 0 [] (l ++ [x]) ks', 0)) := by
  conv => lhs; unfold loopT
  rfl
theorem readL (f : Nat) (hv : ReadV f) (hl : ReadL f) : ReadL (f + 1) := by
  intro obj s n ks l
  rw [loopT_succ]
  obtain ⟨K, hK⟩ : ∃ K, keyT obj s ks = K := ⟨_, rfl⟩
  rw [hK]
  unfold keyT at hK
  cases K with
  | none => exact ⟨Nat.zero_le _, fun h => absurd rfl h⟩
  | some y =>
    obtain ⟨ks', j⟩ := y
    have hj : j ≤ s.length ∧ kwts ks' ≤ kwts ks + j := by
      cases obj with
      | false =>
        rw [if_neg (by decide)] at hK
        injection hK with hK; injection hK with h1 h2
        subst h1; subst h2; exact ⟨Nat.zero_le _, Nat.le_refl _⟩
      | true =>
        rw [if_pos rfl] at hK
        by_cases hb : beginsB s [34] = true
        · rw [if_pos hb] at hK
          have h1 := begins_len hb
          cases hw : wordT (s.drop 1) [] 1 with
          | none => rw [hw] at hK; cases hK
          | some z =>
            obtain ⟨t, k⟩ := z
            rw [hw] at hK
            dsimp only at hK
            by_cases hc : beginsB (s.drop k) [58] = true
            · rw [if_pos hc] at hK
              injection hK with hK; injection hK with h3 h4
              subst h3; subst h4
              have h2 := wordT_le _ _ _ _ _ _ (Nat.le_refl _) hw
              have h5 := begins_len hc
              simp only [List.length_drop, List.length_nil, List.length_singleton, List.length_cons] at h1 h2 h5
              rw [kwts_snoc]
              omega
            · rw [if_neg hc] at hK; cases hK
        · rw [if_neg hb] at hK; cases hK
    dsimp only
    have h1 := hv (s.drop j)
    cases hvv : valueT f (s.drop j) with
    | mk x k =>
    rw [hvv] at h1
    dsimp only at h1 ⊢
    rw [List.length_drop] at h1
    by_cases hk : k = 0
    · rw [if_pos hk]; exact ⟨Nat.zero_le _, fun h => absurd rfl h⟩
    · rw [if_neg hk]
      have hw := h1.2 hk
      by_cases he : beginsB (s.drop (j + k)) [if obj then 125 else 93] = true
      · rw [if_pos he]
        have h5 := begins_len he
        rw [List.length_drop, List.length_singleton] at h5
        dsimp only
        rw [wt_mk, wts_snoc, List.length_nil]
        refine ⟨by omega, fun _ => by omega⟩
      · rw [if_neg he]
        by_cases hc : beginsB (s.drop (j + k)) [44] = true
        · rw [if_pos hc]
          have h5 := begins_len hc
          rw [List.length_drop, List.length_singleton] at h5
          have h2 := hl obj (s.drop (j + k + 1)) (n + j + k + 1) ks' (l ++ [x])
          rw [List.length_drop, wts_snoc] at h2
          refine ⟨by omega, fun h => ?_⟩
          have := h2.2 h
          omega
        · rw [if_neg hc]; exact ⟨Nat.zero_le _, fun h => absurd rfl h⟩
theorem readVs (f : Nat) (hl : ReadL f) : ReadV (f + 1) := by
  intro s
  unfold valueT
  by_cases h1 : beginsB s nullT = true
  · rw [if_pos h1]
    have := begins_len h1
    exact ⟨this, fun _ => by rw [wt_plain]; decide⟩
  rw [if_neg h1]
  by_cases h2 : beginsB s trueT = true
  · rw [if_pos h2]
    have := begins_len h2
    exact ⟨this, fun _ => by rw [wt_plain]; decide⟩
  rw [if_neg h2]
  by_cases h3 : beginsB s falseT = true
  · rw [if_pos h3]
    have := begins_len h3
    exact ⟨this, fun _ => by rw [wt_plain]; decide⟩
  rw [if_neg h3]
  by_cases h4 : beginsB s [34] = true
  · rw [if_pos h4]
    have h5 := begins_len h4
    cases hw : wordT (s.drop 1) [] 1 with
    | none => exact ⟨Nat.zero_le _, fun h => absurd rfl h⟩
    | some z =>
      obtain ⟨t, n⟩ := z
      have h6 := wordT_le _ _ _ _ _ _ (Nat.le_refl _) hw
      rw [List.length_drop, List.length_nil] at h6
      rw [List.length_singleton] at h5
      dsimp only
      rw [wt_plain]
      exact ⟨by omega, fun _ => by omega⟩
  rw [if_neg h4]
  by_cases h5 : beginsB s [91] = true
  · rw [if_pos h5]
    have h6 := begins_len h5
    rw [List.length_singleton] at h6
    by_cases h7 : beginsB (s.drop 1) [93] = true
    · rw [if_pos h7]
      have h8 := begins_len h7
      rw [List.length_drop, List.length_singleton] at h8
      exact ⟨by show 2 ≤ _; omega, fun _ => by rw [wt_plain]; decide⟩
    · rw [if_neg h7]
      have h9 := hl false (s.drop 1) 1 [] []
      rw [List.length_drop, wts_nil, kwts_nil] at h9
      exact ⟨by omega, fun h => by have := h9.2 h; omega⟩
  rw [if_neg h5]
  by_cases h5b : beginsB s [123] = true
  · rw [if_pos h5b]
    have h6 := begins_len h5b
    rw [List.length_singleton] at h6
    by_cases h7 : beginsB (s.drop 1) [125] = true
    · rw [if_pos h7]
      have h8 := begins_len h7
      rw [List.length_drop, List.length_singleton] at h8
      exact ⟨by show 2 ≤ _; omega, fun _ => by rw [wt_plain]; decide⟩
    · rw [if_neg h7]
      have h9 := hl true (s.drop 1) 1 [] []
      rw [List.length_drop, wts_nil, kwts_nil] at h9
      exact ⟨by omega, fun h => by have := h9.2 h; omega⟩
  rw [if_neg h5b]
  by_cases h6 : beginsB s [45] = true
  · rw [if_pos h6]
    have h7 := begins_len h6
    rw [List.length_singleton] at h7
    have h8 := numT_le (s.drop 1) 17 0 1
    rw [List.length_drop] at h8
    cases hn : numT (s.drop 1) 17 0 1 with
    | mk v n =>
    rw [hn] at h8
    dsimp only at h8 ⊢
    rw [wt_plain]
    exact ⟨by omega, fun h => by simp; omega⟩
  · rw [if_neg h6]
    have h8 := numT_le s 18 0 0
    cases hn : numT s 18 0 0 with
    | mk v n =>
    rw [hn] at h8
    dsimp only at h8 ⊢
    rw [wt_plain]
    exact ⟨by omega, fun h => by simp; omega⟩
theorem read_all : ∀ f, ReadV f ∧ ReadL f
  | 0 => ⟨fun s => by unfold valueT; exact ⟨Nat.zero_le _, fun h => absurd rfl h⟩, fun obj s n ks l => by unfold loopT; exact ⟨Nat.zero_le _, fun h => absurd rfl h⟩⟩
  | f + 1 => ⟨readVs f (read_all f).2, readL f (read_all f).1 (read_all f).2⟩
theorem quoteT_wt (t : List UInt8) : (quoteT t).length ≤ 6 * t.length + 1 := by
  induction t with
  | nil => unfold quoteT; simp
  | cons c r ih =>
    unfold quoteT
    have h : (quoteC c).length ≤ 6 := by
      unfold quoteC; split
      · simp
      · split
        · simp
        · simp
    rw [List.length_append, List.length_cons]; omega
theorem quoteJ_wt (t : List UInt8) : (quoteJ t).length ≤ 6 * t.length + 2 := by
  have := quoteT_wt t
  unfold quoteJ; rw [List.length_cons]; omega
theorem itemsMore_wt (l : List V) (h : ∀ v ∈ l, v.show.length + 1 ≤ 24 * v.wt) : (V.itemsMore l).length ≤ 24 * V.wts l := by
  induction l with
  | nil => rw [itemsMore_nil]; simp
  | cons v r ih =>
    rw [itemsMore_cons, wts_cons, List.length_cons, List.length_append]
    have h1 := h v (by simp)
    have h2 := ih (fun u hu => h u (by simp [hu]))
    omega
theorem pairsMore_wt (l : List V) : ∀ (ks : List (List UInt8)), ks.length = l.length → (∀ v ∈ l, v.show.length + 1 ≤ 24 * v.wt) → (V.pairsMore l ks).length ≤ 24 * (V.wts l + kwts ks) := by
  induction l with
  | nil => intro ks _ _; rw [pairsMore_nil]; simp
  | cons v r ih =>
    intro ks hk h
    match ks, hk with
    | k :: ks, hk =>
      rw [pairsMore_cons, wts_cons, kwts_cons]
      have h1 := h v (by simp)
      have h2 := ih ks (by simpa using hk) (fun u hu => h u (by simp [hu]))
      have h3 := quoteJ_wt k
      simp only [List.headD_cons, List.tail_cons, List.length_cons, List.length_append]
      omega
theorem show_wt : ∀ (m : Nat) (v : V), v.size ≤ m → v.good = true → v.show.length + 1 ≤ 24 * v.wt
  | 0, v, hm, _ => absurd (by obtain ⟨k, n, t, l, ks⟩ := v; rw [size_mk]; omega : 0 < v.size) (by omega)
  | m + 1, v, hm, hg => by
    obtain ⟨k, n, t, l, ks⟩ := v
    have hh := good_head hg
    have ih : ∀ v ∈ l, v.show.length + 1 ≤ 24 * v.wt := fun v hv => by
      obtain ⟨i, hi, rfl⟩ := List.mem_iff_getElem.1 hv
      exact show_wt m l[i] (by have := size_get (k := k) (n := n) (t := t) (ks := ks) i hi; omega) (good_item hg i hi)
    have hk := hh.kind
    rw [wt_mk]
    have hkk : k = 1 ∨ k = 2 ∨ k = 3 ∨ k = 4 ∨ k = 5 ∨ k = 6 := by omega
    rcases hkk with rfl | rfl | rfl | rfl | rfl | rfl
    · have e : (V.mk 1 n t l ks).show = nullT := by unfold V.show; rfl
      rw [e]; show 4 + 1 ≤ _; omega
    · have e : (V.mk 2 n t l ks).show = trueT ∨ (V.mk 2 n t l ks).show = falseT := by
        unfold V.show
        by_cases h : n = 1
        · left; simp [h]
        · right; simp [h]
      rcases e with e | e <;> rw [e]
      · show 4 + 1 ≤ _; omega
      · show 5 + 1 ≤ _; omega
    · have e : (V.mk 3 n t l ks).show = decI n := by unfold V.show; rfl
      have := decI_len n (hh.num rfl)
      have h2 : (decI n).length ≤ 17 := by
        unfold decI; split
        · rw [List.length_cons]; omega
        · omega
      rw [e]; omega
    · have e : (V.mk 4 n t l ks).show = quoteJ t := by unfold V.show; rfl
      have := quoteJ_wt t
      rw [e]; omega
    · rw [show_list]
      rw [List.length_cons, List.length_append, List.length_singleton]
      have h1 : (V.items l).length ≤ 24 * V.wts l := by
        cases l with
        | nil => rw [items_nil]; simp
        | cons v r =>
          have h2 := itemsMore_wt (v :: r) ih
          rw [itemsMore_cons, List.length_cons] at h2
          rw [items_cons]; omega
      omega
    · rw [show_object]
      rw [List.length_cons, List.length_append, List.length_singleton]
      have hkl := hh.keys rfl
      have h1 : (V.pairs l ks).length ≤ 24 * (V.wts l + kwts ks) := by
        cases l with
        | nil => rw [pairs_nil]; simp
        | cons v r =>
          have h2 := pairsMore_wt (v :: r) ks hkl ih
          rw [pairsMore_cons, List.length_cons] at h2
          rw [pairs_cons]; omega
      omega
end Go.Proofs.YtobicmpgfiddhaaDoor
namespace Go.Proofs.YtobicmpgfiddhaaDoor
open Go.RowKit Go.Shelf
set_option linter.unusedVariables false
set_option linter.unusedSimpArgs false

/-- what good rules answer -/
theorem answer_kept {rs : List RU} {c : V} (hg : ∀ r ∈ rs, r.good = true) (hn : rs.length ≤ 64) : ((runU rs c).getD V.zero).fits 8 = decide (((runU rs c).getD V.zero).kind = 6) ∧ (∀ k ∈ ((runU rs c).getD V.zero).keys, keptR.contains k = false) ∧ ((runU rs c).getD V.zero).keys.length ≤ 64 := by
  cases h : runU rs c with
  | none => exact ⟨by decide, fun k hk => (by have hk' : k ∈ ([] : List (List UInt8)) := hk; cases hk'), Nat.zero_le 64⟩
  | some o =>
    have ho := (run_out hg h).more hn
    obtain ⟨h1, h2, h3⟩ := out_fits ho
    obtain ⟨l, ks, rfl, _, h4, _⟩ := ho.form
    exact ⟨h1, h3, h4⟩
theorem mk_out {w : World} {N : Nat} {vk vn : Int} {vt : List UInt8} {l : List V} {ks : List (List UInt8)} {k m : Int} {t : ByteArray} {B B' : Option Addr} {b d b' d' : Nat} (h : VIs w 0 N (.mk vk vn vt l ks) [.int .i64 k, .int .i64 m, .string t, .slice B b d, .slice B' b' d']) :
    k = vk ∧ m = vn ∧ t = ⟨vt.toArray⟩ ∧ b = l.length ∧ b' = ks.length ∧ (ks = [] ∨ ∃ q r, B' = some ⟨q, r, none⟩ ∧ KIs w 0 N ks q r) ∧ (l = [] ∨ ∃ q r, B = some ⟨q, r, none⟩ ∧ LIs w 0 N l q r) := by
  obtain ⟨-, A3, c3, A4, c4, hcs, hkk, hll⟩ := h.out
  injection hcs with e1 hcs
  injection hcs with e2 hcs
  injection hcs with e3 hcs
  injection hcs with e4 hcs
  injection hcs with e5 hcs
  injection e1 with _ e1
  injection e2 with _ e2
  injection e3 with e3
  injection e4 with e4 e6 e7
  injection e5 with e5 e8 e9
  subst e4; subst e5
  exact ⟨e1, e2, e3, e6, e8, hkk, hll⟩
theorem small_texts {u : V} (h : u.smallB 12 = true) : ∀ x ∈ u.list, x.text.length ≤ 1000000 := by
  obtain ⟨k, n, t, l, ks⟩ := u
  rw [small_mk] at h
  simp only [Bool.and_eq_true, decide_eq_true_eq] at h
  intro x hx
  obtain ⟨i, hi, rfl⟩ := List.mem_iff_getElem.1 (show x ∈ l from hx)
  have h3 := (smalls_iff l 11).1 h.2 i hi
  generalize l[i] = y at h3
  obtain ⟨k, n, t, l, ks⟩ := y
  rw [small_mk] at h3
  simp only [Bool.and_eq_true, decide_eq_true_eq] at h3
  show t.length ≤ _
  omega
set_option maxRecDepth 100000 in
set_option maxHeartbeats 16000000 in
theorem ruleKept_at {w0 : World} (C : CodeRule w0) (S : ByteArray) (u : V) (cs : List Value) (w : World) (hb : Below w0.heap.size w0 w) (hv : VIs w 0 w.heap.size u cs) :
    Calls Tryd.prog 3 #[.string S, .agg cs.toArray] w fun e w' => e = .returned (.bool true) ∧ Below w.heap.size w w' := by
  obtain ⟨CA, cc, CA', cc', hcs⟩ := hv.form
  obtain ⟨ck, hck⟩ : ∃ z, u.kind = z := ⟨_, rfl⟩
  obtain ⟨cn, hcn⟩ : ∃ z, u.num = z := ⟨_, rfl⟩
  obtain ⟨ct, hct⟩ : ∃ z : ByteArray, (⟨u.text.toArray⟩ : ByteArray) = z := ⟨_, rfl⟩
  obtain ⟨cl, hcl⟩ : ∃ z, u.list.length = z := ⟨_, rfl⟩
  obtain ⟨cm, hcm⟩ : ∃ z, u.keys.length = z := ⟨_, rfl⟩
  rw [hck, hcn, hct, hcl, hcm] at hcs
  subst hcs
  obtain ⟨W1, hW1⟩ : ∃ W1, W1 = w.alloc (.cells #[.int .i64 ck, .int .i64 cn, .string ct, .slice CA cl cc, .slice CA' cm cc'] 25) := ⟨_, rfl⟩
  have b1 : Below w.heap.size w W1 := by rw [hW1]; exact (Below.refl _ _).alloc (Nat.le_refl _) _
  have q1 : W1.heap[w.heap.size]? = some (.cells #[.int .i64 ck, .int .i64 cn, .string ct, .slice CA cl cc, .slice CA' cm cc'] 25 (0, 0)) := by rw [hW1]; exact heap_alloc_last w _
  have ha := fun W (hW : Below w.heap.size w W) => answers14_any C W (hb.chain hW)
  have hsm := small_any u 12 W1 0 w.heap.size _ (by decide) (hv.below b1) b1.size
  rw [show ((12 : Nat) : Int) = 12 from rfl] at hsm
  have hbx := fun W (hW : Below W1.heap.size W1 W) => (box_of (blk_below q1 hW)).1
  have HA := Lib.hid ha; have HSM := Lib.hid hsm; have HBX := Lib.hid hbx; have HW1 := Lib.hid hW1; have B1 := Lib.hid b1; have HV := Lib.hid hv; have HC := Lib.hid C; have HB := Lib.hid hb
  clear ha hsm hbx hW1 b1 q1 hv C hb hck hcn hct hcl hcm
  by_cases h5 : 5000 < S.size
  · have t1 : decide ((5000 : Int) < (S.size : Int)) = true := by simp; omega
    go_enter Tryd.func3, Tryd.ntmps3
    go_wp2_with (go_at_call 8; rw [← HW1.out]; (with_reducible refine (HA.out _ B1.out).mono ?_); rintro e1 w1 ⟨rfl, hb1⟩; have HB1 := Lib.hid (B1.out.chain hb1); clear hb1; dsimp only)
    go_ret
    exact ⟨rfl, HB1.out⟩
  have t1 : decide ((5000 : Int) < (S.size : Int)) = false := by simp; omega
  cases hs : u.smallB 12 with
  | false =>
    rw [hs] at HSM
    go_enter Tryd.func3, Tryd.ntmps3
    go_wp2_with (first
      | (go_at_call 7; rw [← HW1.out]; (with_reducible refine HSM.out.mono ?_); rintro e1 w1 ⟨rfl, hb1⟩; have HB1 := Lib.hid (B1.out.chain hb1); clear hb1; dsimp only)
      | (go_at_call 8; (with_reducible refine (HA.out _ HB1.out).mono ?_); rintro e2 w2 ⟨rfl, hb2⟩; have HB2 := Lib.hid (HB1.out.chain hb2); clear hb2; dsimp only))
    go_ret
    exact ⟨rfl, HB2.out⟩
  | true =>
    rw [hs] at HSM
    obtain ⟨s, hS⟩ : ∃ s : List UInt8, (⟨s.toArray⟩ : ByteArray) = S := ⟨S.data.toList, by cases S; simp⟩
    have hsl : s.length ≤ 1000000000 := by
      have : S.size = s.length := by rw [← hS]; show s.toArray.size = _; simp
      omega
    by_cases hE : parseRE s = 0
    · obtain ⟨rs, hrs⟩ : ∃ rs, parseRL s = rs := ⟨_, rfl⟩
      obtain ⟨hn, hg⟩ := parseRE_0 hE
      rw [hrs] at hg hn
      obtain ⟨n, hnn⟩ : ∃ n, rs.length = n := ⟨_, rfl⟩
      have hpa := fun W (hW : Below w.heap.size w W) => parse_ok HC.out W (HB.out.chain hW) s hsl hE n (by rw [hrs]; exact hnn)
      rw [hrs, hS] at hpa
      have hux : ∀ x ∈ u.list, x.text.length ≤ 1000000 := small_texts hs
      have hrn := fun W (hW : Below w.heap.size w W) A c (h : RdU W (.slice A n c) rs) => run_ok HC.out W (HB.out.chain hW) rs hg (by omega) n hnn A c u _ hux h (VIs.more (Nat.le_refl _) hW.size (HV.out.below hW))
      obtain ⟨g1, g2, g3⟩ := answer_kept (rs := rs) (c := u) hg hn
      obtain ⟨sm, hsm⟩ : ∃ b, (runU rs u).isSome = b := ⟨_, rfl⟩
      obtain ⟨v, hv⟩ : ∃ v, (runU rs u).getD V.zero = v := ⟨_, rfl⟩
      unfold CRunSays at hrn
      rw [hsm, hv] at hrn
      rw [hv] at g1 g2 g3
      obtain ⟨vk, vn, vt, vl, ks⟩ := v
      dsimp only [V.kind, V.keys] at g1 g2 g3
      obtain ⟨m, hm⟩ : ∃ m, ks.length = m := ⟨_, rfl⟩
      have HPA := Lib.hid hpa; have HRN := Lib.hid hrn; have G1 := Lib.hid g1; have G2 := Lib.hid g2; have G3 := Lib.hid g3; have HM := Lib.hid hm
      clear hpa hrn g1 g2 g3 hm hv hsm hux hnn hrs hg hn hE hS hsl
      go_enter Tryd.func3, Tryd.ntmps3
      go_wp2_with (first
        | (go_at_call 7; rw [← HW1.out]; (with_reducible refine HSM.out.mono ?_); rintro e1 w1 ⟨rfl, hb1⟩; have HB1 := Lib.hid (B1.out.chain hb1); have HC1 := Lib.hid hb1; obtain ⟨e0, e1, e2, e3, e4⟩ := HBX.out _ hb1; clear hb1; dsimp only)
        | (go_at_call 9; (with_reducible refine (HPA.out _ HB1.out).mono ?_); rintro e3 w3 ⟨A3, c3, rfl, hrd, hb3⟩; have HB3 := Lib.hid (HB1.out.chain hb3); have HC3 := Lib.hid (HC1.out.chain hb3); clear e0 e1 e2 e3 e4; obtain ⟨e0, e1, e2, e3, e4⟩ := HBX.out _ HC3.out; have HRD := Lib.hid hrd; clear hrd hb3; dsimp only)
        | (go_at_call 10; (with_reducible refine (HRN.out _ HB3.out _ _ HRD.out).mono ?_)
           rintro e5 w5 ⟨⟨k, nn, t, A, a, b, A', a', b', rfl, hv⟩, hb5⟩
           obtain ⟨rfl, rfl, rfl, rfl, rfl, hkk, -⟩ := mk_out hv
           rw [HM.out] at hv ⊢
           have HV5 := Lib.hid hv; have HB5 := Lib.hid (HB3.out.chain hb5); have HKK := Lib.hid hkk
           clear hkk hv hb5 e0 e1 e2 e3 e4
           dsimp only))
      obtain ⟨X, hX⟩ : ∃ X, (w5.alloc (.cells #[.int .i64 k, .int .i64 nn, .string ⟨vt.toArray⟩, .slice A vl.length b, .slice A' m b'] 25)).alloc (.cells #[.string ⟨#[105, 115, 115]⟩, .string ⟨#[115, 117, 98]⟩, .string ⟨#[97, 117, 100]⟩, .string ⟨#[101, 120, 112]⟩, .string ⟨#[105, 97, 116]⟩, .string ⟨#[110, 111, 110, 99, 101]⟩, .string ⟨#[117, 115, 101]⟩, .string ⟨#[102, 97, 109]⟩] 9) = X := ⟨_, rfl⟩
      rw [hX]
      have bX : Below w5.heap.size w5 X := by rw [← hX]; exact ((Below.refl _ _).alloc (Nat.le_refl _) _).alloc (by simp) _
      have q2 : X.heap[w5.heap.size]? = some (.cells #[.int .i64 k, .int .i64 nn, .string ⟨vt.toArray⟩, .slice A vl.length b, .slice A' m b'] 25 (0, 0)) := by rw [← hX]; exact alloc_block (heap_alloc_last w5 _)
      have q3 : X.heap[w5.heap.size + 1]? = some (.cells #[.string ⟨#[105, 115, 115]⟩, .string ⟨#[115, 117, 98]⟩, .string ⟨#[97, 117, 100]⟩, .string ⟨#[101, 120, 112]⟩, .string ⟨#[105, 97, 116]⟩, .string ⟨#[110, 111, 110, 99, 101]⟩, .string ⟨#[117, 115, 101]⟩, .string ⟨#[102, 97, 109]⟩] 9 (0, 0)) := by rw [← hX]; exact fresh_at _ (by simp)
      have kk : ∀ j, j < 8 → X.cell? ⟨w5.heap.size + 1, j, none⟩ = some (tv (keptR.getD j [])) := fun j hj => by
        rw [cell_here q3]
        match j, hj with
        | 0, _ => rfl
        | 1, _ => rfl
        | 2, _ => rfl
        | 3, _ => rfl
        | 4, _ => rfl
        | 5, _ => rfl
        | 6, _ => rfl
        | 7, _ => rfl
      have m64 : m ≤ 64 := by have := G3.out; have := HM.out; omega
      have fx : ∀ q, Box (X.drewN q) w5.heap.size (.int .i64 k) (.int .i64 nn) (.string ⟨vt.toArray⟩) (.slice A vl.length b) (.slice A' m b') := fun q => (box_of q2).1
      have BX := Lib.hid (HB5.out.chain bX); have KK := Lib.hid kk; have FX := Lib.hid fx; have B5X := Lib.hid bX; have ZX := Lib.hid (show w5.heap.size < X.heap.size from (Array.getElem?_eq_some_iff.1 q2).1); have M64 := Lib.hid m64
      clear hX bX q2 q3 kk fx m64
      go_loopw [11] (fun i W => ∃ i0 q : Nat, i0 ≤ m ∧ i = .int .i64 i0 ∧ W = X.drewN q) (fun i _ => m - (intOf i).toNat)
      case atStart => exact ⟨0, 0, Nat.zero_le _, rfl, rfl⟩
      case round =>
        obtain ⟨i, q, hi, rfl, rfl⟩ := hrel
        have m64 := M64.out
        obtain ⟨f0, f1, f2, f3, f4⟩ := FX.out q
        by_cases hlt : i < m
        · have hkr : decide ((i : Int) < m) = true := by simp; omega
          obtain ⟨gq, gr, rfl, -, hgq, k1⟩ := VIs.key HKK.out i (by have := HM.out; omega)
          have k1X : X.cell? ⟨gq, gr + i, none⟩ = _ := (B5X.out.cell (p := ⟨gq, gr + i, none⟩) hgq).trans k1
          obtain ⟨x, hx⟩ : ∃ x, ks[i]'(by have := HM.out; omega) = x := ⟨_, rfl⟩
          have hxk : keptR.contains x = false := by rw [← hx]; exact G2.out _ (List.getElem_mem _)
          rw [hx] at k1X
          have K1 := Lib.hid k1X
          have HXK := Lib.hid hxk
          clear k1 k1X hx hxk
          go_wp2
          go_loopw [12] (fun j W => ∃ j0 q : Nat, j0 ≤ 8 ∧ j = .int .i64 j0 ∧ W = X.drewN q) (fun j _ => 8 - (intOf j).toNat)
          case atStart => exact ⟨0, _, Nat.zero_le _, rfl, rfl⟩
          case round =>
            obtain ⟨j, q2, hj, rfl, rfl⟩ := hrel
            clear f0 f1 f2 f3 f4
            obtain ⟨f0, f1, f2, f3, f4⟩ := FX.out q2
            by_cases hlj : j < 8
            · have hjr : decide ((j : Int) < 8) = true := by simp; omega
              have h1 : (X.drewN q2).cell? ⟨gq, gr + i, none⟩ = some (.string ⟨x.toArray⟩) := K1.out
              obtain ⟨y, hy⟩ : ∃ y, keptR.getD j [] = y := ⟨_, rfl⟩
              have h2 : (X.drewN q2).cell? ⟨w5.heap.size + 1, j, none⟩ = some (.string ⟨y.toArray⟩) := by rw [← hy]; exact KK.out j hlj
              have hne : (x == y) = false := by
                have hxy : x ≠ y := fun e => by
                  have := HXK.out
                  rw [e, ← hy] at this
                  exact absurd this (by
                    match j, hlj with
                    | 0, _ => decide
                    | 1, _ => decide
                    | 2, _ => decide
                    | 3, _ => decide
                    | 4, _ => decide
                    | 5, _ => decide
                    | 6, _ => decide
                    | 7, _ => decide)
                simpa using hxy
              have z1 : (0 : Int) ≤ i := by omega
              have z2 : (i : Int) < m := by omega
              have z3 : (0 : Int) ≤ j := by omega
              have z4 : (j : Int) < 8 := by omega
              clear hy f0 f1 f2 f3
              generalize hW : X.drewN q2 = W at *
              have HW := Lib.hid hW; clear hW
              go_wp2
              go_quiet (fail)
              go_wp2
              go_roundw
              case rel => exact ⟨j + 1, _, by omega, by go_num, by rw [← HW.out, World.drewN_drewN]⟩
              case measure => simp [intOf]; omega
            · obtain rfl : j = 8 := by omega
              have hjr : decide (((8 : Nat) : Int) < 8) = false := by simp
              go_wp2
              go_roundw
              case rel => exact ⟨i + 1, _, by omega, by go_num, rfl⟩
              case measure => simp [intOf]; omega
        · obtain rfl : i = m := by omega
          have hkr : decide ((i : Int) < i) = false := by simp
          obtain ⟨F, hF⟩ : ∃ F, (V.mk k nn vt vl ks).fits 8 = F := ⟨_, rfl⟩
          have hf := fun W (hW : Below w.heap.size w W) (h5 : Below w5.heap.size w5 W) => refFits_any (V.mk k nn vt vl ks) 8 W 0 w5.heap.size _ (by decide) (HV5.out.below h5) h5.size
          have hF6 : F = decide (k = 6) := by rw [← hF]; exact G1.out
          rw [hF] at hf
          rw [show ((8 : Nat) : Int) = 8 from rfl] at hf
          have hd : (k == 6) = F := by
            rw [hF6]
            by_cases h6 : k = 6
            · rw [h6]; rfl
            · rw [decide_eq_false h6]; simpa using h6
          have hFF : (F == F) = true := by simp
          obtain ⟨Y, hY⟩ : ∃ Y, X.drewN q = Y := ⟨_, rfl⟩
          have bq := belowDrewN BX.out q
          have b5q := belowDrewN B5X.out q
          have zr : w5.heap.size < (X.drewN q).heap.size := ZX.out
          rw [hY] at bq b5q f0 f1 f2 f3 f4 zr ⊢
          have P1 : Box Y w5.heap.size (.int .i64 k) (.int .i64 nn) (.string ⟨vt.toArray⟩) (.slice A vl.length b) (.slice A' i b') := ⟨f0, f1, f2, f3, f4⟩
          have GETB : ∀ W, (Box W w5.heap.size (.int .i64 k) (.int .i64 nn) (.string ⟨vt.toArray⟩) (.slice A vl.length b) (.slice A' i b') ∧ Below Y.heap.size Y W) → Below w.heap.size w W := fun W h => bq.chain h.2
          have hf2 := fun W (h : Box W w5.heap.size (.int .i64 k) (.int .i64 nn) (.string ⟨vt.toArray⟩) (.slice A vl.length b) (.slice A' i b') ∧ Below Y.heap.size Y W) => hf W (bq.chain h.2) (b5q.chain h.2)
          have KEEP : ∀ W W', Below W.heap.size W W' → (Box W w5.heap.size (.int .i64 k) (.int .i64 nn) (.string ⟨vt.toArray⟩) (.slice A vl.length b) (.slice A' i b') ∧ Below Y.heap.size Y W) → (Box W' w5.heap.size (.int .i64 k) (.int .i64 nn) (.string ⟨vt.toArray⟩) (.slice A vl.length b) (.slice A' i b') ∧ Below Y.heap.size Y W') := fun W W' hb h => ⟨h.1.below (Nat.lt_of_lt_of_le zr h.2.size) hb, h.2.chain hb⟩
          have BQ := Lib.hid bq
          have FT := Lib.hid hf2
          unfold Box at P1 GETB KEEP FT
          clear f0 f1 f2 f3 f4 hf hF hF6 b5q bq zr hY
          go_wp2_with fail
          go_region_held3 (fun W => (W.cell? ⟨w5.heap.size, 0, none⟩ = some (.int .i64 k) ∧ W.cell? ⟨w5.heap.size, 1, none⟩ = some (.int .i64 nn) ∧ W.cell? ⟨w5.heap.size, 2, none⟩ = some (.string ⟨vt.toArray⟩) ∧ W.cell? ⟨w5.heap.size, 3, none⟩ = some (.slice A vl.length b) ∧ W.cell? ⟨w5.heap.size, 4, none⟩ = some (.slice A' i b')) ∧ Below Y.heap.size Y W) (first | exact ⟨P1, Below.refl _ _⟩ | exact KEEP _ _ (Below.refl _ _).drew ⟨P1, Below.refl _ _⟩ | exact KEEP _ _ (by assumption) (by assumption)) (first | (go_at_call 8; (with_reducible refine (HA.out _ (GETB _ (by assumption))).mono ?_); rintro e wx ⟨rfl, hbx⟩) | (go_at_call 11; (with_reducible refine (FT.out _ (by assumption)).mono ?_); rintro e wx ⟨rfl, hbx⟩))
          all_goals
            have hz := GETB _ (by assumption)
            have HZ := Lib.hid hz
            clear hz GETB KEEP
            go_wp2
            go_ret
            exact ⟨rfl, HZ.out⟩
    · have hp := fun W (hW : Below w.heap.size w W) => HC.out.parse W (HB.out.chain hW) s hsl
      rw [hS] at hp
      obtain ⟨E, hEE⟩ : ∃ z, parseRE s = z := ⟨_, rfl⟩
      have hps : ∀ W e w', ParseSays W s e w' → ∃ A n c k, e = .returned (.tuple #[.slice A n c, .int .i64 k, .int .i64 E]) ∧ Below W.heap.size W w' := fun W e w' h => by
        obtain ⟨A, n, c, k, h1, _, h2⟩ := h
        exact ⟨A, n, c, k, by rw [h1, hEE], h2⟩
      have hp2 := fun W (hW : Below w.heap.size w W) => (hp W hW).mono (hps W)
      have t2 : (E != 0) = true := by rw [← hEE]; simpa using hE
      have HP := Lib.hid hp2
      clear hp hps hp2 hEE hE
      go_enter Tryd.func3, Tryd.ntmps3
      go_wp2_with (first
        | (go_at_call 7; rw [← HW1.out]; (with_reducible refine HSM.out.mono ?_); rintro e1 w1 ⟨rfl, hb1⟩; have HB1 := Lib.hid (B1.out.chain hb1); clear hb1; dsimp only)
        | (go_at_call 9; (with_reducible refine (HP.out _ HB1.out).mono ?_); rintro e3 w3 ⟨A3, n3, c3, k3, rfl, hb3⟩; have HB3 := Lib.hid (HB1.out.chain hb3); clear hb3; dsimp only)
        | (go_at_call 8; (with_reducible refine (HA.out _ HB3.out).mono ?_); rintro e2 w2 ⟨rfl, hb2⟩; have HB2 := Lib.hid (HB3.out.chain hb2); clear hb2; dsimp only))
      go_ret
      exact ⟨rfl, HB2.out⟩
theorem ruleKept_row {w : World} (S : ByteArray) (u : V) (cs : List Value) (_ : S.size ≤ maxLen) {B : Nat} (h : VIs w 0 w.heap.size u cs ∧ u.wt ≤ B) (C : CodeRule w) :
    Calls Tryd.prog 3 #[.string S, .agg cs.toArray] w fun e w' => e = .returned (.bool true) ∧ Below w.heap.size w w' :=
  ruleKept_at C S u cs w (Below.refl _ _) h.1
end Go.Proofs.YtobicmpgfiddhaaDoor
namespace Go.Proofs.YtobicmpgfiddhaaDoor
open Go.ChangeShapes Go.WideShapes Go.ChangeAt Go.RowKit
set_option linter.unusedVariables false
set_option linter.unusedSimpArgs false

theorem Tryd.laidOutV : laidOutB Tryd.prog = true := by kernel_rfl
theorem Tryd.cellsVal : Tryd.prog.cellsOf 25 = 5 := by kernel_rfl
theorem Tryd.cellsStrV : Tryd.prog.cellsOf 9 = 1 := by kernel_rfl
theorem Tryd.cellsIntV : Tryd.prog.cellsOf 3 = 1 := by kernel_rfl
theorem Tryd.cellsI64V : Tryd.prog.cellsOf 2 = 1 := by kernel_rfl
theorem Tryd.cellsSlV : Tryd.prog.cellsOf 22 = 1 := by kernel_rfl
theorem Tryd.cellsSsV : Tryd.prog.cellsOf 23 = 1 := by kernel_rfl
theorem bulk_in {H : Type} : ∀ {l : List (DataW H)} {d : DataW H}, d ∈ l → Rows.uptoBulk d ≤ Rows.uptoBulkAll l
  | d0 :: l, d, hd => by
    have e : Rows.uptoBulkAll (d0 :: l) = Rows.uptoBulk d0 + Rows.uptoBulkAll l := by conv => lhs; unfold Rows.uptoBulkAll
    rw [e]
    rcases List.mem_cons.1 hd with rfl | h
    · omega
    · have := bulk_in h; omega
theorem bulkAll_nil {H : Type} : Rows.uptoBulkAll ([] : List (DataW H)) = 0 := by unfold Rows.uptoBulkAll; rfl
theorem bulkAll_cons {H : Type} (d : DataW H) (l : List (DataW H)) : Rows.uptoBulkAll (d :: l) = Rows.uptoBulk d + Rows.uptoBulkAll l := by conv => lhs; unfold Rows.uptoBulkAll
theorem bulkAll_snoc {H : Type} (l : List (DataW H)) (d : DataW H) : Rows.uptoBulkAll (l ++ [d]) = Rows.uptoBulkAll l + Rows.uptoBulk d := by
  induction l with
  | nil => rw [List.nil_append, bulkAll_cons, bulkAll_nil]; omega
  | cons a r ih => rw [List.cons_append, bulkAll_cons, bulkAll_cons, ih]; omega
theorem spot_none {W : World} {a : Addr} {v : Value} (h : W.cell? a = some v) : a = ⟨a.block, a.off, none⟩ := by
  obtain ⟨b, o, sp⟩ := a
  unfold World.cell? at h
  cases sp with
  | none => rfl
  | some z =>
    simp only at h
    split at h
    · simp at h
    · cases h
theorem kwts_map {H : Type} (f : Nat → ByteArray) (D : Nat → DataW H) : ∀ (is : List Nat), (∀ i ∈ is, D i = .lit (.string (f i).data.toList)) → kwts (is.map fun i => (f i).data.toList) = Rows.uptoBulkAll (is.map D)
  | [], _ => by rw [List.map_nil, List.map_nil, kwts_nil, bulkAll_nil]
  | i :: r, h => by
    rw [List.map_cons, List.map_cons, kwts_cons, bulkAll_cons, kwts_map f D r (fun j hj => h j (by simp [hj])), h i (by simp)]
    have : Rows.uptoBulk (DataW.lit (.string (f i).data.toList) : DataW H) = (f i).data.toList.length + 1 := by unfold Rows.uptoBulk; rfl
    rw [this]; omega
/-- a row of texts, as keys -/
theorem keys_of_trod {H : Type} {enc : TypeId × Value → H} {W : World} {fuel : Nat} {cs : List Value} {x : DataW H × List MemPlace}
    (h : DataW.trod enc Tryd.prog W 0 (fun _ => true) true fuel 23 cs = some x) :
    ∃ (A : Option Addr) (c : Nat) (ks : List (List UInt8)), cs = [.slice A ks.length c] ∧ ks.length ≤ 9223372036854775807 ∧ (∀ y ∈ ks, y.length ≤ 9223372036854775807) ∧ (ks = [] ∨ ∃ b o, A = some ⟨b, o, none⟩ ∧ KIs W 0 W.heap.size ks b o) ∧ kwts ks ≤ Rows.uptoBulk x.1 := by
  have hlt := DataW.trod_lt _ _ _ _ h
  rcases Go.Deep.open_slice1 Tryd.underlying23 Tryd.cellsStrV h with ⟨rfl, rfl⟩ | ⟨a, len, cap, m, n, V, D, Pl, rfl, _, hl, hm, hmm, rfl, hi⟩
  · exact ⟨none, 0, [], rfl, by simp, by simp, .inl rfl, by rw [kwts_nil]; exact Nat.zero_le _⟩
  · simp only [if_true] at hmm
    subst hmm
    have hall : ∀ i, ∃ s : ByteArray, i < m → W.cell? (a.add i) = some (.string s) ∧ D i = .lit (.string s.data.toList) ∧ s.size ≤ maxLen := by
      intro i
      by_cases him : i < m
      · obtain ⟨hc, ht⟩ := hi i him
        obtain ⟨s, hs, hx, hz⟩ := DataW.trod_string Tryd.underlying9 ht
        injection hs with hs
        injection hx with hx
        exact ⟨s, fun _ => ⟨by rw [hc, hs], hx, hz⟩⟩
      · exact ⟨⟨#[]⟩, fun h => absurd h him⟩
    obtain ⟨f, hf⟩ := Classical.axiomOfChoice hall
    refine ⟨some a, m, (List.range len).map (fun i => (f i).data.toList), by simp, by simp; unfold maxLen at hm; omega, ?_, ?_, ?_⟩
    · intro y hy
      obtain ⟨i, hi', rfl⟩ := List.mem_map.1 hy
      have := (hf i (by have := List.mem_range.1 hi'; omega)).2.2
      unfold maxLen at this
      show (f i).size ≤ _
      omega
    · by_cases h0 : len = 0
      · subst h0; exact .inl rfl
      · have hc0 := (hf 0 (by omega)).1
        have ha : a = ⟨a.block, a.off, none⟩ := spot_none (v := .string (f 0)) (by simpa [Addr.add] using hc0)
        refine .inr ⟨a.block, a.off, by rw [← ha], KIs.of (Nat.zero_le _) ?_ fun i hi' => ?_⟩
        · exact hlt (.cell a.block a.off) (by
            rw [List.mem_append]
            exact .inl (MemPlace.mem_row.2 ⟨0, by omega, by simp⟩))
        · have hil : i < len := by simpa using hi'
          have := (hf i (by omega)).1
          rw [ha, Addr.add_lit] at this
          rw [this]; simp
    · rw [kwts_map f D (List.range len) (fun i hi' => (hf i (by have := List.mem_range.1 hi'; omega)).2.1)]
      show _ ≤ Rows.uptoBulk (DataW.slice _ _)
      unfold Rows.uptoBulk
      omega
set_option maxRecDepth 100000 in
/-- five cells that read as a value, and its memory; how much it is -/
theorem value_of_trod {H : Type} {enc : TypeId × Value → H} {W : World} : ∀ (fuel : Nat) {cs : List Value} {x : DataW H × List MemPlace},
    DataW.trod enc Tryd.prog W 0 (fun _ => true) true fuel 25 cs = some x → ∃ v : V, VIs W 0 W.heap.size v cs ∧ v.wt ≤ Rows.uptoBulk x.1 := by
  intro fuel
  induction fuel using Nat.strongRecOn with
  | _ fuel ih =>
  intro cs x h
  obtain ⟨xs, m, hm, hx, hlen, hxl, hf⟩ := DataW.trod_struct Tryd.underlying25 h
  rw [Tryd.cellsVal] at hlen
  match cs, hlen with
  | [c0, c1, c2, c3, c4], _ =>
    have h0 := hf 0 { name := "Kind", type := 3, offset := 0, embedded := false, tag := "", pkgPath := "", byteOffset := 0 } rfl
    have h1 := hf 1 { name := "Num", type := 2, offset := 1, embedded := false, tag := "", pkgPath := "", byteOffset := 8 } rfl
    have h2 := hf 2 { name := "Text", type := 9, offset := 2, embedded := false, tag := "", pkgPath := "", byteOffset := 16 } rfl
    have h3 := hf 3 { name := "List", type := 22, offset := 3, embedded := false, tag := "", pkgPath := "", byteOffset := 32 } rfl
    have h4 := hf 4 { name := "Keys", type := 23, offset := 4, embedded := false, tag := "", pkgPath := "", byteOffset := 56 } rfl
    rw [Tryd.cellsIntV] at h0
    rw [Tryd.cellsI64V] at h1
    rw [Tryd.cellsStrV] at h2
    rw [Tryd.cellsSlV] at h3
    rw [Tryd.cellsSsV] at h4
    match xs, hxl with
    | [y0, y1, y2, y3, y4], _ =>
      simp only [List.getElem?_cons_zero, List.getElem?_cons_succ, List.drop_zero, List.drop_succ_cons, List.take_succ_cons, List.take_zero] at h0 h1 h2 h3 h4
      obtain ⟨k, e0, z0, -⟩ := DataW.trod_int Tryd.underlying3 h0
      obtain ⟨n, e1, z1, -⟩ := DataW.trod_int Tryd.underlying2 h1
      obtain ⟨t, e2, z2, ht⟩ := DataW.trod_string Tryd.underlying9 h2
      obtain ⟨A', c', ks, e4, hkl, hky, hkm, hkw⟩ := keys_of_trod h4
      have hlt3 := DataW.trod_lt _ _ _ _ h3
      have hlist : ∃ (A : Option Addr) (c : Nat) (l : List V), [c3] = [.slice A l.length c] ∧ l.length ≤ 9223372036854775807 ∧ (l = [] ∨ ∃ b o, A = some ⟨b, o, none⟩ ∧ LIs W 0 W.heap.size l b o) ∧ V.wts l ≤ Rows.uptoBulk y3.1 := by
        rcases DataW.trod_slice Tryd.underlying22 h3 with ⟨hc, hy⟩ | ⟨a, len, cap, elems, rest, q, hq, hc, hy, _, hl, hcm, hel, hat, _, _⟩
        · exact ⟨none, 0, [], hc, by simp, .inl rfl, by rw [wts_nil]; exact Nat.zero_le _⟩
        · rw [Tryd.cellsVal] at hat hy
          have hspot : 0 < len → a = ⟨a.block, a.off, none⟩ := fun h0 => by
            have hb := hat 0 h0
            rw [List.getElem?_eq_getElem (show 0 < elems.length by omega)] at hb
            obtain ⟨cs', hb1, hb2⟩ := Option.bind_eq_some_iff.1 hb
            obtain ⟨_, hl5, hat5⟩ := World.cells?_some hb1
            have := hat5 0 (by decide)
            match cs', hl5 with
            | [d0, d1, d2, d3, d4], _ => exact spot_none (v := d0) (by simpa [Addr.add] using this)
          have hall : ∀ i, ∃ u : V, (hi : i < len) → ∃ (hi' : i < elems.length) (cs' : List Value), Five W a.block (a.off + i * 5) cs' ∧ VIs W 0 W.heap.size u cs' ∧ u.wt ≤ Rows.uptoBulk elems[i].1 := by
            intro i
            by_cases hi : i < len
            · have hi' : i < elems.length := by omega
              have hb := hat i hi
              have ha := hspot (by omega)
              obtain ⟨b, o, sp⟩ := a
              obtain rfl : sp = none := by injection ha
              rw [List.getElem?_eq_getElem hi'] at hb
              obtain ⟨cs', hb1, hb2⟩ := Option.bind_eq_some_iff.1 hb
              obtain ⟨u, hu1, hu2⟩ := ih q (by omega) hb2
              obtain ⟨_, hl5, hat5⟩ := World.cells?_some hb1
              refine ⟨u, fun _ => ⟨hi', cs', ?_, hu1, hu2⟩⟩
              match cs', hl5 with
              | [d0, d1, d2, d3, d4], _ =>
                have g0 := hat5 0 (by decide)
                have g1 := hat5 1 (by decide)
                have g2 := hat5 2 (by decide)
                have g3 := hat5 3 (by decide)
                have g4 := hat5 4 (by decide)
                simp only [List.getElem?_cons_zero, List.getElem?_cons_succ, Addr.add_lit] at g0 g1 g2 g3 g4
                exact ⟨d0, d1, d2, d3, d4, rfl, by simpa using g0, g1, g2, g3, g4⟩
            · exact ⟨V.zero, fun h => absurd h hi⟩
          obtain ⟨f, hf'⟩ := Classical.axiomOfChoice hall
          refine ⟨some a, cap, (List.range len).map f, by rw [hc]; simp, by simp; unfold maxLen at hcm; omega, ?_, ?_⟩
          · by_cases h0 : len = 0
            · subst h0; exact .inl rfl
            · have ha := hspot (by omega)
              refine .inr ⟨a.block, a.off, by rw [← ha], LIs.of (Nat.zero_le _) ?_ fun i hi' => ?_⟩
              · exact hlt3 (.cell a.block a.off) (by
                  rw [hy, List.mem_append]
                  exact .inl (MemPlace.mem_row.2 ⟨0, by omega, by simp⟩))
              · have hil : i < len := by simpa using hi'
                obtain ⟨_, cs', h5, hv, _⟩ := hf' i hil
                exact ⟨cs', h5, by simpa using hv⟩
          · have hgen : ∀ (j : Nat), j ≤ len → V.wts ((List.range j).map f) ≤ Rows.uptoBulkAll ((elems.take j).map (·.1)) := by
              intro j
              induction j with
              | zero => intro _; show V.wts [] ≤ _; rw [wts_nil]; exact Nat.zero_le _
              | succ j ihj =>
                intro hj
                obtain ⟨hj', _, _, _, hw⟩ := hf' j (by omega)
                rw [List.range_succ, List.map_append, List.map_singleton, wts_snoc, List.take_succ_eq_append_getElem hj', List.map_append, List.map_singleton, bulkAll_snoc]
                have := ihj (by omega)
                omega
            have := hgen len (Nat.le_refl _)
            rw [← hel, List.take_length] at this
            rw [hy]
            show _ ≤ Rows.uptoBulk (DataW.slice _ _)
            unfold Rows.uptoBulk
            rw [← hel]
            omega
      obtain ⟨A, c, l, e3, hll, hlm, hlw⟩ := hlist
      injection e0 with e0; injection e1 with e1; injection e2 with e2; injection e3 with e3; injection e4 with e4
      subst e0; subst e1; subst e2; subst e3; subst e4
      refine ⟨.mk k n t.data.toList l ks, VIs.mk ⟨hll, hkl, by unfold maxLen at ht; exact ht, hky⟩ hkm hlm, ?_⟩
      rw [wt_mk, hx]
      show _ ≤ Rows.uptoBulk (DataW.agg _)
      unfold Rows.uptoBulk
      simp only [List.map_cons, List.map_nil, bulkAll_cons, bulkAll_nil]
      have b2 : Rows.uptoBulk y2.1 = t.data.toList.length + 1 := by rw [z2]; unfold Rows.uptoBulk; rfl
      omega
set_option maxRecDepth 100000 in
/-- an argument that is a value -/
theorem open_value {H : Type} {enc : TypeId × Value → H} {W : World} {base : Nat} {v : Value} {d : DataW H} {ps : List MemPlace} (hval : Value.okWide Tryd.prog W .any base 25 v)
    (hd : DataW.Trod enc Tryd.prog W 0 (fun _ => true) true 25 v d ps) : ∃ (u : V) (cs : List Value), v = .agg cs.toArray ∧ VIs W 0 W.heap.size u cs ∧ u.wt ≤ Rows.uptoBulk d := by
  obtain ⟨cs, rfl, hcs⟩ := okWide_struct Tryd.underlying25 hval
  obtain ⟨fuel, hf⟩ := hd
  obtain ⟨u, h1, h2⟩ := value_of_trod fuel hf
  obtain ⟨cs⟩ := cs
  exact ⟨u, cs, rfl, h1, h2⟩
set_option maxRecDepth 100000 in
theorem open_val {H : Type} {enc : TypeId × Value → H} {W : World} {base : Nat} {v : Value} {d : DataW H} {ps : List MemPlace} (hval : Value.okWide Tryd.prog W .any base 25 v)
    (hd : DataW.Trod enc Tryd.prog W 0 (fun _ => true) true 25 v d ps) (_ : ∀ x ∈ ps, x.block < W.heap.size) (_ : ∀ n ∈ d.weights Tryd.prog 25, n ≤ reachBytes) :
    ∃ (u : V) (cs : List Value), v = .agg cs.toArray ∧ VIs W 0 W.heap.size u cs ∧ u.wt ≤ Rows.uptoBulk d := open_value hval hd
end Go.Proofs.YtobicmpgfiddhaaDoor
namespace Go.Proofs.YtobicmpgfiddhaaDoor
open Go.ChangeShapes Go.WideShapes Go.ChangeAt Go.RowKit

/-- the row's builder that keeps both: what is laid, and the world's shape -/
theorem returnsInHanded_of_change_both {H : Type} {enc : TypeId × Value → H} {a : Assume} {C : Checked} {os : Os} {f : FuncId} {fn : Func} {s : ChangeSpec} {conds : List PathCond} {apart fresh handsOn again : Bool} {X : World → Array Value → Prop}
    (hX : ∀ (w w' : World) (args : Array Value), w.heap = w'.heap → X w args → X w' args)
    (own : ownKnob C.prog.godebug = none) (started : os.Started) (noInit : C.prog.inits.idxOf? f = none) (hfn : C.prog.funcs[f]? = some fn)
    (witness : ∃ (w : World) (tape : Tape) (i : Input), w.os = os ∧ (w.forCall tape i).Shaped C.prog ∧ i.vars = [] ∧ Input.okWide C.prog (w.forCall tape i) .any w.heap.size f i ∧
      ((s.pre enc C.prog fn conds apart (w.forCall tape i).memory i.args ∧ X (w.forCall tape i).memory i.args) ∧ sizedMet enc C.prog fn (OpenSpec.ofChange s) apart (w.forCall tape i).memory i.args) ∧ a.holds C.prog (lone (Frame.enter C.prog f i.args .normal) [] (w.forCall tape i)))
    (contract : ∀ (W : World) (base : Nat) (args : Array Value) (ds gs : List (DataW H)) (before : List MemPlace),
      (∀ (j : Nat) t v, fn.params[j]? = some t → args[j]? = some v → Value.okWide C.prog W .any base t v) →
      DataW.Whole enc C.prog fn.params.toList s.vars apart W args.toList ds gs before →
      conds.all (PathCond.test C.prog ⟨fn.params.toList, ds, s.plain.varTypes C.prog, gs⟩) = true →
      (DataW.weightsEach C.prog (fn.params.toList ++ s.plain.varTypes C.prog) (ds ++ gs)).all (· ≤ reachBytes) = true → X W args → W.ShapedOpen C.prog →
      a.holds C.prog (lone (Frame.enter C.prog f args .normal) [] W) →
      Calls C.prog f args W fun e W' => ∃ v, e = .returned v ∧ s.post enc C.prog fn apart fresh handsOn again W args v W') :
    ReturnsInHanded a C os f .any (fun w args => (s.pre enc C.prog fn conds apart w args ∧ X w args) ∧ sizedMet enc C.prog fn (OpenSpec.ofChange s) apart w args) (s.post enc C.prog fn apart fresh handsOn again) := by
  refine returnsInHanded_of_calls own started noInit witness ?_
  intro w tape i _ hsh _ hok hpre hholds
  obtain ⟨_, _, _, fn', hfn', _, _, _, _, hval⟩ := hok
  have e : fn' = fn := Option.some.inj (hfn'.symm.trans hfn)
  subst e
  obtain ⟨⟨⟨ds, gs, before, hw, hc⟩, hx⟩, hz⟩ := hpre
  have hw' := DataW.Whole.of_heap (w' := w.forCall tape i) (by rfl) hw
  refine (contract (w.forCall tape i) w.heap.size i.args ds gs before hval hw' hc (hz.weights hw) (hX _ _ _ (by rfl) hx) hsh hholds).mono fun e W' ⟨v, he, hp⟩ => ?_
  subst he
  exact ChangeSpec.post_blind hp
end Go.Proofs.YtobicmpgfiddhaaDoor
namespace Go.Proofs.YtobicmpgfiddhaaDoor
open Go.ChangeShapes Go.WideShapes Go.ChangeAt Go.RowKit

/-- what the rows list -/
def listedR : List (String × DataW Unit) := [("unicode/utf8.acceptRanges", Rows.laid_unicode_utf8_acceptRanges), ("unicode/utf8.first", Rows.laid_unicode_utf8_first)]
theorem var0_of_shaped {w : World} (h : w.ShapedOpen Tryd.prog) : Var0 w :=
  cell_of_shapedOpen_int (P := Tryd.prog) (g := 0) (t := 3) (zero := #[.int .i64 0]) h (of_decide_eq_true (by kernel_rfl)) (by kernel_rfl) rfl (by kernel_rfl) (by kernel_rfl) Tryd.underlying3
/-- the landed rules -/
theorem codeRule {w : World} (h : Var0 w) : CodeRule w :=
  ⟨fun W hb s hs => parse_any14 s hs W (h.below hb), fun W _ A c rs hn hz v cs hx hr hv => run_any A c rs hn hz v cs hx W hr hv⟩
theorem codeRule_of_laid {W : World} (_ : laidMetH Tryd.prog listedR W) (hs : W.ShapedOpen Tryd.prog) : CodeRule W := codeRule (var0_of_shaped hs)
/-- a table's letters as cells -/
def cellsOfData : DataW Unit → Array Value
  | .agg l => (l.map fun d => match d with
    | .lit (.int k z) => Value.int k z
    | _ => .nilIface).toArray
  | _ => #[]
/-- a heap in which the pinned table lies -/
def tableIn (h : Array Obj) (g : Nat) : Array Obj := match h[g]? with
  | some (.cells _ t fr) => h.setIfInBounds g (.cells (cellsOfData Rows.laid_unicode_utf8_first) t fr)
  | _ => h
noncomputable def doorJ (os : Os) : World := { World.doorLaid Tryd.prog 400 os with heap := tableIn (World.doorLaid Tryd.prog 400 os).heap 1 }
set_option maxRecDepth 100000 in
theorem doorJ_met (os : Os) (args : Array Value) : laidMetH Tryd.prog listedR ((doorJ os).forCall (fun _ _ => 0) ⟨#[], args, []⟩).memory :=
  laidMetH_of_parts3 (fuel := 8) (laidMet_of_run' 8 (by kernel_rfl) (by kernel_rfl)) (by kernel_rfl) (by kernel_rfl)
end Go.Proofs.YtobicmpgfiddhaaDoor
namespace Go.Proofs.YtobicmpgfiddhaaDoor
open Go.RowKit
set_option linter.unusedVariables false

theorem item_text {w : World} {L N : Nat} {l : List V} {b o : Nat} (h : LIs w L N l b o) (i : Nat) (hi : i < l.length) : b < N ∧ w.cell? ⟨b, o + i * 5 + 2, none⟩ = some (.string ⟨l[i].text.toArray⟩) := by
  obtain ⟨h1, h2, cs, h3, h4⟩ := h.get i hi
  obtain ⟨c0, c1, c2, c3, c4, e, _, _, m2, _, _⟩ := h3.out
  obtain ⟨A, c, A', c', hf⟩ := h4.form
  rw [e] at hf
  injection hf with _ hf
  injection hf with _ hf
  injection hf with hf _
  exact ⟨h2, by rw [m2, hf]⟩
theorem mk_out14 {w : World} {L N : Nat} {vk vn : Int} {vt : List UInt8} {l : List V} {ks : List (List UInt8)} {k m : Int} {t : ByteArray} {B B' : Option Addr} {b d b' d' : Nat} (h : VIs w L N (.mk vk vn vt l ks) [.int .i64 k, .int .i64 m, .string t, .slice B b d, .slice B' b' d']) :
    k = vk ∧ m = vn ∧ t = ⟨vt.toArray⟩ ∧ b = l.length ∧ b' = ks.length ∧ (ks = [] ∨ ∃ q r, B' = some ⟨q, r, none⟩ ∧ KIs w L N ks q r) ∧ (l = [] ∨ ∃ q r, B = some ⟨q, r, none⟩ ∧ LIs w L N l q r) := by
  obtain ⟨-, A3, c3, A4, c4, hcs, hkk, hll⟩ := h.out
  injection hcs with e1 hcs
  injection hcs with e2 hcs
  injection hcs with e3 hcs
  injection hcs with e4 hcs
  injection hcs with e5 hcs
  injection e1 with _ e1
  injection e2 with _ e2
  injection e3 with e3
  injection e4 with e4 e6 e7
  injection e5 with e5 e8 e9
  subst e4; subst e5
  exact ⟨e1, e2, e3, e6, e8, hkk, hll⟩
end Go.Proofs.YtobicmpgfiddhaaDoor
