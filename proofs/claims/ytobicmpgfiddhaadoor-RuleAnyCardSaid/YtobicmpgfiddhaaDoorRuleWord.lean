/- The landed rules: words. -/
import Derived.Test.YtobicmpgfiddhaaDoorRulePure
import Derived.Test.YtobicmpgfiddhaaDoorCellar
import Derived.Test.YtobicmpgfiddhaaDoorShelf
namespace Go.Proofs.YtobicmpgfiddhaaDoor
open Go.RowKit Go.Shelf
set_option linter.unusedVariables false
set_option linter.unusedSimpArgs false

/-- a letter of a word, as a rune -/
def lp (n : Nat) : Bool := decide (97 ≤ n ∧ n ≤ 122) || decide (65 ≤ n ∧ n ≤ 90) || decide (48 ≤ n ∧ n ≤ 57) || decide (n = 95) || decide (n = 45)
theorem lp_letter (c : UInt8) : lp c.toNat = letterR c := by
  unfold lp letterR
  simp only [UInt8.le_iff_toNat_le, ← UInt8.toNat_inj]
  rfl
theorem lp_small {n : Nat} (h : lp n = true) : n < 128 := by
  unfold lp at h
  simp only [Bool.or_eq_true, decide_eq_true_eq] at h
  omega
theorem decode_high (s : ByteArray) (i : Nat) (h : ¬ (s.get! (i + 0)).toNat < 128) : 128 ≤ (Utf8.decode s i).1 := by
  unfold Utf8.decode
  dsimp only
  rw [if_neg h]
  split
  · split
    · assumption
    · decide
  · split
    · split
      · rename_i h1
        simp only [ge_iff_le, Bool.and_eq_true, decide_eq_true_eq] at h1
        omega
      · decide
    · split
      · split
        · rename_i h1
          simp only [ge_iff_le, Bool.and_eq_true, decide_eq_true_eq] at h1
          omega
        · decide
      · decide
theorem idx_word (s : ByteArray) : ∀ (f pos : Nat), s.size ≤ f + pos → decide (0 ≤ Lib.idxFuncFrom (fun n => !lp n) true s f pos) = !(s.data.toList.drop pos).all letterR
  | 0, pos, h => by
    have hsz : s.data.toList.length = s.size := rfl
    have : s.data.toList.drop pos = [] := List.drop_eq_nil_of_le (by omega)
    rw [this]; rfl
  | f + 1, pos, h => by
    have hsz : s.data.toList.length = s.size := rfl
    unfold Lib.idxFuncFrom
    by_cases hp : pos < s.size
    · rw [if_pos hp]
      have hl : pos < s.data.toList.length := by omega
      have hd : s.data.toList.drop pos = s.data.toList[pos] :: s.data.toList.drop (pos + 1) := List.drop_eq_getElem_cons hl
      have hg : s.get! (pos + 0) = s.data.toList[pos] := by
        show s.data[pos + 0]! = _
        rw [Nat.add_zero, getElem!_pos s.data pos (show pos < s.data.size from hp)]
        simp
      rw [hd, List.all_cons]
      by_cases ha : (s.data.toList[pos]).toNat < 128
      · have hdec : Utf8.decode s pos = ((s.data.toList[pos]).toNat, 1) := by
          have he : s[pos] = s.data.toList[pos] := by show s.data[pos] = _; simp
          have := decode_ascii s pos hp (by rw [he]; exact ha)
          rw [this, he]
        rw [hdec]
        dsimp only
        rw [lp_letter]
        cases hlet : letterR s.data.toList[pos] with
        | true =>
          rw [if_neg (by simp)]
          rw [idx_word s f (pos + 1) (by omega)]
          simp
        | false =>
          rw [if_pos (by simp)]
          simp
      · have hhi := decode_high s pos (by rw [hg]; exact ha)
        have h1 : lp (Utf8.decode s pos).1 = false := by
          cases hc : lp (Utf8.decode s pos).1 with
          | false => rfl
          | true => have := lp_small hc; omega
        have h2 : letterR s.data.toList[pos] = false := by
          rw [← lp_letter]
          cases hc : lp (s.data.toList[pos]).toNat with
          | false => rfl
          | true => have := lp_small hc; omega
        rw [if_pos (by rw [h1]; rfl), h2]
        simp
    · rw [if_neg hp]
      have : s.data.toList.drop pos = [] := List.drop_eq_nil_of_le (by omega)
      rw [this]; rfl
set_option maxRecDepth 100000 in
set_option maxHeartbeats 4000000 in
theorem other_any (x : Nat) (hx : x ≤ 1114111) (w : World) : Calls Tryd.prog 55 #[.int .i32 (x : Int)] w fun e w' => e = .returned (.bool (!lp x)) ∧ w' = w := by
  obtain ⟨y, hy⟩ : ∃ y : Int, (x : Int) = y := ⟨_, rfl⟩
  obtain ⟨L, hL⟩ : ∃ L, lp x = L := ⟨_, rfl⟩
  have hL2 : L = (decide (97 ≤ y ∧ y ≤ 122) || decide (65 ≤ y ∧ y ≤ 90) || decide (48 ≤ y ∧ y ≤ 57) || decide (y = 95) || decide (y = 45)) := by
    rw [← hL, ← hy]
    unfold lp
    congr 1
    · congr 1
      · congr 1
        · congr 1
          · exact decide_eq_decide.2 (by omega)
          · exact decide_eq_decide.2 (by omega)
        · exact decide_eq_decide.2 (by omega)
      · exact decide_eq_decide.2 (by omega)
    · exact decide_eq_decide.2 (by omega)
  rw [hL, hy]
  have H := Lib.hid hL2
  clear hL hL2 hy hx
  go_enter Tryd.func55, Tryd.ntmps55
  go_wp2
  all_goals
    go_ret
    refine ⟨ret_bool ?_, rfl⟩
    rw [H.out, Bool.eq_iff_iff]
    simp only [decide_eq_true_eq, decide_eq_false_iff_not, Bool.and_eq_true, Bool.or_eq_true, Bool.not_eq_true', beq_iff_eq, beq_eq_false_iff_ne, Bool.or_eq_false_iff, Bool.true_eq_false, Bool.false_eq_true, ne_eq] at *
    first | omega | (refine ⟨False.elim, fun h => ?_⟩; omega)
theorem contains_any (s : List UInt8) (S : ByteArray) (hS : S = ⟨s.toArray⟩) (w : World) : Calls Tryd.prog 56 #[.string S, .func (.func 55) #[] #[]] w fun e w' => e = .returned (.bool (!s.all letterR)) ∧ Below w.heap.size w w' := by
  refine (Tryd.strings_ContainsFunc_runes 55 #[] (enters_of Tryd.func55 (by kernel_rfl) rfl) (fun n => !lp n) S w ?_).mono ?_
  · intro W x hx _
    exact (other_any x hx W).mono fun e w' ⟨h1, h2⟩ => ⟨h1, 0, h2⟩
  · rintro e w' ⟨rfl, h⟩
    refine ⟨ret_bool ?_, h⟩
    subst hS
    unfold Lib.idxFunc
    rw [idx_word _ _ 0 (by omega)]
    rfl
theorem str_nil (s : List UInt8) : (!(⟨s.toArray⟩ : ByteArray).toList == []) = decide (s ≠ []) := by
  rw [ByteArray.toList_eq]
  show (!s == []) = _
  cases s <;> simp
set_option maxRecDepth 100000 in
set_option maxHeartbeats 4000000 in
theorem isWord_any (s : List UInt8) (hs : s.length ≤ 1000000000000) (S : ByteArray) (hS : S = ⟨s.toArray⟩) (w : World) : Calls Tryd.prog 36 #[.string S] w fun e w' => e = .returned (.bool (nameR s)) ∧ Below w.heap.size w w' := by
  have hc := fun W => contains_any s S hS W
  have hsz : S.size = s.length := by rw [hS]; rfl
  obtain ⟨AL, hAL⟩ : ∃ z, s.all letterR = z := ⟨_, rfl⟩
  rw [hAL] at hc
  obtain ⟨R, hR⟩ : ∃ z, nameR s = z := ⟨_, rfl⟩
  have hRR : R = (AL && decide (1 ≤ s.length ∧ s.length ≤ 32)) := by rw [← hR, ← hAL]; rfl
  rw [hR]
  have HC := Lib.hid hc
  clear hc hR hAL
  by_cases h0 : s = []
  · subst h0
    have hRf : R = false := by rw [hRR]; simp
    subst hRf
    have t1 : S.toList = [] := by rw [hS, ByteArray.toList_eq]
    have t0 : S.toList.isEmpty = true := by rw [t1]; rfl
    clear hRR hsz hS
    go_enter Tryd.func36, Tryd.ntmps36
    go_wp2
    go_ret
    exact ⟨rfl, Below.refl _ _⟩
  · have t1 : ¬ S.toList = [] := by rw [hS, ByteArray.toList_eq]; exact h0
    have t0 : S.toList.isEmpty = false := by simpa using t1
    have hp : 1 ≤ s.length := by cases s with | nil => exact absurd rfl h0 | cons a b => simp
    by_cases h32 : s.length ≤ 32
    · have hRA : R = AL := by rw [hRR, decide_eq_true ⟨hp, h32⟩, Bool.and_true]
      subst hRA
      have t2 : decide ((S.size : Int) ≤ 32) = true := by simp; omega
      clear hRR hsz hS
      go_enter Tryd.func36, Tryd.ntmps36
      go_wp2_with (go_at_call 56; (with_reducible refine (HC.out _).mono ?_); rintro e1 w1 ⟨rfl, hb1⟩; have HB1 := Lib.hid hb1; clear hb1; dsimp only)
      go_ret
      exact ⟨ret_bool (by simp), HB1.out⟩
    · have hRf : R = false := by rw [hRR, decide_eq_false (fun h => h32 h.2), Bool.and_false]
      subst hRf
      have t2 : decide ((S.size : Int) ≤ 32) = false := by simp; omega
      clear hRR hsz hS
      go_enter Tryd.func36, Tryd.ntmps36
      go_wp2
      go_ret
      exact ⟨rfl, Below.refl _ _⟩
end Go.Proofs.YtobicmpgfiddhaaDoor
