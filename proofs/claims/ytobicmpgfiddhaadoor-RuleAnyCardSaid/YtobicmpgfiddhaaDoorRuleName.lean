/- The reference's rules: a word, how many words a rule has. -/
import Derived.Test.YtobicmpgfiddhaaDoorRuleVals
import Derived.Test.YtobicmpgfiddhaaDoorHeldMore
import Derived.Deep.RegionLaw
import Derived.Deep.RegionWith
import Derived.Deep.Cut
namespace Go.Proofs.YtobicmpgfiddhaaDoor
open Go.RowKit
set_option linter.unusedVariables false
set_option linter.unusedSimpArgs false

theorem letters_take (l : List UInt8) (k : Nat) (hk : k < l.length) (h : ∀ i (hi : i < l.length), i < k → letterR l[i] = true) (hp : letterR l[k] = true) : ∀ i (hi : i < l.length), i < k + 1 → letterR l[i] = true := fun i hi hlt => by
  rcases Nat.lt_or_ge i k with h1 | h1
  · exact h i hi h1
  · obtain rfl : i = k := by omega
    exact hp
theorem letters_all (l : List UInt8) (h : ∀ i (hi : i < l.length), letterR l[i] = true) : l.all letterR = true := by
  rw [List.all_eq_true]
  intro x hx
  obtain ⟨i, hi, rfl⟩ := List.mem_iff_getElem.1 hx
  exact h i hi
theorem letters_not (l : List UInt8) (k : Nat) (hk : k < l.length) (h : letterR l[k] = false) : l.all letterR = false := by
  rw [Bool.eq_false_iff]
  intro he
  have := List.all_eq_true.1 he _ (List.getElem_mem hk)
  rw [h] at this; cases this
/-- a letter of a word, over whole numbers -/
theorem letterR_int (c : UInt8) : letterR c = decide (((97 : Int) ≤ c.toNat ∧ (c.toNat : Int) ≤ 122) ∨ ((65 : Int) ≤ c.toNat ∧ (c.toNat : Int) ≤ 90) ∨ ((48 : Int) ≤ c.toNat ∧ (c.toNat : Int) ≤ 57) ∨ (c.toNat : Int) = 95 ∨ (c.toNat : Int) = 45) := by
  rw [Bool.eq_iff_iff]
  unfold letterR
  simp only [Bool.or_eq_true, decide_eq_true_eq, UInt8.le_iff_toNat_le, ← UInt8.toNat_inj]
  have e1 : (97 : UInt8).toNat = 97 := rfl
  have e2 : (122 : UInt8).toNat = 122 := rfl
  have e3 : (65 : UInt8).toNat = 65 := rfl
  have e4 : (90 : UInt8).toNat = 90 := rfl
  have e5 : (48 : UInt8).toNat = 48 := rfl
  have e6 : (57 : UInt8).toNat = 57 := rfl
  have e7 : (95 : UInt8).toNat = 95 := rfl
  have e8 : (45 : UInt8).toNat = 45 := rfl
  omega
set_option maxRecDepth 100000 in
set_option maxHeartbeats 4000000 in
theorem refName_any (v : ByteArray) (hv : v.size ≤ 1000000000000) (w : World) :
    Calls Tryd.prog 25 #[.string v] w fun e w' => e = .returned (.bool (nameR v.data.toList)) ∧ w = w' := by
  have hz : v.data.toList.length = v.size := rfl
  obtain ⟨RB, hRB⟩ : ∃ b, nameR v.data.toList = b := ⟨_, rfl⟩
  have hr : (∀ i (hi : i < v.data.toList.length), letterR v.data.toList[i] = true) → RB = decide (1 ≤ v.size ∧ v.size ≤ 32) := fun h => by
    rw [← hRB]; unfold nameR; rw [letters_all _ h, hz, Bool.true_and]
  have hnp : ∀ k (hk : k < v.data.toList.length), letterR v.data.toList[k] = false → RB = false := fun k hk h => by
    rw [← hRB]; unfold nameR; rw [letters_not _ k hk h]; rfl
  rw [hRB]
  have HR := Lib.hid hr; have HNP := Lib.hid hnp; have HAT := Lib.hid (@letters_take v.data.toList)
  clear hr hnp hRB
  go_enter Tryd.func25, Tryd.ntmps25
  go_wp2
  go_loopw [3] (fun i W => ∃ k : Nat, k ≤ v.size ∧ i = .int .i64 k ∧ (∀ i (hi : i < v.data.toList.length), i < k → letterR v.data.toList[i] = true) ∧ w = W) (fun i _ => v.size - (intOf i).toNat)
  case atStart => exact ⟨0, Nat.zero_le _, rfl, fun _ _ h => absurd h (Nat.not_lt_zero _), rfl⟩
  case round =>
    obtain ⟨k, hk, rfl, hp, rfl⟩ := hrel
    have HP := Lib.hid hp; clear hp
    by_cases hlt : k < v.size
    · have hkl : k < v.data.toList.length := hlt
      have hge : v[k] = v.data.toList[k] := by rw [Array.getElem_toList]; rfl
      obtain ⟨c, hc⟩ : ∃ c, v[k] = c := ⟨_, rfl⟩
      by_cases hpk : letterR c = true
      · have hn := HAT.out k hkl HP.out (by rw [← hge, hc]; exact hpk)
        have HN := Lib.hid hn; clear hn
        rw [letterR_int, decide_eq_true_eq] at hpk
        clear hge
        go_wp2_with fail
        all_goals first
          | (exfalso; omega)
          | (refine ⟨⟨k + 1, by omega, by go_num, HN.out, trivial⟩, ?_⟩
             simp [intOf]; omega)
          | (exfalso; simp only [Bool.and_eq_true, Bool.or_eq_true, Bool.not_eq_true', Bool.not_eq_false', beq_eq_false_iff_ne, beq_iff_eq, decide_eq_true_eq, decide_eq_false_iff_not, ne_eq] at *; omega)
      · have hpk' : letterR c = false := by simpa using hpk
        have hn := HNP.out k hkl (by rw [← hge, hc]; exact hpk')
        have HN := Lib.hid hn; clear hn hpk
        rw [letterR_int, decide_eq_false_iff_not] at hpk'
        clear hge
        go_wp2_with fail
        all_goals first
          | (exfalso; omega)
          | (go_ret
             exact ⟨ret_bool HN.out.symm, rfl⟩)
          | (exfalso; simp only [Bool.and_eq_true, Bool.or_eq_true, Bool.not_eq_true', Bool.not_eq_false', beq_eq_false_iff_ne, beq_iff_eq, decide_eq_true_eq, decide_eq_false_iff_not, ne_eq] at *; omega)
    · obtain rfl : k = v.size := by omega
      have hall := HR.out (fun i hi => HP.out i hi hi)
      have HL := Lib.hid hall; clear hall
      go_wp2_with fail
      all_goals
        go_ret
        exact ⟨ret_bool (by rw [HL.out, Bool.eq_iff_iff]; simp; omega), rfl⟩
theorem argsN_b (o : List UInt8) : (argsN o : Int) = if (o == [115, 101, 116]) = true ∨ (o == [116, 101, 120, 116]) = true ∨ (o == [110, 101, 101, 100]) = true then 2 else if (o == [106, 111, 105, 110]) = true ∨ (o == [111, 110, 108, 121]) = true then 3 else 0 := by
  unfold argsN opSet opText opNeed opJoin opOnly
  simp only [beq_iff_eq]
  split
  · rfl
  · split <;> rfl
set_option maxRecDepth 100000 in
set_option maxHeartbeats 4000000 in
theorem refArgs_any (o : List UInt8) (w : World) :
    Calls Tryd.prog 24 #[tv o] w fun e w' => e = .returned (.int .i64 (argsN o)) ∧ w = w' := by
  unfold tv
  rw [argsN_b]
  go_enter Tryd.func24, Tryd.ntmps24
  go_wp2_with fail
  all_goals first
    | (exfalso; simp_all; done)
    | (go_ret
       exact ⟨ret_int (by simp [*]), rfl⟩)
end Go.Proofs.YtobicmpgfiddhaaDoor
