/- The reference's rules: whether it is one. -/
import Derived.Test.YtobicmpgfiddhaaDoorRuleName
import Derived.Test.YtobicmpgfiddhaaDoorHeldMore
import Derived.Deep.RegionLaw
import Derived.Deep.RegionWith
import Derived.Deep.Cut
namespace Go.Proofs.YtobicmpgfiddhaaDoor
open Go.RowKit
set_option linter.unusedVariables false
set_option linter.unusedSimpArgs false

theorem good_no {o : List UInt8} {l : List (List UInt8)} (h : argsN o = 0 ∨ l.length ≠ argsN o) : (RU.mk o l).good = false := by
  unfold RU.good
  rcases h with h | h <;> simp [h]
theorem good_word {o : List UInt8} {l : List (List UInt8)} (k : Nat) (hk : k < l.length) (h : nameR l[k] = false) : (RU.mk o l).good = false := by
  unfold RU.good
  have : l.all nameR = false := by
    rw [Bool.eq_false_iff]
    intro he
    have := List.all_eq_true.1 he _ (List.getElem_mem hk)
    rw [h] at this; cases this
  simp [this]
theorem good_kept {o : List UInt8} {l : List (List UInt8)} (hl : 0 < l.length) (hn : o ≠ opNeed) (j : Nat) (hj : j < keptR.length) (h : l[0] = keptR[j]) : (RU.mk o l).good = false := by
  unfold RU.good
  have e : l.headD [] = l[0] := by rw [List.headD_eq_head?_getD, List.head?_eq_getElem?, List.getElem?_eq_getElem hl]; rfl
  have : keptR.contains (l.headD []) = true := by rw [e, h, List.contains_iff_mem]; exact List.getElem_mem hj
  simp only [this, decide_eq_false hn]
  simp
theorem good_yes {o : List UInt8} {l : List (List UInt8)} (h0 : argsN o ≠ 0) (hl : l.length = argsN o) (ha : ∀ i (hi : i < l.length), nameR l[i] = true) (hk : o = opNeed ∨ ∀ h : 0 < l.length, ∀ j (hj : j < keptR.length), l[0] ≠ keptR[j]) : (RU.mk o l).good = true := by
  unfold RU.good
  have h1 : l.all nameR = true := List.all_eq_true.2 fun x hx => by
    obtain ⟨i, hi, rfl⟩ := List.mem_iff_getElem.1 hx
    exact ha i hi
  have hp : 0 < l.length := by omega
  have e : l.headD [] = l[0] := by rw [List.headD_eq_head?_getD, List.head?_eq_getElem?, List.getElem?_eq_getElem hp]; rfl
  have h2 : o = opNeed ∨ keptR.contains (l.headD []) = false := by
    rcases hk with h | h
    · exact .inl h
    · refine .inr ?_
      rw [Bool.eq_false_iff]
      intro hc
      rw [e, List.contains_iff_mem] at hc
      obtain ⟨j, hj, he⟩ := List.mem_iff_getElem.1 hc
      exact h hp j hj he.symm
  simp only [h1, hl, decide_eq_true h0, Bool.and_true, Bool.true_and, decide_true]
  rcases h2 with h2 | h2
  · rw [decide_eq_true h2]; rfl
  · rw [h2]; simp
theorem str_need {O : ByteArray} {o : List UInt8} (h : tv o = .string O) : (!O.toList == [110, 101, 101, 100]) = !decide (o = opNeed) := by
  unfold tv at h
  injection h with h
  rw [← h, ByteArray.toList_eq]
  show (!o == _) = _
  unfold opNeed
  by_cases e : o = [110, 101, 101, 100] <;> simp [e]
set_option maxRecDepth 100000 in
set_option maxHeartbeats 4000000 in
theorem refRule_any (o : List UInt8) (A : Option Addr) (c : Nat) (l : List (List UInt8)) (hl : l.length ≤ 1000000) (hs : ∀ x ∈ l, x.length ≤ 1000000000000) (w : World) (h : RdT w (.slice A l.length c) l) :
    Calls Tryd.prog 12 #[tv o, .slice A l.length c] w fun e w' => e = .returned (.bool (RU.mk o l).good) ∧ Below w.heap.size w w' := by
  obtain ⟨n, hn⟩ : ∃ n, l.length = n := ⟨_, rfl⟩
  obtain ⟨m, hm⟩ : ∃ m, argsN o = m := ⟨_, rfl⟩
  have hm3 : m ≤ 3 := by
    rw [← hm]; unfold argsN; split
    · omega
    · split <;> omega
  have hargs := fun W => refArgs_any o W
  rw [hm] at hargs
  obtain ⟨RB, hRB⟩ : ∃ b, (RU.mk o l).good = b := ⟨_, rfl⟩
  rw [hRB]
  obtain ⟨O, hO⟩ : ∃ O : ByteArray, tv o = .string O := ⟨_, rfl⟩
  rw [hO] at hargs ⊢
  have HA := Lib.hid hargs; have HRD := Lib.hid h
  by_cases h0 : m = 0
  · have hno := good_no (o := o) (l := l) (.inl (hm.trans h0))
    rw [hRB] at hno
    subst hno
    rw [hn]
    have d1 : ((m : Int) == 0) = true := by simp; omega
    clear h hargs hRB hs HRD
    go_enter Tryd.func12, Tryd.ntmps12
    go_wp2_with (go_at_call 24; refine (HA.out _).mono ?_; rintro e w' ⟨rfl, rfl⟩)
    all_goals first
      | (exfalso; omega)
      | (go_ret
         exact ⟨rfl, Below.refl _ _⟩)
  by_cases h1 : n = m
  · subst h1
    have d1 : ((n : Int) == 0) = false := by simp; omega
    have d2 : ((n : Int) != (n : Int)) = false := by simp
    have hyes : (∀ i (hi : i < l.length), nameR l[i] = true) → (o = opNeed ∨ ∀ h : 0 < l.length, ∀ j (hj : j < keptR.length), l[0] ≠ keptR[j]) → RB = true := fun ha hk => by
      rw [← hRB]; exact good_yes (by omega) (by omega) ha hk
    have hnp : ∀ k (hk : k < l.length), nameR l[k] = false → RB = false := fun k hk h => by
      rw [← hRB]; exact good_word k hk h
    have hkp : o ≠ opNeed → ∀ (h : 0 < l.length) j (hj : j < keptR.length), l[0] = keptR[j] → RB = false := fun ho hl j hj h => by
      rw [← hRB]; exact good_kept hl ho j hj h
    have HY := Lib.hid hyes; have HNP := Lib.hid hnp; have HKP := Lib.hid hkp; have HS := Lib.hid hs; have HN := Lib.hid hn; have HO := Lib.hid hO
    clear h hargs hRB hs hyes hnp hkp
    rw [hn]
    go_enter Tryd.func12, Tryd.ntmps12
    go_wp2_with (go_at_call 24; refine (HA.out _).mono ?_; rintro e w' ⟨rfl, rfl⟩)
    go_loopw [5] (fun i W => ∃ k : Nat, k ≤ n ∧ i = .int .i64 k ∧ (∀ i (hi : i < l.length), i < k → nameR l[i] = true) ∧ w = W) (fun i _ => n - (intOf i).toNat)
    case atStart => exact ⟨0, Nat.zero_le _, rfl, fun _ _ h => absurd h (Nat.not_lt_zero _), rfl⟩
    case round =>
      obtain ⟨k, hk, rfl, hp, rfl⟩ := hrel
      have HP := Lib.hid hp; clear hp
      by_cases hlt : k < n
      · have hkr : decide ((k : Int) < n) = true := by simp; omega
        have hk0 : (0 : Int) ≤ k := by omega
        have hk1 : (k : Int) < n := by omega
        have hkl : k < l.length := by rw [HN.out]; exact hlt
        obtain ⟨g, o', rfl, hg, c1⟩ := HRD.out.at k hkl
        obtain ⟨X, hX⟩ : ∃ X : ByteArray, X = ⟨l[k].toArray⟩ := ⟨_, rfl⟩
        unfold tv at c1
        rw [← hX] at c1
        have hXl : X.data.toList = l[k] := by rw [hX]
        have hXs : X.size ≤ 1000000000000 := by
          have := HS.out _ (List.getElem_mem hkl)
          rw [hX]; show Array.size _ ≤ _; simpa using this
        have hname := fun W => refName_any X hXs W
        rw [hXl] at hname
        have HNM := Lib.hid hname
        by_cases hw : nameR l[k] = true
        · have hmore : ∀ i (hi : i < l.length), i < k + 1 → nameR l[i] = true := fun i hi hlt => by
            rcases Nat.lt_or_ge i k with h1 | h1
            · exact HP.out i hi h1
            · obtain rfl : i = k := by omega
              exact hw
          have HM := Lib.hid hmore
          rw [hw] at HNM
          clear hname hmore hX hXl
          go_wp2_with (go_at_call 25; refine (HNM.out _).mono ?_; rintro e w' ⟨rfl, rfl⟩)
          go_roundw
          case rel => exact ⟨k + 1, by omega, by go_num, HM.out, by trivial⟩
          case measure => simp [intOf]; omega
        · have hw' : nameR l[k] = false := by simpa using hw
          have hfin := HNP.out k hkl hw'
          have HF := Lib.hid hfin
          rw [hw'] at HNM
          clear hname hfin hX hXl hw hw'
          go_wp2_with (go_at_call 25; refine (HNM.out _).mono ?_; rintro e w' ⟨rfl, rfl⟩)
          go_ret
          exact ⟨ret_bool HF.out.symm, Below.refl _ _⟩
      · obtain rfl : k = n := by omega
        have hkr : decide ((k : Int) < k) = false := by simp
        go_wp2_with fail
        have hK : RdT (w.alloc (.cells #[.string ⟨#[105, 115, 115]⟩, .string ⟨#[115, 117, 98]⟩, .string ⟨#[97, 117, 100]⟩, .string ⟨#[101, 120, 112]⟩, .string ⟨#[105, 97, 116]⟩, .string ⟨#[110, 111, 110, 99, 101]⟩, .string ⟨#[117, 115, 101]⟩, .string ⟨#[102, 97, 109]⟩] 9)) (.slice (some ⟨w.heap.size, 0, none⟩) 8 8) keptR := rdt_new (l := keptR) (heap_alloc_last w _) rfl
        have hb1 : Below w.heap.size w (w.alloc (.cells #[.string ⟨#[105, 115, 115]⟩, .string ⟨#[115, 117, 98]⟩, .string ⟨#[97, 117, 100]⟩, .string ⟨#[101, 120, 112]⟩, .string ⟨#[105, 97, 116]⟩, .string ⟨#[110, 111, 110, 99, 101]⟩, .string ⟨#[117, 115, 101]⟩, .string ⟨#[102, 97, 109]⟩] 9)) := (Below.refl _ _).alloc (Nat.le_refl _) _
        obtain ⟨R, hR⟩ : ∃ R, w.heap.size = R := ⟨_, rfl⟩
        have hRD1 := HRD.out.below hb1
        obtain ⟨W1, hW1⟩ : ∃ W1, w.alloc (.cells #[.string ⟨#[105, 115, 115]⟩, .string ⟨#[115, 117, 98]⟩, .string ⟨#[97, 117, 100]⟩, .string ⟨#[101, 120, 112]⟩, .string ⟨#[105, 97, 116]⟩, .string ⟨#[110, 111, 110, 99, 101]⟩, .string ⟨#[117, 115, 101]⟩, .string ⟨#[102, 97, 109]⟩] 9) = W1 := ⟨_, rfl⟩
        rw [hW1] at hK hb1 hRD1 ⊢
        have HB1 := Lib.hid hb1
        rw [hR] at hK ⊢
        have hpos : 0 < l.length := by rw [HN.out]; omega
        have HK := Lib.hid hK; have HRD1 := Lib.hid hRD1; have HALL := Lib.hid (fun i (hi : i < l.length) => HP.out i hi (by rw [← HN.out]; exact hi))
        clear hK hb1 hRD1 hW1 hR
        by_cases ho : o = opNeed
        · have hx0 : (!O.toList == [110, 101, 101, 100]) = false := by rw [str_need HO.out, decide_eq_true ho]; rfl
          have hfin := HY.out HALL.out (.inl ho)
          have HF := Lib.hid hfin
          clear hfin ho hpos
          go_loopw [7] (fun i W => ∃ j : Nat, j ≤ 8 ∧ i = .int .i64 j ∧ Hid (Below W1.heap.size W1 W)) (fun i _ => 8 - (intOf i).toNat)
          case atStart => exact ⟨0, Nat.zero_le _, rfl, Lib.hid (Below.refl _ _)⟩
          case round =>
            obtain ⟨j, hj, rfl, hT⟩ := hrel
            by_cases hlt : j < 8
            · have hkr : decide ((j : Int) < 8) = true := by simp; omega
              go_upto_region 12 with fail
              go_quiet (fail)
              go_wp2
              go_roundw
              case rel => exact ⟨j + 1, by omega, by go_num, Lib.hid (belowDrewN hT.out _)⟩
              case measure => simp [intOf]; omega
            · obtain rfl : j = 8 := by omega
              have hkr : decide (((8 : Nat) : Int) < 8) = false := by simp
              go_wp2_with fail
              go_ret
              exact ⟨ret_bool HF.out.symm, HB1.out.chain hT.out⟩
        · have hx0 : (!O.toList == [110, 101, 101, 100]) = true := by rw [str_need HO.out, decide_eq_false ho]; rfl
          go_loopw [7] (fun i W => ∃ j : Nat, j ≤ 8 ∧ i = .int .i64 j ∧ Hid (∀ i (hi : i < keptR.length), i < j → l[0] ≠ keptR[i]) ∧ Hid (Below W1.heap.size W1 W)) (fun i _ => 8 - (intOf i).toNat)
          case atStart => exact ⟨0, Nat.zero_le _, rfl, Lib.hid (fun _ _ h => absurd h (Nat.not_lt_zero _)), Lib.hid (Below.refl _ _)⟩
          case round =>
            obtain ⟨j, hj, rfl, HNE, hT⟩ := hrel
            by_cases hlt : j < 8
            · have hkr : decide ((j : Int) < 8) = true := by simp; omega
              have hj0 : (0 : Int) ≤ j := by omega
              have hj1 : (j : Int) < 8 := by omega
              have hk0 : (0 : Int) < k := by omega
              have hjl : j < keptR.length := hlt
              obtain ⟨g, o', rfl, hg, c1⟩ := (HRD1.out.below hT.out).at 0 hpos
              obtain ⟨g', o2, e2, hg', c2⟩ := (HK.out.below hT.out).at j hjl
              cases e2
              obtain ⟨S1, hS1⟩ : ∃ S : ByteArray, S = ⟨l[0].toArray⟩ := ⟨_, rfl⟩
              obtain ⟨S2, hS2⟩ : ∃ S : ByteArray, S = ⟨keptR[j].toArray⟩ := ⟨_, rfl⟩
              unfold tv at c1 c2
              rw [← hS1] at c1
              rw [← hS2] at c2
              have c3 := c1
              have c4 := c2
              rw [Nat.add_zero] at c3
              rw [Nat.zero_add] at c4
              have hne := str_neq S1 S2 l[0] keptR[j] hS1 hS2
              by_cases heq : l[0] = keptR[j]
              · have hx : (S1.toList == S2.toList) = true := by rw [← Bool.not_inj_iff, hne, decide_eq_true heq]
                have hfin := HKP.out ho hpos j hjl heq
                have HF := Lib.hid hfin
                clear hne hfin hS1 hS2 heq ho hg hg'
                go_upto_region 12 with fail
                go_quiet (fail)
                go_wp2
                go_ret
                exact ⟨ret_bool HF.out.symm, HB1.out.chain (belowDrewN hT.out _)⟩
              · have hx : (S1.toList == S2.toList) = false := by rw [← Bool.not_inj_iff, hne, decide_eq_false heq]
                have hmore : ∀ i (hi : i < keptR.length), i < j + 1 → l[0] ≠ keptR[i] := fun i hi hlt => by
                  rcases Nat.lt_or_ge i j with h1 | h1
                  · exact HNE.out i hi h1
                  · obtain rfl : i = j := by omega
                    exact heq
                have HM := Lib.hid hmore
                clear hne hmore hS1 hS2 heq ho hg hg'
                go_upto_region 12 with fail
                go_quiet (fail)
                go_wp2
                go_roundw
                case rel => exact ⟨j + 1, by omega, by go_num, HM, Lib.hid (belowDrewN hT.out _)⟩
                case measure => simp [intOf]; omega
            · obtain rfl : j = 8 := by omega
              have hkr : decide (((8 : Nat) : Int) < 8) = false := by simp
              have hfin := HY.out HALL.out (.inr fun _ i hi => HNE.out i hi hi)
              have HF := Lib.hid hfin
              clear hfin ho
              go_wp2_with fail
              go_ret
              exact ⟨ret_bool HF.out.symm, HB1.out.chain hT.out⟩
  · have hno := good_no (o := o) (l := l) (.inr (by rw [hm, hn]; exact h1))
    rw [hRB] at hno
    subst hno
    rw [hn]
    have d1 : ((m : Int) == 0) = false := by simp; omega
    have d2 : ((n : Int) != (m : Int)) = true := by simp; omega
    clear h hargs hRB hs HRD
    go_enter Tryd.func12, Tryd.ntmps12
    go_wp2_with (go_at_call 24; refine (HA.out _).mono ?_; rintro e w' ⟨rfl, rfl⟩)
    all_goals first
      | (exfalso; omega)
      | (go_ret
         exact ⟨rfl, Below.refl _ _⟩)
end Go.Proofs.YtobicmpgfiddhaaDoor
