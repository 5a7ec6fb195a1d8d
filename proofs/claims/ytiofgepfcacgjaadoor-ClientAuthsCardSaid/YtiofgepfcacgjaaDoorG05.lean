/- Texts merged by program, in build order: RuleRef, Split, StrsRd, RulesRef. -/
import Derived.Test.YtiofgepfcacgjaaDoorG04
import Derived.Test.YtiofgepfcacgjaaDoorG02
import Derived.Deep.RegionLaw
import Derived.Deep.RegionWith
import Derived.Deep.Cut
import Derived.Test.YtiofgepfcacgjaaDoorG01
import Derived.Test.YtiofgepfcacgjaaDoorG03
set_option linter.unusedVariables false
set_option linter.unusedSimpArgs false
namespace Go.Proofs.YtiofgepfcacgjaaDoor
open Go.RowKit
set_option linter.unusedVariables false
set_option linter.unusedSimpArgs false

theorem good_no {o : List UInt8} {l : List (List UInt8)} (h : argsN o = 0 ∨ l.length ≠ argsN o) : (RU.mk o l).good = false := by
  unfold RU.good
  rcases h with h | h <;> simp [h]
theorem good_word {o : List UInt8} {l : List (List UInt8)} (k : Nat) (hk : k < l.length) (h : nameR l[k] = false) : (RU.mk o l).good = false := by
  unfold RU.good
  have : l.all nameR = false := by
    rw [Bool.eq_false_iff]
    intro he
    have := List.all_eq_true.1 he _ (List.getElem_mem hk)
    rw [h] at this; cases this
  simp [this]
theorem good_kept {o : List UInt8} {l : List (List UInt8)} (hl : 0 < l.length) (hn : o ≠ opNeed) (j : Nat) (hj : j < keptR.length) (h : l[0] = keptR[j]) : (RU.mk o l).good = false := by
  unfold RU.good
  have e : l.headD [] = l[0] := by rw [List.headD_eq_head?_getD, List.head?_eq_getElem?, List.getElem?_eq_getElem hl]; rfl
  have : keptR.contains (l.headD []) = true := by rw [e, h, List.contains_iff_mem]; exact List.getElem_mem hj
  simp only [this, decide_eq_false hn]
  simp
theorem good_yes {o : List UInt8} {l : List (List UInt8)} (h0 : argsN o ≠ 0) (hl : l.length = argsN o) (ha : ∀ i (hi : i < l.length), nameR l[i] = true) (hk : o = opNeed ∨ ∀ h : 0 < l.length, ∀ j (hj : j < keptR.length), l[0] ≠ keptR[j]) : (RU.mk o l).good = true := by
  unfold RU.good
  have h1 : l.all nameR = true := List.all_eq_true.2 fun x hx => by
    obtain ⟨i, hi, rfl⟩ := List.mem_iff_getElem.1 hx
    exact ha i hi
  have hp : 0 < l.length := by omega
  have e : l.headD [] = l[0] := by rw [List.headD_eq_head?_getD, List.head?_eq_getElem?, List.getElem?_eq_getElem hp]; rfl
  have h2 : o = opNeed ∨ keptR.contains (l.headD []) = false := by
    rcases hk with h | h
    · exact .inl h
    · refine .inr ?_
      rw [Bool.eq_false_iff]
      intro hc
      rw [e, List.contains_iff_mem] at hc
      obtain ⟨j, hj, he⟩ := List.mem_iff_getElem.1 hc
      exact h hp j hj he.symm
  simp only [h1, hl, decide_eq_true h0, Bool.and_true, Bool.true_and, decide_true]
  rcases h2 with h2 | h2
  · rw [decide_eq_true h2]; rfl
  · rw [h2]; simp
theorem str_need {O : ByteArray} {o : List UInt8} (h : tv o = .string O) : (!O.toList == [110, 101, 101, 100]) = !decide (o = opNeed) := by
  unfold tv at h
  injection h with h
  rw [← h, ByteArray.toList_eq]
  show (!o == _) = _
  unfold opNeed
  by_cases e : o = [110, 101, 101, 100] <;> simp [e]
set_option maxRecDepth 100000 in
set_option maxHeartbeats 4000000 in
theorem refRule_any (o : List UInt8) (A : Option Addr) (c : Nat) (l : List (List UInt8)) (hl : l.length ≤ 1000000) (hs : ∀ x ∈ l, x.length ≤ 1000000000000) (w : World) (h : RdT w (.slice A l.length c) l) :
    Calls Tryd.prog 54 #[tv o, .slice A l.length c] w fun e w' => e = .returned (.bool (RU.mk o l).good) ∧ Below w.heap.size w w' := by
  obtain ⟨n, hn⟩ : ∃ n, l.length = n := ⟨_, rfl⟩
  obtain ⟨m, hm⟩ : ∃ m, argsN o = m := ⟨_, rfl⟩
  have hm3 : m ≤ 3 := by
    rw [← hm]; unfold argsN; split
    · omega
    · split <;> omega
  have hargs := fun W => refArgs_any o W
  rw [hm] at hargs
  obtain ⟨RB, hRB⟩ : ∃ b, (RU.mk o l).good = b := ⟨_, rfl⟩
  rw [hRB]
  obtain ⟨O, hO⟩ : ∃ O : ByteArray, tv o = .string O := ⟨_, rfl⟩
  rw [hO] at hargs ⊢
  have HA := Lib.hid hargs; have HRD := Lib.hid h
  by_cases h0 : m = 0
  · have hno := good_no (o := o) (l := l) (.inl (hm.trans h0))
    rw [hRB] at hno
    subst hno
    rw [hn]
    have d1 : ((m : Int) == 0) = true := by simp; omega
    clear h hargs hRB hs HRD
    go_enter Tryd.func54, Tryd.ntmps54
    go_wp2_with (go_at_call 66; refine (HA.out _).mono ?_; rintro e w' ⟨rfl, rfl⟩)
    all_goals first
      | (exfalso; omega)
      | (go_ret
         exact ⟨rfl, Below.refl _ _⟩)
  by_cases h1 : n = m
  · subst h1
    have d1 : ((n : Int) == 0) = false := by simp; omega
    have d2 : ((n : Int) != (n : Int)) = false := by simp
    have hyes : (∀ i (hi : i < l.length), nameR l[i] = true) → (o = opNeed ∨ ∀ h : 0 < l.length, ∀ j (hj : j < keptR.length), l[0] ≠ keptR[j]) → RB = true := fun ha hk => by
      rw [← hRB]; exact good_yes (by omega) (by omega) ha hk
    have hnp : ∀ k (hk : k < l.length), nameR l[k] = false → RB = false := fun k hk h => by
      rw [← hRB]; exact good_word k hk h
    have hkp : o ≠ opNeed → ∀ (h : 0 < l.length) j (hj : j < keptR.length), l[0] = keptR[j] → RB = false := fun ho hl j hj h => by
      rw [← hRB]; exact good_kept hl ho j hj h
    have HY := Lib.hid hyes; have HNP := Lib.hid hnp; have HKP := Lib.hid hkp; have HS := Lib.hid hs; have HN := Lib.hid hn; have HO := Lib.hid hO
    clear h hargs hRB hs hyes hnp hkp
    rw [hn]
    go_enter Tryd.func54, Tryd.ntmps54
    go_wp2_with (go_at_call 66; refine (HA.out _).mono ?_; rintro e w' ⟨rfl, rfl⟩)
    go_loopw [5] (fun i W => ∃ k : Nat, k ≤ n ∧ i = .int .i64 k ∧ (∀ i (hi : i < l.length), i < k → nameR l[i] = true) ∧ w = W) (fun i _ => n - (intOf i).toNat)
    case atStart => exact ⟨0, Nat.zero_le _, rfl, fun _ _ h => absurd h (Nat.not_lt_zero _), rfl⟩
    case round =>
      obtain ⟨k, hk, rfl, hp, rfl⟩ := hrel
      have HP := Lib.hid hp; clear hp
      by_cases hlt : k < n
      · have hkr : decide ((k : Int) < n) = true := by simp; omega
        have hk0 : (0 : Int) ≤ k := by omega
        have hk1 : (k : Int) < n := by omega
        have hkl : k < l.length := by rw [HN.out]; exact hlt
        obtain ⟨g, o', rfl, hg, c1⟩ := HRD.out.at k hkl
        obtain ⟨X, hX⟩ : ∃ X : ByteArray, X = ⟨l[k].toArray⟩ := ⟨_, rfl⟩
        unfold tv at c1
        rw [← hX] at c1
        have hXl : X.data.toList = l[k] := by rw [hX]
        have hXs : X.size ≤ 1000000000000 := by
          have := HS.out _ (List.getElem_mem hkl)
          rw [hX]; show Array.size _ ≤ _; simpa using this
        have hname := fun W => refName_any X hXs W
        rw [hXl] at hname
        have HNM := Lib.hid hname
        by_cases hw : nameR l[k] = true
        · have hmore : ∀ i (hi : i < l.length), i < k + 1 → nameR l[i] = true := fun i hi hlt => by
            rcases Nat.lt_or_ge i k with h1 | h1
            · exact HP.out i hi h1
            · obtain rfl : i = k := by omega
              exact hw
          have HM := Lib.hid hmore
          rw [hw] at HNM
          clear hname hmore hX hXl
          go_wp2_with (go_at_call 67; refine (HNM.out _).mono ?_; rintro e w' ⟨rfl, rfl⟩)
          go_roundw
          case rel => exact ⟨k + 1, by omega, by go_num, HM.out, by trivial⟩
          case measure => simp [intOf]; omega
        · have hw' : nameR l[k] = false := by simpa using hw
          have hfin := HNP.out k hkl hw'
          have HF := Lib.hid hfin
          rw [hw'] at HNM
          clear hname hfin hX hXl hw hw'
          go_wp2_with (go_at_call 67; refine (HNM.out _).mono ?_; rintro e w' ⟨rfl, rfl⟩)
          go_ret
          exact ⟨ret_bool HF.out.symm, Below.refl _ _⟩
      · obtain rfl : k = n := by omega
        have hkr : decide ((k : Int) < k) = false := by simp
        go_wp2_with fail
        have hK : RdT (w.alloc (.cells #[.string ⟨#[105, 115, 115]⟩, .string ⟨#[115, 117, 98]⟩, .string ⟨#[97, 117, 100]⟩, .string ⟨#[101, 120, 112]⟩, .string ⟨#[105, 97, 116]⟩, .string ⟨#[110, 111, 110, 99, 101]⟩, .string ⟨#[117, 115, 101]⟩, .string ⟨#[102, 97, 109]⟩] 9)) (.slice (some ⟨w.heap.size, 0, none⟩) 8 8) keptR := rdt_new (l := keptR) (heap_alloc_last w _) rfl
        have hb1 : Below w.heap.size w (w.alloc (.cells #[.string ⟨#[105, 115, 115]⟩, .string ⟨#[115, 117, 98]⟩, .string ⟨#[97, 117, 100]⟩, .string ⟨#[101, 120, 112]⟩, .string ⟨#[105, 97, 116]⟩, .string ⟨#[110, 111, 110, 99, 101]⟩, .string ⟨#[117, 115, 101]⟩, .string ⟨#[102, 97, 109]⟩] 9)) := (Below.refl _ _).alloc (Nat.le_refl _) _
        obtain ⟨R, hR⟩ : ∃ R, w.heap.size = R := ⟨_, rfl⟩
        have hRD1 := HRD.out.below hb1
        obtain ⟨W1, hW1⟩ : ∃ W1, w.alloc (.cells #[.string ⟨#[105, 115, 115]⟩, .string ⟨#[115, 117, 98]⟩, .string ⟨#[97, 117, 100]⟩, .string ⟨#[101, 120, 112]⟩, .string ⟨#[105, 97, 116]⟩, .string ⟨#[110, 111, 110, 99, 101]⟩, .string ⟨#[117, 115, 101]⟩, .string ⟨#[102, 97, 109]⟩] 9) = W1 := ⟨_, rfl⟩
        rw [hW1] at hK hb1 hRD1 ⊢
        have HB1 := Lib.hid hb1
        rw [hR] at hK ⊢
        have hpos : 0 < l.length := by rw [HN.out]; omega
        have HK := Lib.hid hK; have HRD1 := Lib.hid hRD1; have HALL := Lib.hid (fun i (hi : i < l.length) => HP.out i hi (by rw [← HN.out]; exact hi))
        clear hK hb1 hRD1 hW1 hR
        by_cases ho : o = opNeed
        · have hx0 : (!O.toList == [110, 101, 101, 100]) = false := by rw [str_need HO.out, decide_eq_true ho]; rfl
          have hfin := HY.out HALL.out (.inl ho)
          have HF := Lib.hid hfin
          clear hfin ho hpos
          go_loopw [7] (fun i W => ∃ j : Nat, j ≤ 8 ∧ i = .int .i64 j ∧ Hid (Below W1.heap.size W1 W)) (fun i _ => 8 - (intOf i).toNat)
          case atStart => exact ⟨0, Nat.zero_le _, rfl, Lib.hid (Below.refl _ _)⟩
          case round =>
            obtain ⟨j, hj, rfl, hT⟩ := hrel
            by_cases hlt : j < 8
            · have hkr : decide ((j : Int) < 8) = true := by simp; omega
              go_upto_region 12 with fail
              go_quiet (fail)
              go_wp2
              go_roundw
              case rel => exact ⟨j + 1, by omega, by go_num, Lib.hid (belowDrewN hT.out _)⟩
              case measure => simp [intOf]; omega
            · obtain rfl : j = 8 := by omega
              have hkr : decide (((8 : Nat) : Int) < 8) = false := by simp
              go_wp2_with fail
              go_ret
              exact ⟨ret_bool HF.out.symm, HB1.out.chain hT.out⟩
        · have hx0 : (!O.toList == [110, 101, 101, 100]) = true := by rw [str_need HO.out, decide_eq_false ho]; rfl
          go_loopw [7] (fun i W => ∃ j : Nat, j ≤ 8 ∧ i = .int .i64 j ∧ Hid (∀ i (hi : i < keptR.length), i < j → l[0] ≠ keptR[i]) ∧ Hid (Below W1.heap.size W1 W)) (fun i _ => 8 - (intOf i).toNat)
          case atStart => exact ⟨0, Nat.zero_le _, rfl, Lib.hid (fun _ _ h => absurd h (Nat.not_lt_zero _)), Lib.hid (Below.refl _ _)⟩
          case round =>
            obtain ⟨j, hj, rfl, HNE, hT⟩ := hrel
            by_cases hlt : j < 8
            · have hkr : decide ((j : Int) < 8) = true := by simp; omega
              have hj0 : (0 : Int) ≤ j := by omega
              have hj1 : (j : Int) < 8 := by omega
              have hk0 : (0 : Int) < k := by omega
              have hjl : j < keptR.length := hlt
              obtain ⟨g, o', rfl, hg, c1⟩ := (HRD1.out.below hT.out).at 0 hpos
              obtain ⟨g', o2, e2, hg', c2⟩ := (HK.out.below hT.out).at j hjl
              cases e2
              obtain ⟨S1, hS1⟩ : ∃ S : ByteArray, S = ⟨l[0].toArray⟩ := ⟨_, rfl⟩
              obtain ⟨S2, hS2⟩ : ∃ S : ByteArray, S = ⟨keptR[j].toArray⟩ := ⟨_, rfl⟩
              unfold tv at c1 c2
              rw [← hS1] at c1
              rw [← hS2] at c2
              have c3 := c1
              have c4 := c2
              rw [Nat.add_zero] at c3
              rw [Nat.zero_add] at c4
              have hne := str_neq S1 S2 l[0] keptR[j] hS1 hS2
              by_cases heq : l[0] = keptR[j]
              · have hx : (S1.toList == S2.toList) = true := by rw [← Bool.not_inj_iff, hne, decide_eq_true heq]
                have hfin := HKP.out ho hpos j hjl heq
                have HF := Lib.hid hfin
                clear hne hfin hS1 hS2 heq ho hg hg'
                go_upto_region 12 with fail
                go_quiet (fail)
                go_wp2
                go_ret
                exact ⟨ret_bool HF.out.symm, HB1.out.chain (belowDrewN hT.out _)⟩
              · have hx : (S1.toList == S2.toList) = false := by rw [← Bool.not_inj_iff, hne, decide_eq_false heq]
                have hmore : ∀ i (hi : i < keptR.length), i < j + 1 → l[0] ≠ keptR[i] := fun i hi hlt => by
                  rcases Nat.lt_or_ge i j with h1 | h1
                  · exact HNE.out i hi h1
                  · obtain rfl : i = j := by omega
                    exact heq
                have HM := Lib.hid hmore
                clear hne hmore hS1 hS2 heq ho hg hg'
                go_upto_region 12 with fail
                go_quiet (fail)
                go_wp2
                go_roundw
                case rel => exact ⟨j + 1, by omega, by go_num, HM, Lib.hid (belowDrewN hT.out _)⟩
                case measure => simp [intOf]; omega
            · obtain rfl : j = 8 := by omega
              have hkr : decide (((8 : Nat) : Int) < 8) = false := by simp
              have hfin := HY.out HALL.out (.inr fun _ i hi => HNE.out i hi hi)
              have HF := Lib.hid hfin
              clear hfin ho
              go_wp2_with fail
              go_ret
              exact ⟨ret_bool HF.out.symm, HB1.out.chain hT.out⟩
  · have hno := good_no (o := o) (l := l) (.inr (by rw [hm, hn]; exact h1))
    rw [hRB] at hno
    subst hno
    rw [hn]
    have d1 : ((m : Int) == 0) = false := by simp; omega
    have d2 : ((n : Int) != (m : Int)) = true := by simp; omega
    clear h hargs hRB hs HRD
    go_enter Tryd.func54, Tryd.ntmps54
    go_wp2_with (go_at_call 66; refine (HA.out _).mono ?_; rintro e w' ⟨rfl, rfl⟩)
    all_goals first
      | (exfalso; omega)
      | (go_ret
         exact ⟨rfl, Below.refl _ _⟩)
end Go.Proofs.YtiofgepfcacgjaaDoor
namespace Go.Proofs.YtiofgepfcacgjaaDoor
open Go.RowKit

theorem Tryd.infoStr : (Tryd.prog.info? 9).map (fun i => (i.zero, i.size, i.bytes)) = some (some (.string .empty), 1, 16) := by kernel_rfl
/-- texts as cells -/
def scells (l : List (List UInt8)) : List Value := l.map fun p => Value.string ⟨p.toArray⟩
theorem scells_snoc (l : List (List UInt8)) (p : List UInt8) : scells (l ++ [p]) = scells l ++ [.string ⟨p.toArray⟩] := by simp [scells]
theorem scells_len (l : List (List UInt8)) : (scells l).length = l.length := by simp [scells]
/-- a row of texts of the call's own -/
def Strs (w : World) (B : Nat) (v : Value) (l : List (List UInt8)) : Prop := w.ownsRow B 9 1 v l.length (scells l)
theorem Strs.cut {w : World} {B : Nat} {v : Value} {n : Nat} {l : List (List UInt8)} {xs : List Value} (h : w.ownsRow B 9 1 v n xs) (hn : n = l.length) (hx : xs = scells l) : Strs w B v l := by subst hn; subst hx; exact h
theorem str_cell (s : ByteArray) : ∀ u ∈ [Value.string s], u.oneCell' = true := by intro u hu; simp at hu; subst hu; rfl
def slen : Value → Nat
  | .string b => b.size
  | _ => 0
theorem ret_val {a b : Value} (h : a = b) : Ending.returned a = .returned b := by rw [h]

set_option maxRecDepth 100000 in
theorem split_any (s : ByteArray) (c : UInt8) (hs : s.size ≤ 1048576) (w : World) :
    Calls Tryd.prog 53 #[.string s, .int .u8 c.toNat] w fun e w' => ∃ v, e = .returned v ∧ Strs w' w.heap.size v (splitL c s.data.toList) ∧ Below w.heap.size w w' := by
  obtain ⟨i0, hi, hz0, hz1, hz2⟩ := info_parts Tryd.infoStr
  go_enter Tryd.func53, Tryd.ntmps53
  go_wp2
  go_loopw [0, 5] (fun sv v wr => ∃ (pre : List (List UInt8)) (rest : ByteArray), sv = .string rest ∧ Strs wr w.heap.size v pre ∧ splitL c s.data.toList = pre ++ splitL c rest.data.toList ∧ pre.length + rest.size ≤ s.size ∧ Below w.heap.size w wr) (fun sv _ _ => slen sv)
  case atStart => exact ⟨[], s, rfl, World.ownsRow_nil _ _ _ _, rfl, by simp, Below.refl _ _⟩
  case round =>
    obtain ⟨pre, rest, rfl, hown, hsp, hln, hb⟩ := hrel
    have hle := atL_le c rest.data.toList
    have hsz : rest.data.toList.length = rest.size := rfl
    rw [hsz] at hle
    have hmx : rest.size ≤ maxLen := by unfold maxLen; omega
    have hat := fun w => at_any rest c hmx w
    have H1 := @splitL_more c rest.data.toList
    have H2 := @splitL_last c rest.data.toList
    rw [hsz] at H1 H2
    obtain ⟨k, hk⟩ : ∃ k, atL c rest.data.toList = k := ⟨_, rfl⟩
    rw [hk] at hle hat H1 H2
    have HSP := Lib.hid hsp; have G1 := Lib.hid H1; have G2 := Lib.hid H2; clear hsp H1 H2 hk hsz hmx
    have hbs := hb.size
    by_cases hlt : k < rest.size
    · go_wp2_with (first
        | (go_at_call 52; refine (hat _).mono ?_; rintro e w' ⟨rfl, rfl⟩)
        | (at_builtin; refine wpList_append_own _ rfl (.tmp 10) (.tmp 14) 30 rfl w.heap.size 9 i0 _ 1 16 Tryd.underlying30 hi hz0 hz1 hz2 rfl (by decide) _ _ _ rfl (World.ownsRow.alloc hown _) ⟨_, 0, none⟩ 1 1 [.string (rest.extract 0 k)] rfl rfl (new_cells _ #[_] _) (str_cell _) (by unfold maxLen; omega) (by omega) (by simp; omega) ?_))
      intro v' w1 hown' hg' _
      have hb1 : Below w.heap.size w w1 := (hb.alloc hbs _).grown hg' (by simp; omega) (fun j hj => (hown.lt j hj).1)
      go_wp2
      go_roundw
      case rel => exact ⟨pre ++ [rest.data.toList.take k], rest.extract (k + 1) rest.size, rfl, Strs.cut hown' (by simp) (by rw [scells_snoc, ext_pre]), by
        rw [HSP.out, G1.out hlt, ext_suf]; simp, by rw [ext_size, List.length_append]; simp; omega, hb1⟩
      case measure => simp only [slen, ext_size]; omega
    · go_wp2_with (first
        | (go_at_call 52; refine (hat _).mono ?_; rintro e w' ⟨rfl, rfl⟩)
        | (at_builtin; refine wpList_append_own _ rfl (.tmp 10) (.tmp 14) 30 rfl w.heap.size 9 i0 _ 1 16 Tryd.underlying30 hi hz0 hz1 hz2 rfl (by decide) _ _ _ rfl (World.ownsRow.alloc hown _) ⟨_, 0, none⟩ 1 1 [.string (rest.extract 0 k)] rfl rfl (new_cells _ #[_] _) (str_cell _) (by unfold maxLen; omega) (by omega) (by simp; omega) ?_))
      intro v' w1 hown' hg' _
      have hb1 : Below w.heap.size w w1 := (hb.alloc hbs _).grown hg' (by simp; omega) (fun j hj => (hown.lt j hj).1)
      go_wp2
      go_ret
      have hke : k = rest.size := by omega
      exact ⟨_, rfl, Strs.cut hown' (by rw [HSP.out, G2.out (by omega)]; simp) (by rw [HSP.out, G2.out (by omega), scells_snoc, hke, ext_pre]; congr 3; exact congrArg _ (by rw [take_all])), hb1⟩
end Go.Proofs.YtiofgepfcacgjaaDoor
namespace Go.Proofs.YtiofgepfcacgjaaDoor
open Go.RowKit
set_option linter.unusedVariables false
set_option linter.unusedSimpArgs false

theorem scells_tv (l : List (List UInt8)) : scells l = tcells l := rfl
/-- a row of the call's own reads as its texts -/
theorem Strs.rd {w : World} {B : Nat} {v : Value} {l : List (List UInt8)} (h : Strs w B v l) : RdT w v l := by
  have hc := fun g => World.ownsRow.cells (g := g) h
  rcases h.2 with ⟨hv, h0⟩ | ⟨g, cap, cur, hv, hB, hg, hcap, _⟩
  · exact ⟨none, 0, by rw [hv, h0], by omega, fun k r hk => by rw [List.eq_nil_of_length_eq_zero h0] at hk; cases hk⟩
  · refine ⟨_, cap, hv, hcap, fun k x hk => ⟨g, 0, rfl, (Array.getElem?_eq_some_iff.1 hg).1, ?_⟩⟩
    have := hc g (by rw [hv]; rfl) k (tv x) (by rw [scells_tv]; unfold tcells; rw [List.getElem?_map, hk]; rfl)
    rwa [Addr.add_lit] at this
theorem RdT.drop16 {w : World} {A : Option Addr} {n c m : Nat} {l : List (List UInt8)} (h : RdT w (.slice A n c) l) (hn : l.length = n) (hm : m ≤ n) : RdT w (.slice (if c = m then A else A.map (·.add (m * 1))) (n - m) (c - m)) (l.drop m) := by
  obtain ⟨A', c', e, hc, h⟩ := h
  cases e
  refine ⟨_, _, by rw [List.length_drop], by rw [List.length_drop]; omega, fun k x hk => ?_⟩
  rw [List.getElem?_drop] at hk
  obtain ⟨g, o, rfl, hg, h1⟩ := h _ _ hk
  have hlt := (List.getElem?_eq_some_iff.1 hk).1
  rw [if_neg (by omega)]
  refine ⟨g, o + m * 1, by simp [Addr.add_lit], hg, ?_⟩
  rw [show o + m * 1 + k = o + (m + k) by omega]
  exact h1
theorem split_ne (c : UInt8) (s : List UInt8) : splitL c s ≠ [] := fun e => by
  have h2 := splitL_at c s
  rw [e] at h2
  split at h2 <;> cases h2
end Go.Proofs.YtiofgepfcacgjaaDoor
namespace Go.Proofs.YtiofgepfcacgjaaDoor
open Go.RowKit
set_option linter.unusedVariables false
set_option linter.unusedSimpArgs false

theorem Tryd.infoStrsY : (Tryd.prog.info? 30).map (fun i => (i.zero, i.size, i.bytes)) = some (some (.slice none 0 0), 1, 24) := by kernel_rfl
set_option maxRecDepth 100000 in
set_option maxHeartbeats 8000000 in
theorem refRules_any (s : List UInt8) (hs : s.length ≤ 5000) (w : World) :
    Calls Tryd.prog 33 #[.string ⟨s.toArray⟩] w fun e w' => (∃ v k, e = .returned (.tuple #[v, .int .i64 k, .int .i64 (rulesE s)])) ∧ Below w.heap.size w w' := by
  obtain ⟨i0, hi, hz0, hz1, hz2⟩ := info_parts Tryd.infoStrsY
  obtain ⟨E, hE⟩ : ∃ E, rulesE s = E := ⟨_, rfl⟩
  rw [hE]
  unfold rulesE at hE
  by_cases h0 : s = []
  · subst h0
    rw [if_pos rfl] at hE
    subst hE
    go_enter Tryd.func33, Tryd.ntmps33
    go_wp2_with fail
    go_ret3
    exact ⟨⟨_, _, rfl⟩, Below.refl _ _⟩
  rw [if_neg h0] at hE
  have hne : s.isEmpty = false := by
    cases s with
    | nil => exact absurd rfl h0
    | cons _ _ => rfl
  have hsz : (⟨s.toArray⟩ : ByteArray).size = s.length := by show s.toArray.size = _; simp
  have hsp := fun W => split_any ⟨s.toArray⟩ 59 (by rw [hsz]; omega) W
  have hdl : (⟨s.toArray⟩ : ByteArray).data.toList = s := by simp
  rw [hdl] at hsp
  obtain ⟨ps, hps⟩ : ∃ ps, splitL 59 s = ps := ⟨_, rfl⟩
  rw [hps] at hsp hE
  have hpe : ∀ p ∈ ps, p.length ≤ 5000 := fun p hp => by
    have := splitL_each 59 s p (by rw [hps]; exact hp)
    omega
  obtain ⟨n, hn⟩ : ∃ n, ps.length = n := ⟨_, rfl⟩
  rw [hn] at hE
  have hnl : n ≤ 5001 := by
    have := splitL_len 59 s
    rw [hps, hn] at this; omega
  have HSP := Lib.hid hsp; have HPE := Lib.hid hpe; have HN := Lib.hid hn
  clear hsp hps hpe hn hdl hsz
  by_cases h64 : 64 < n
  · rw [if_pos h64] at hE
    subst hE
    have hd : decide ((64 : Int) < (n : Int)) = true := by simp; omega
    go_enter Tryd.func33, Tryd.ntmps33
    go_wp2_with (go_at_call 53; refine (HSP.out _).mono ?_; rintro e1 w1 ⟨v1, rfl, hst, hb1⟩; obtain ⟨A1, c1, rfl⟩ := own_form hst; rw [HN.out]; have HB1 := Lib.hid hb1; clear hb1 hst; dsimp only)
    go_ret3
    exact ⟨⟨_, _, rfl⟩, HB1.out⟩
  rw [if_neg h64] at hE
  have hd : decide ((64 : Int) < (n : Int)) = false := by simp; omega
  have HE := Lib.hid hE
  clear hE
  go_enter Tryd.func33, Tryd.ntmps33
  go_wp2_with (go_at_call 53; refine (HSP.out _).mono ?_; rintro e1 w1 ⟨v1, rfl, hst, hb1⟩; obtain ⟨A1, c1, rfl⟩ := own_form hst; have hrd := hst.rd; rw [HN.out] at hrd ⊢; have HB1 := Lib.hid hb1; have HRD := Lib.hid hrd; clear hb1 hst hrd; dsimp only)
  go_loopw [6, 7] (fun ov i W => ∃ (k : Nat) (xs : List Value), k ≤ n ∧ i = .int .i64 k ∧ Hid (W.ownsRow w1.heap.size 30 1 ov k xs ∧ Below w1.heap.size w1 W ∧ ∀ j (hj : j < ps.length), j < k → (wordsU ps[j]).good = true)) (fun _ i _ => n - (intOf i).toNat)
  case atStart => exact ⟨0, [], Nat.zero_le _, rfl, Lib.hid ⟨World.ownsRow_nil _ _ _ _, Below.refl _ _, fun j hj h => absurd h (Nat.not_lt_zero _)⟩⟩
  case round =>
    obtain ⟨k, xs, hkn, rfl, hx⟩ := hrel
    obtain ⟨LA, lc, rfl⟩ := own_form hx.out.1
    have BW := Lib.hid (HB1.out.chain hx.out.2.1)
    by_cases hlt : k < n
    · have hkr : decide ((k : Int) < n) = true := by simp; omega
      have hkl : k < ps.length := by have := HN.out; omega
      obtain ⟨g, o, rfl, hg, c0⟩ := HRD.out.at k hkl
      obtain ⟨p, hp⟩ : ∃ p, ps[k] = p := ⟨_, rfl⟩
      have hpl : p.length ≤ 5000 := HPE.out p (by rw [← hp]; exact List.getElem_mem hkl)
      have HP := Lib.hid hp
      rw [hp] at c0
      have c0 := (hx.out.2.1.cell (p := ⟨g, o + k, none⟩) hg).trans c0
      unfold tv at c0
      have hpz : (⟨p.toArray⟩ : ByteArray).size = p.length := by show p.toArray.size = _; simp
      have hpd : (⟨p.toArray⟩ : ByteArray).data.toList = p := by simp
      have hspw := fun W => split_any ⟨p.toArray⟩ 32 (by rw [hpz]; omega) W
      rw [hpd] at hspw
      obtain ⟨a0, ar, har⟩ : ∃ a0 ar, splitL 32 p = a0 :: ar := by
        cases h : splitL 32 p with
        | nil => exact absurd h (split_ne 32 p)
        | cons a b => exact ⟨a, b, rfl⟩
      have hgd : wordsU p = ⟨a0, ar⟩ := by unfold wordsU; rw [har]; rfl
      have hbd : ar.length ≤ 5001 ∧ ∀ x ∈ ar, x.length ≤ 5000 := by
        have h1 := splitL_len 32 p
        rw [har, List.length_cons] at h1
        refine ⟨by omega, fun x hx => ?_⟩
        have := splitL_each 32 p x (by rw [har]; exact List.mem_cons_of_mem _ hx)
        omega
      rw [har] at hspw
      have HSW := Lib.hid hspw; have HGD := Lib.hid hgd; have HBD := Lib.hid hbd; have HX := Lib.hid hx.out
      have hk0 : (0 : Int) ≤ k := by omega
      have hk1 : (k : Int) < n := by omega
      clear hspw hgd hbd hx hp har hpz hpd
      go_upto_region 11 with (go_at_call 53; refine (HSW.out _).mono ?_; rintro e2 w2 ⟨v2, rfl, hst, hb2⟩; obtain ⟨A2, c2, rfl⟩ := own_form hst; have HST := Lib.hid hst; have HB2 := Lib.hid hb2; clear hb2 hst; dsimp only)
      have hrd2 := HST.out.rd
      obtain ⟨m, hm⟩ : ∃ m, ar.length = m := ⟨_, rfl⟩
      have hlen : (a0 :: ar).length = m + 1 := by rw [List.length_cons, hm]
      rw [hlen] at hrd2 ⊢
      obtain ⟨g2, o2, rfl, hg2, hcz⟩ := hrd2.at 0 (by simp)
      obtain ⟨AZ, hAZ⟩ : ∃ AZ : ByteArray, (⟨a0.toArray⟩ : ByteArray) = AZ := ⟨_, rfl⟩
      have hcz : w2.cell? ⟨g2, o2, none⟩ = some (.string AZ) := by rw [← hAZ]; exact hcz
      have hc2 : m + 1 ≤ c2 := by
        obtain ⟨_, _, e, h, _⟩ := id hrd2
        cases e
        rw [hlen] at h
        exact h
      have htl := RdT.drop16 hrd2 hlen (show 1 ≤ m + 1 by omega)
      rw [show (a0 :: ar).drop 1 = ar from rfl, show m + 1 - 1 = m by omega] at htl
      have hif : (if c2 = 1 then (some (⟨g2, o2, none⟩ : Addr)) else (some (⟨g2, o2, none⟩ : Addr)).map (·.add (1 * 1))) = (if c2 = 1 then (some (⟨g2, o2, none⟩ : Addr)) else some ⟨g2, o2 + 1, none⟩) := by simp [Addr.add_lit]
      rw [hif] at htl
      have hgood : (RU.mk a0 ar).good = (wordsU p).good := by rw [HGD.out]
      obtain ⟨gd, hgd⟩ : ∃ b, (wordsU p).good = b := ⟨_, rfl⟩
      obtain ⟨AQ, hAQ⟩ : ∃ AQ, (if c2 = 1 then (some (⟨g2, o2, none⟩ : Addr)) else some ⟨g2, o2 + 1, none⟩) = AQ := ⟨_, rfl⟩
      rw [hAQ] at htl
      have hrl : Calls Tryd.prog 54 #[.string AZ, .slice AQ m (c2 - 1)] w2.drew fun e w' => e = .returned (.bool gd) ∧ Below w2.drew.heap.size w2.drew w' := by
        have h1 := refRule_any a0 AQ (c2 - 1) ar (by have := HBD.out.1; omega) (fun x hx => by have := HBD.out.2 x hx; omega) w2.drew (by rw [hm]; exact htl.below (Below.refl _ _).drew)
        rw [hgood, hgd, hm] at h1
        rw [← hAZ]
        exact h1
      have HRL := Lib.hid hrl; have HG2 := Lib.hid hg2; have HCZ := Lib.hid hcz; have GDH := Lib.hid hgd
      have zq1 : (1 : Int) ≤ (m : Int) + 1 := by omega
      have zq2 : (1 : Int) ≤ (c2 : Int) := by omega
      have zq3 : (0 : Int) < (m : Int) + 1 := by omega
      have zq4 : (m : Int) + 1 ≤ (c2 : Int) := by omega
      clear hrl hg2 hgood hgd htl hAZ hif
      refine wp_region_held_drew (S := (fun W => W.cell? ⟨g2, o2, none⟩ = some (.string AZ))) (by kernel_rfl) (HCZ.out) (fun hHeld => ?_)
      refine wpAnyH_take (i := 0) (oi := _) (v := ?v61001) (by simp only [List.getElem?_toArray, List.getElem?_cons_succ, List.getElem?_cons_zero]; rfl) (by kernel_rfl) (by kernel_rfl) (by kernel_rfl) (by exact fun _ _ _ h => h) (Or.inl ⟨by rfl, ?hy61001⟩) (by assumption) ?rest61001
      case hy61001 => (intro w hSw; (try dsimp only at hSw); go_simp; try with_reducible rfl)
      try simp only [Act.put, List.setIfInBounds_toArray, List.set_cons_zero, List.set_cons_succ]
      refine wpAnyH_take (i := 1) (oi := _) (v := ?v61002) (by simp only [List.getElem?_toArray, List.getElem?_cons_succ, List.getElem?_cons_zero]; rfl) (by kernel_rfl) (by kernel_rfl) (by kernel_rfl) (by exact fun _ _ _ h => h) (Or.inl ⟨by rfl, ?hy61002⟩) (by assumption) ?rest61002
      case hy61002 => (intro w hSw; (try dsimp only at hSw); go_simp; try with_reducible rfl)
      try simp only [Act.put, List.setIfInBounds_toArray, List.set_cons_zero, List.set_cons_succ]
      refine wpAnyH_take (i := 2) (oi := _) (v := ?v61003) (by simp only [List.getElem?_toArray, List.getElem?_cons_succ, List.getElem?_cons_zero]; rfl) (by kernel_rfl) (by kernel_rfl) (by kernel_rfl) (by exact fun _ _ _ h => h) (Or.inl ⟨by rfl, ?hy61003⟩) (by assumption) ?rest61003
      case hy61003 => (intro w hSw; (try dsimp only at hSw); go_simp; try with_reducible rfl)
      try simp only [Act.put, List.setIfInBounds_toArray, List.set_cons_zero, List.set_cons_succ]
      refine wpAnyH_take (i := 3) (oi := _) (v := ?v61004) (by simp only [List.getElem?_toArray, List.getElem?_cons_succ, List.getElem?_cons_zero]; rfl) (by kernel_rfl) (by kernel_rfl) (by kernel_rfl) (by exact fun _ _ _ h => h) (Or.inl ⟨by rfl, ?hy61004⟩) (by assumption) ?rest61004
      case hy61004 => (intro w hSw; (try dsimp only at hSw); go_simp; try with_reducible rfl)
      try simp only [Act.put, List.setIfInBounds_toArray, List.set_cons_zero, List.set_cons_succ]
      refine wpAnyH_take (i := 4) (oi := _) (v := ?v61005) (by simp only [List.getElem?_toArray, List.getElem?_cons_succ, List.getElem?_cons_zero]; rfl) (by kernel_rfl) (by kernel_rfl) (by kernel_rfl) (by exact fun _ _ _ h => h) (Or.inl ⟨by rfl, ?hy61005⟩) (by assumption) ?rest61005
      case hy61005 => (intro w hSw; (try dsimp only at hSw); go_simp; try with_reducible rfl)
      try simp only [Act.put, List.setIfInBounds_toArray, List.set_cons_zero, List.set_cons_succ]
      refine wpAnyH_ready (rs := [5]) (by kernel_rfl) (by simp) ?_
      refine AllReadyH.cons (o := _) (by simp only [List.getElem?_toArray, List.getElem?_cons_succ, List.getElem?_cons_zero]; rfl) (fun K hK => ?_) AllReadyH.nil
      go_simp
      go_at_call 54
      (with_reducible refine (HRL.out).mono ?_)
      rintro e3 w3 ⟨rfl, hb3⟩
      have Q3 := Lib.hid (below_drew2 _ _ hb3)
      clear hb3
      dsimp only
      refine hK.out _ _ ((Q3.out.cell (p := ⟨g2, o2, none⟩) HG2.out).trans HCZ.out) (fun hHeld => ?_)
      clear hK K
      try simp only [Act.put, List.setIfInBounds_toArray, List.set_cons_zero, List.set_cons_succ]
      refine wpAnyH_take (i := 6) (oi := _) (v := ?v61007) (by simp only [List.getElem?_toArray, List.getElem?_cons_succ, List.getElem?_cons_zero]; rfl) (by kernel_rfl) (by kernel_rfl) (by kernel_rfl) (by exact fun _ _ _ h => h) (Or.inl ⟨by rfl, ?hy61007⟩) (by assumption) ?rest61007
      case hy61007 => (intro w hSw; (try dsimp only at hSw); go_simp; try with_reducible rfl)
      try simp only [Act.put, List.setIfInBounds_toArray, List.set_cons_zero, List.set_cons_succ]
      refine wpAnyH_done (by kernel_rfl) ?_ _
      cases gd with
      | false =>
        have hE2 : E = 2 := by
          rw [← HE.out, if_neg]
          intro h
          rw [List.all_eq_true] at h
          have := h p (by rw [← HP.out]; exact List.getElem_mem hkl)
          rw [GDH.out] at this
          cases this
        subst hE2
        go_wp2_with fail
        go_ret3
        exact ⟨⟨_, _, rfl⟩, (BW.out.chain HB2.out).chain Q3.out⟩
      | true =>
        have hnx : ∀ j (hj : j < ps.length), j < k + 1 → (wordsU ps[j]).good = true := fun j hj h => by
          by_cases e : j = k
          · subst e; rw [HP.out]; exact GDH.out
          · exact HX.out.2.2 j hj (by omega)
        have hown := own_below HX.out.1 (HB2.out.chain Q3.out)
        have B3 := Lib.hid ((HX.out.2.1.chain HB2.out).chain Q3.out)
        have HNX := Lib.hid hnx; have OW := Lib.hid hown
        clear hnx hown
        go_wp2_with (at_builtin; refine wpList_append_opt rfl (.tmp 36) (.tmp 38) 58 rfl w1.heap.size 30 i0 _ 1 24 Tryd.underlying58 hi hz0 hz1 hz2 rfl (by decide) _ _ _ rfl (World.ownsRow.alloc OW.out _) (some ⟨w3.heap.size, 0, none⟩) 1 1 [.slice (some ⟨g2, o2, none⟩) (m + 1) c2] rfl rfl (.inr ⟨_, rfl, new_cells _ #[_] _⟩) (by intro u hu; simp at hu; subst hu; rfl) (by unfold maxLen; omega) (by omega) (by have := B3.out.size; simp; omega) ?_)
        intro v7 w7 hown7 hg7 hat7
        have hb7 : Below w1.heap.size w1 w7 := (B3.out.alloc B3.out.size _).grown hg7 (by have := B3.out.size; simp; omega) (fun q hq => (OW.out.lt q hq).1)
        have B7 := Lib.hid hb7; have O7 := Lib.hid hown7
        clear hb7 hown7 hg7 hat7
        go_wp2
        go_roundw
        case rel => exact ⟨k + 1, _, by omega, by go_num, Lib.hid ⟨O7.out, B7.out, HNX.out⟩⟩
        case measure => simp [intOf]; omega
    · obtain rfl : k = n := by omega
      have hkr : decide ((k : Int) < k) = false := by simp
      have hall : ps.all (fun p => (wordsU p).good) = true := by
        rw [List.all_eq_true]
        intro p hp
        obtain ⟨j, hj, rfl⟩ := List.mem_iff_getElem.1 hp
        exact hx.out.2.2 j hj (by have := HN.out; omega)
      have e : E = 0 := by rw [← HE.out, if_pos hall]
      subst e
      clear hall hx
      go_wp2_with fail
      go_ret3
      exact ⟨⟨_, _, rfl⟩, BW.out⟩
end Go.Proofs.YtiofgepfcacgjaaDoor
