/- Texts merged by program, in build order: RuleWord, RuleIs, StrClone, RuleSplit, RuleSplitSeq. -/
import Derived.Test.YtiofgepfcacgjaaDoorG02
import Derived.Test.YtiofgepfcacgjaaDoorG01
import Derived.Test.YtiofgepfcacgjaaDoorG13
import Derived.Test.YtiofgepfcacgjaaDoorG04
import Derived.Test.YtiofgepfcacgjaaDoorG05
import Derived.Deep.Cut
import Derived.Deep.CutBlock
import Derived.Test.YtiofgepfcacgjaaDoorG03
import Derived.Lib.Split
import Derived.Lib.IndexBytes
import Derived.Test.YtiofgepfcacgjaaDoorG12
import Derived.Shelf.Abstract
import Derived.Shelf.RegionOpen
import Derived.WalkKit
import Derived.OwnWalkIn
import Derived.TacticsInMore
import Derived.LoopNIn
import Derived.LoopIn
set_option linter.unusedVariables false
set_option linter.unusedSimpArgs false
namespace Go.Proofs.YtiofgepfcacgjaaDoor
open Go.RowKit Go.Shelf
set_option linter.unusedVariables false
set_option linter.unusedSimpArgs false

/-- a letter of a word, as a rune -/
def lp (n : Nat) : Bool := decide (97 ≤ n ∧ n ≤ 122) || decide (65 ≤ n ∧ n ≤ 90) || decide (48 ≤ n ∧ n ≤ 57) || decide (n = 95) || decide (n = 45)
theorem lp_letter (c : UInt8) : lp c.toNat = letterR c := by
  unfold lp letterR
  simp only [UInt8.le_iff_toNat_le, ← UInt8.toNat_inj]
  rfl
theorem lp_small {n : Nat} (h : lp n = true) : n < 128 := by
  unfold lp at h
  simp only [Bool.or_eq_true, decide_eq_true_eq] at h
  omega
theorem decode_high (s : ByteArray) (i : Nat) (h : ¬ (s.get! (i + 0)).toNat < 128) : 128 ≤ (Utf8.decode s i).1 := by
  unfold Utf8.decode
  dsimp only
  rw [if_neg h]
  split
  · split
    · assumption
    · decide
  · split
    · split
      · rename_i h1
        simp only [ge_iff_le, Bool.and_eq_true, decide_eq_true_eq] at h1
        omega
      · decide
    · split
      · split
        · rename_i h1
          simp only [ge_iff_le, Bool.and_eq_true, decide_eq_true_eq] at h1
          omega
        · decide
      · decide
theorem idx_word (s : ByteArray) : ∀ (f pos : Nat), s.size ≤ f + pos → decide (0 ≤ Lib.idxFuncFrom (fun n => !lp n) true s f pos) = !(s.data.toList.drop pos).all letterR
  | 0, pos, h => by
    have hsz : s.data.toList.length = s.size := rfl
    have : s.data.toList.drop pos = [] := List.drop_eq_nil_of_le (by omega)
    rw [this]; rfl
  | f + 1, pos, h => by
    have hsz : s.data.toList.length = s.size := rfl
    unfold Lib.idxFuncFrom
    by_cases hp : pos < s.size
    · rw [if_pos hp]
      have hl : pos < s.data.toList.length := by omega
      have hd : s.data.toList.drop pos = s.data.toList[pos] :: s.data.toList.drop (pos + 1) := List.drop_eq_getElem_cons hl
      have hg : s.get! (pos + 0) = s.data.toList[pos] := by
        show s.data[pos + 0]! = _
        rw [Nat.add_zero, getElem!_pos s.data pos (show pos < s.data.size from hp)]
        simp
      rw [hd, List.all_cons]
      by_cases ha : (s.data.toList[pos]).toNat < 128
      · have hdec : Utf8.decode s pos = ((s.data.toList[pos]).toNat, 1) := by
          have he : s[pos] = s.data.toList[pos] := by show s.data[pos] = _; simp
          have := decode_ascii s pos hp (by rw [he]; exact ha)
          rw [this, he]
        rw [hdec]
        dsimp only
        rw [lp_letter]
        cases hlet : letterR s.data.toList[pos] with
        | true =>
          rw [if_neg (by simp)]
          rw [idx_word s f (pos + 1) (by omega)]
          simp
        | false =>
          rw [if_pos (by simp)]
          simp
      · have hhi := decode_high s pos (by rw [hg]; exact ha)
        have h1 : lp (Utf8.decode s pos).1 = false := by
          cases hc : lp (Utf8.decode s pos).1 with
          | false => rfl
          | true => have := lp_small hc; omega
        have h2 : letterR s.data.toList[pos] = false := by
          rw [← lp_letter]
          cases hc : lp (s.data.toList[pos]).toNat with
          | false => rfl
          | true => have := lp_small hc; omega
        rw [if_pos (by rw [h1]; rfl), h2]
        simp
    · rw [if_neg hp]
      have : s.data.toList.drop pos = [] := List.drop_eq_nil_of_le (by omega)
      rw [this]; rfl
set_option maxRecDepth 100000 in
set_option maxHeartbeats 4000000 in
theorem other_any (x : Nat) (hx : x ≤ 1114111) (w : World) : Calls Tryd.prog 95 #[.int .i32 (x : Int)] w fun e w' => e = .returned (.bool (!lp x)) ∧ w' = w := by
  obtain ⟨y, hy⟩ : ∃ y : Int, (x : Int) = y := ⟨_, rfl⟩
  obtain ⟨L, hL⟩ : ∃ L, lp x = L := ⟨_, rfl⟩
  have hL2 : L = (decide (97 ≤ y ∧ y ≤ 122) || decide (65 ≤ y ∧ y ≤ 90) || decide (48 ≤ y ∧ y ≤ 57) || decide (y = 95) || decide (y = 45)) := by
    rw [← hL, ← hy]
    unfold lp
    congr 1
    · congr 1
      · congr 1
        · congr 1
          · exact decide_eq_decide.2 (by omega)
          · exact decide_eq_decide.2 (by omega)
        · exact decide_eq_decide.2 (by omega)
      · exact decide_eq_decide.2 (by omega)
    · exact decide_eq_decide.2 (by omega)
  rw [hL, hy]
  have H := Lib.hid hL2
  clear hL hL2 hy hx
  go_enter Tryd.func95, Tryd.ntmps95
  go_wp2
  all_goals
    go_ret
    refine ⟨ret_bool ?_, rfl⟩
    rw [H.out, Bool.eq_iff_iff]
    simp only [decide_eq_true_eq, decide_eq_false_iff_not, Bool.and_eq_true, Bool.or_eq_true, Bool.not_eq_true', beq_iff_eq, beq_eq_false_iff_ne, Bool.or_eq_false_iff, Bool.true_eq_false, Bool.false_eq_true, ne_eq] at *
    first | omega | (refine ⟨False.elim, fun h => ?_⟩; omega)
theorem contains_any (s : List UInt8) (S : ByteArray) (hS : S = ⟨s.toArray⟩) (w : World) : Calls Tryd.prog 96 #[.string S, .func (.func 95) #[] #[]] w fun e w' => e = .returned (.bool (!s.all letterR)) ∧ Below w.heap.size w w' := by
  refine (Tryd.strings_ContainsFunc_runes 95 #[] (enters_of Tryd.func95 (by kernel_rfl) rfl) (fun n => !lp n) S w ?_).mono ?_
  · intro W x hx _
    exact (other_any x hx W).mono fun e w' ⟨h1, h2⟩ => ⟨h1, 0, h2⟩
  · rintro e w' ⟨rfl, h⟩
    refine ⟨ret_bool ?_, h⟩
    subst hS
    unfold Lib.idxFunc
    rw [idx_word _ _ 0 (by omega)]
    rfl
theorem str_nil (s : List UInt8) : (!(⟨s.toArray⟩ : ByteArray).toList == []) = decide (s ≠ []) := by
  rw [ByteArray.toList_eq]
  show (!s == []) = _
  cases s <;> simp
set_option maxRecDepth 100000 in
set_option maxHeartbeats 4000000 in
theorem isWord_any (s : List UInt8) (hs : s.length ≤ 1000000000000) (S : ByteArray) (hS : S = ⟨s.toArray⟩) (w : World) : Calls Tryd.prog 86 #[.string S] w fun e w' => e = .returned (.bool (nameR s)) ∧ Below w.heap.size w w' := by
  have hc := fun W => contains_any s S hS W
  have hsz : S.size = s.length := by rw [hS]; rfl
  obtain ⟨AL, hAL⟩ : ∃ z, s.all letterR = z := ⟨_, rfl⟩
  rw [hAL] at hc
  obtain ⟨R, hR⟩ : ∃ z, nameR s = z := ⟨_, rfl⟩
  have hRR : R = (AL && decide (1 ≤ s.length ∧ s.length ≤ 32)) := by rw [← hR, ← hAL]; rfl
  rw [hR]
  have HC := Lib.hid hc
  clear hc hR hAL
  by_cases h0 : s = []
  · subst h0
    have hRf : R = false := by rw [hRR]; simp
    subst hRf
    have t1 : S.toList = [] := by rw [hS, ByteArray.toList_eq]
    have t0 : S.toList.isEmpty = true := by rw [t1]; rfl
    clear hRR hsz hS
    go_enter Tryd.func86, Tryd.ntmps86
    go_wp2
    go_ret
    exact ⟨rfl, Below.refl _ _⟩
  · have t1 : ¬ S.toList = [] := by rw [hS, ByteArray.toList_eq]; exact h0
    have t0 : S.toList.isEmpty = false := by simpa using t1
    have hp : 1 ≤ s.length := by cases s with | nil => exact absurd rfl h0 | cons a b => simp
    by_cases h32 : s.length ≤ 32
    · have hRA : R = AL := by rw [hRR, decide_eq_true ⟨hp, h32⟩, Bool.and_true]
      subst hRA
      have t2 : decide ((S.size : Int) ≤ 32) = true := by simp; omega
      clear hRR hsz hS
      go_enter Tryd.func86, Tryd.ntmps86
      go_wp2_with (go_at_call 96; (with_reducible refine (HC.out _).mono ?_); rintro e1 w1 ⟨rfl, hb1⟩; have HB1 := Lib.hid hb1; clear hb1; dsimp only)
      go_ret
      exact ⟨ret_bool (by simp), HB1.out⟩
    · have hRf : R = false := by rw [hRR, decide_eq_false (fun h => h32 h.2), Bool.and_false]
      subst hRf
      have t2 : decide ((S.size : Int) ≤ 32) = false := by simp; omega
      clear hRR hsz hS
      go_enter Tryd.func86, Tryd.ntmps86
      go_wp2
      go_ret
      exact ⟨rfl, Below.refl _ _⟩
end Go.Proofs.YtiofgepfcacgjaaDoor
namespace Go.Proofs.YtiofgepfcacgjaaDoor
open Go.RowKit Go.Shelf
set_option linter.unusedVariables false
set_option linter.unusedSimpArgs false

set_option maxRecDepth 100000 in
set_option maxHeartbeats 4000000 in
theorem isOwn_any (s : List UInt8) (S : ByteArray) (hS : S = ⟨s.toArray⟩) (w : World) : Calls Tryd.prog 84 #[.string S] w fun e w' => e = .returned (.bool (keptR.contains s)) ∧ w' = w := by
  have hl : S.toList = s := by rw [hS, ByteArray.toList_eq]
  obtain ⟨R, hR⟩ : ∃ R, keptR.contains s = R := ⟨_, rfl⟩
  rw [← hl] at hR
  rw [← hl, hR]
  have H := Lib.hid hR
  clear hR hl hS
  go_enter Tryd.func84, Tryd.ntmps84
  go_wp2
  all_goals
    go_ret
    refine ⟨ret_bool ?_, rfl⟩
    rw [← H.out]
    simp_all [keptR]
set_option maxRecDepth 100000 in
theorem noWord_any (s : List UInt8) (hs : s.length ≤ 1000000000000) (S : ByteArray) (hS : S = ⟨s.toArray⟩) (w : World) : Calls Tryd.prog 85 #[.string S] w fun e w' => e = .returned (.bool (!nameR s)) ∧ Below w.heap.size w w' := by
  have h := fun W => isWord_any s hs S hS W
  obtain ⟨R, hR⟩ : ∃ R, nameR s = R := ⟨_, rfl⟩
  rw [hR] at h ⊢
  have H := Lib.hid h
  clear h hR hS
  go_enter Tryd.func85, Tryd.ntmps85
  go_wp2_with (go_at_call 86; (with_reducible refine (H.out _).mono ?_); rintro e1 w1 ⟨rfl, hb1⟩; have HB1 := Lib.hid hb1; clear hb1; dsimp only)
  go_ret
  exact ⟨rfl, HB1.out⟩
set_option maxRecDepth 100000 in
set_option maxHeartbeats 4000000 in
theorem indexFuncS_any (l : List (List UInt8)) (A : Option Addr) (c : Nat) (w : World) (hl : l.length ≤ 1000000) (hs : ∀ x ∈ l, x.length ≤ 1000000000000) (h : RdT w (.slice A l.length c) l) :
    Calls Tryd.prog 71 #[.slice A l.length c, .func (.func 85) #[] #[]] w fun e w' => (∃ i : Int, e = .returned (.int .i64 i) ∧ decide (0 ≤ i) = !l.all nameR) ∧ Below w.heap.size w w' := by
  obtain ⟨n, hn⟩ : ∃ n, l.length = n := ⟨_, rfl⟩
  have hcl := fun (x : List UInt8) (hx : x ∈ l) (W : World) (S : ByteArray) (hS : S = ⟨x.toArray⟩) => noWord_any x (hs x hx) S hS W
  rw [hn] at h ⊢
  have H := Lib.hid h; have HC := Lib.hid hcl; have HN := Lib.hid hn
  clear h hcl
  go_enter Tryd.func71, Tryd.ntmps71
  go_wp2_with fail
  go_loopw [8] (fun i wr => ∃ k : Nat, k ≤ n ∧ i = .int .i64 k ∧ (l.take k).all nameR = true ∧ Below w.heap.size w wr) (fun i _ => n - (intOf i).toNat)
  case atStart => exact ⟨0, Nat.zero_le _, rfl, rfl, Below.refl _ _⟩
  case round =>
    obtain ⟨k, hkn, rfl, hp, hbw⟩ := hrel
    have HP := Lib.hid hp; clear hp
    by_cases hlt : k < n
    · have hkl : k < l.length := by rw [HN.out]; exact hlt
      obtain ⟨g, o, rfl, hg, c1⟩ := (H.out.below hbw).at k hkl
      have hc := HC.out l[k] (List.getElem_mem hkl)
      have hat : (l.take (k + 1)).all nameR = ((l.take k).all nameR && nameR l[k]) := by
        rw [List.take_succ_eq_append_getElem hkl, List.all_append]; simp
      have hno : nameR l[k] = false → l.all nameR = false := fun h => by
        rw [Bool.eq_false_iff]; intro ha
        have := List.all_eq_true.1 ha _ (List.getElem_mem hkl)
        rw [h] at this; cases this
      obtain ⟨S, hS⟩ : ∃ S : ByteArray, S = ⟨l[k].toArray⟩ := ⟨_, rfl⟩
      unfold tv at c1
      rw [← hS] at c1
      have hcc := hc wr S hS
      obtain ⟨Z, hZ⟩ : ∃ z, nameR l[k] = z := ⟨_, rfl⟩
      rw [hZ] at hcc hat hno
      have HCC := Lib.hid hcc; have HAT := Lib.hid hat; have HH := Lib.hid hno; have HBW := Lib.hid hbw
      have hk0 : (0 : Int) ≤ k := by omega
      have hk1 : (k : Int) < n := by omega
      clear hc hat hno hZ hbw hcc hS
      cases Z with
      | false =>
        go_wp2_with (go_at_call 85; (with_reducible refine HCC.out.mono ?_); rintro e1 w1 ⟨rfl, hb1⟩; have HB1 := Lib.hid (HBW.out.chain hb1); clear hb1; dsimp only)
        go_ret
        exact ⟨⟨k, rfl, by rw [HH.out trivial]; simp⟩, HB1.out⟩
      | true =>
        go_wp2_with (go_at_call 85; (with_reducible refine HCC.out.mono ?_); rintro e1 w1 ⟨rfl, hb1⟩; have HB1 := Lib.hid (HBW.out.chain hb1); clear hb1; dsimp only)
        go_roundw
        case rel => exact ⟨k + 1, by omega, by go_num, by rw [HAT.out, HP.out]; rfl, HB1.out⟩
        case measure => simp [intOf]; omega
    · obtain rfl : k = n := by omega
      have hall : l.take k = l := by rw [← HN.out, List.take_length]
      have HA := Lib.hid hall; have HBW := Lib.hid hbw
      clear hall hbw
      go_wp2
      go_ret
      exact ⟨⟨-1, rfl, by rw [← HA.out, HP.out]; rfl⟩, HBW.out⟩
set_option maxRecDepth 100000 in
theorem containsFuncS_any (l : List (List UInt8)) (A : Option Addr) (c : Nat) (w : World) (hl : l.length ≤ 1000000) (hs : ∀ x ∈ l, x.length ≤ 1000000000000) (h : RdT w (.slice A l.length c) l) :
    Calls Tryd.prog 63 #[.slice A l.length c, .func (.func 85) #[] #[]] w fun e w' => e = .returned (.bool (!l.all nameR)) ∧ Below w.heap.size w w' := by
  have h := indexFuncS_any l A c w hl hs h
  obtain ⟨B, hB⟩ : ∃ B, (!l.all nameR) = B := ⟨_, rfl⟩
  rw [hB] at h ⊢
  have H := Lib.hid h
  clear h hB
  go_enter Tryd.func63, Tryd.ntmps63
  go_wp2_with (go_at_call 71; (with_reducible refine H.out.mono ?_); rintro e1 w1 ⟨⟨i, rfl, hi⟩, hb1⟩; have HB1 := Lib.hid hb1; have HI := Lib.hid hi; clear hb1 hi; dsimp only)
  go_ret
  exact ⟨ret_bool HI.out, HB1.out⟩
theorem good_of {o : List UInt8} {l : List (List UInt8)} {m : Nat} {sets : Bool} (hm : argsN o = m) (h0 : m ≠ 0) (hs : sets = !decide (o = opNeed)) : (RU.mk o l).good = (decide (l.length = m) && (!(sets && keptR.contains (l.headD [])) && l.all nameR)) := by
  unfold RU.good
  dsimp only
  rw [hm, decide_eq_true h0, hs]
  by_cases hn : o = opNeed
  · simp [hn]
  · simp [hn]; cases l.all nameR <;> simp
set_option maxRecDepth 100000 in
set_option maxHeartbeats 8000000 in
theorem isRule_any (o : List UInt8) (A : Option Addr) (c : Nat) (l : List (List UInt8)) (hl : l.length ≤ 1000000) (hs : ∀ x ∈ l, x.length ≤ 1000000000000) (w : World) (h : RdT w (.slice A l.length c) l) :
    Calls Tryd.prog 75 #[.agg #[tv o, .slice A l.length c]] w fun e w' => e = .returned (.bool (RU.mk o l).good) ∧ Below w.heap.size w w' := by
  obtain ⟨n, hn⟩ : ∃ n, l.length = n := ⟨_, rfl⟩
  obtain ⟨O, hO⟩ : ∃ O : ByteArray, O = ⟨o.toArray⟩ := ⟨_, rfl⟩
  have hol : O.toList = o := by rw [hO, ByteArray.toList_eq]
  have htv : tv o = .string O := by rw [hO]; rfl
  rw [htv, hn]
  have hcf := fun W (hW : Below w.heap.size w W) => containsFuncS_any l A c W hl hs (h.below hW)
  rw [hn] at hcf
  have hk := fun (x : List UInt8) S hS W => isOwn_any x S hS W
  obtain ⟨G, hG⟩ : ∃ G, (RU.mk o l).good = G := ⟨_, rfl⟩
  have hgo := fun m sets => @good_of o l m sets
  rw [hG] at hgo ⊢
  have hno : argsN o = 0 → G = false := fun h => by rw [← hG]; exact good_no (.inl h)
  rw [← hol] at hgo hno
  obtain ⟨W1, hW1⟩ : ∃ W1, W1 = w.alloc (.cells #[.string O, .slice A n c] 89) := ⟨_, rfl⟩
  have b1 : Below w.heap.size w W1 := by rw [hW1]; exact (Below.refl _ _).alloc (Nat.le_refl _) _
  have q1 : W1.heap[w.heap.size]? = some (.cells #[.string O, .slice A n c] 89 (0, 0)) := by rw [hW1]; exact heap_alloc_last w _
  have HCF := Lib.hid hcf; have HK := Lib.hid hk; have HGO := Lib.hid hgo; have HNO := Lib.hid hno; have HW1 := Lib.hid hW1; have B1 := Lib.hid b1; have H := Lib.hid h; have HN := Lib.hid hn; have Q1 := Lib.hid q1
  clear hcf hk hgo hno hW1 b1 h hn htv hol hO hG
  go_enter Tryd.func75, Tryd.ntmps75
  go_upto_block 0 with fail
  rw [← HW1.out]
  go_cut [3, 4] from 5 (fun s3 s4 wx => ∃ (m : Nat) (sets : Bool), s3 = .int .i64 m ∧ s4 = .bool sets ∧ argsN O.toList = m ∧ m ≠ 0 ∧ sets = (!decide (O.toList = opNeed)) ∧ wx = W1)
  case first =>
    go_wp2
    all_goals first
      | (go_meet
         case rel => first
           | exact ⟨2, true, rfl, rfl, by simp_all [argsN, opSet, opText, opNeed, opJoin, opOnly], by decide, by simp_all [opNeed], rfl⟩
           | exact ⟨3, true, rfl, rfl, by simp_all [argsN, opSet, opText, opNeed, opJoin, opOnly], by decide, by simp_all [opNeed], rfl⟩
           | exact ⟨2, false, rfl, rfl, by simp_all [argsN, opSet, opText, opNeed, opJoin, opOnly], by decide, by simp_all [opNeed], rfl⟩)
      | (obtain rfl := HNO.out (by simp_all [argsN, opSet, opText, opNeed, opJoin, opOnly])
         go_ret
         exact ⟨rfl, B1.out⟩)
  case rest =>
    obtain ⟨m, sets, rfl, rfl, hm, h0, hsets, hwc⟩ := hcut
    subst hwc
    have hG := HGO.out m sets hm h0 hsets
    have q1 := Q1.out
    have e0 : wc.cell? ⟨w.heap.size, 0, none⟩ = some (.string O) := by rw [cell_here q1]; rfl
    have e1 : wc.cell? ⟨w.heap.size, 1, none⟩ = some (.slice A n c) := by rw [cell_here q1]; rfl
    have hcf := HCF.out wc B1.out
    rw [HN.out] at hG
    clear HGO HNO hm hsets q1
    by_cases hnm : n = m
    · subst hnm
      have t1 : ((n : Int) != (n : Int)) = false := by simp
      rw [decide_eq_true rfl, Bool.true_and] at hG
      obtain ⟨AL, hAL⟩ : ∃ z, l.all nameR = z := ⟨_, rfl⟩
      rw [hAL] at hG hcf
      have HCC := Lib.hid hcf
      clear hcf hAL
      cases sets with
      | false =>
        have hGA : G = AL := by rw [hG]; rfl
        subst hGA
        clear hG
        go_wp2_with (go_at_call 63; (with_reducible refine HCC.out.mono ?_); rintro e2 w2 ⟨rfl, hb2⟩; have HB2 := Lib.hid (B1.out.chain hb2); clear hb2; dsimp only)
        go_ret
        exact ⟨ret_bool (by simp), HB2.out⟩
      | true =>
        have hlp : 0 < l.length := by rw [HN.out]; omega
        obtain ⟨g, o', rfl, hg, c0⟩ := (H.out.below B1.out).at 0 hlp
        obtain ⟨S, hS⟩ : ∃ S : ByteArray, S = ⟨l[0].toArray⟩ := ⟨_, rfl⟩
        unfold tv at c0
        rw [← hS, Nat.add_zero] at c0
        have hh : l.headD [] = l[0] := by rw [List.headD_eq_head?_getD, List.head?_eq_getElem?, List.getElem?_eq_getElem hlp]; rfl
        have hko := HK.out l[0] S hS wc
        rw [hh] at hG
        obtain ⟨KO, hKO⟩ : ∃ z, keptR.contains l[0] = z := ⟨_, rfl⟩
        rw [hKO] at hG hko
        have HKK := Lib.hid hko
        have hn0 : (0 : Int) < n := by omega
        clear hko hKO hh hS
        cases KO with
        | true =>
          have hGf : G = false := by rw [hG]; rfl
          subst hGf
          clear hG
          go_wp2_with (go_at_call 84; (with_reducible refine HKK.out.mono ?_); rintro e2 w2 ⟨rfl, rfl⟩; dsimp only)
          go_ret
          exact ⟨rfl, B1.out⟩
        | false =>
          have hGA : G = AL := by rw [hG]; rfl
          subst hGA
          clear hG
          go_wp2_with (first
            | (go_at_call 84; (with_reducible refine HKK.out.mono ?_); rintro e2 w2 ⟨rfl, rfl⟩; dsimp only)
            | (go_at_call 63; (with_reducible refine HCC.out.mono ?_); rintro e3 w3 ⟨rfl, hb2⟩; have HB2 := Lib.hid (B1.out.chain hb2); clear hb2; dsimp only))
          go_ret
          exact ⟨ret_bool (by simp), HB2.out⟩
    · have t1 : ((n : Int) != (m : Int)) = true := by simp; omega
      rw [decide_eq_false hnm, Bool.false_and] at hG
      subst hG
      clear hcf
      go_wp2
      go_ret
      exact ⟨rfl, B1.out⟩
end Go.Proofs.YtiofgepfcacgjaaDoor
namespace Go.Proofs.YtiofgepfcacgjaaDoor
open Go.RowKit

set_option maxRecDepth 100000 in
theorem sclone_any (s : ByteArray) (hs : s.size ≤ 281474976710656) (w : World) :
    Calls Tryd.prog 83 #[.string s] w fun e w' => e = .returned (.string s) ∧ Below w.heap.size w w' := by
  have h := Lib.hid (Tryd.stringslite_Clone s w hs)
  go_enter Tryd.func83, Tryd.ntmps83
  go_wp2_with fail
  refine h.out.mono ?_
  rintro e w1 ⟨rfl, hb1⟩
  have B1 := Lib.hid hb1
  clear hb1
  dsimp only
  go_wp2
  go_ret
  exact ⟨rfl, B1.out⟩
end Go.Proofs.YtiofgepfcacgjaaDoor
namespace Go.Proofs.YtiofgepfcacgjaaDoor
open Go.RowKit
set_option linter.unusedVariables false
set_option linter.unusedSimpArgs false

/-- cut at the first k bytes c -/
def cutK (c : UInt8) : Nat → List UInt8 → List (List UInt8)
  | 0, s => [s]
  | k + 1, s => if atL c s < s.length then s.take (atL c s) :: cutK c k (s.drop (atL c s + 1)) else [s]
theorem cutK_ne (c : UInt8) : ∀ (k : Nat) (s : List UInt8), cutK c k s ≠ []
  | 0, s => by simp [cutK]
  | k + 1, s => by unfold cutK; split <;> simp
theorem cutK_len (c : UInt8) : ∀ (k : Nat) (s : List UInt8), (cutK c k s).length ≤ k + 1
  | 0, s => by simp [cutK]
  | k + 1, s => by
    unfold cutK; split
    · have := cutK_len c k (s.drop (atL c s + 1)); simp; omega
    · simp
theorem cutK_each (c : UInt8) : ∀ (k : Nat) (s : List UInt8), ∀ x ∈ cutK c k s, x.length ≤ s.length
  | 0, s => fun x hx => by simp [cutK] at hx; subst hx; exact Nat.le_refl _
  | k + 1, s => by
    unfold cutK
    intro x hx
    split at hx
    · rcases List.mem_cons.1 hx with rfl | hx
      · rw [List.length_take]; omega
      · have := cutK_each c k _ x hx
        rw [List.length_drop] at this; omega
    · simp at hx; subst hx; exact Nat.le_refl _
theorem splitK_cut (c : UInt8) : ∀ (k : Nat) (l : List UInt8), Lib.splitK [c] 0 k l = cutK c k l
  | 0, l => rfl
  | k + 1, l => by
    unfold Lib.splitK cutK
    by_cases hk : atL c l < l.length
    · have hi : Lib.index l [c] = (atL c l : Int) := by rw [Lib.index_one, atL_index, if_pos hk]
      rw [if_neg (fun e => by rw [hi] at e; have := beq_iff_eq.1 e; omega), if_pos hk, hi]
      simp only [Int.toNat_natCast, Nat.add_zero, List.length_singleton]
      rw [splitK_cut c k]
    · have hi : Lib.index l [c] = -1 := by rw [Lib.index_one, atL_index, if_neg hk]
      rw [if_pos (by rw [hi]; rfl), if_neg hk]
theorem splitB_cut (s : List UInt8) (c : UInt8) (k : Nat) : (Lib.splitB ⟨#[c]⟩ 0 k ⟨s.toArray⟩).map Value.string = (cutK c k s).map tv := by
  have h := Lib.splitB_data ⟨#[c]⟩ 0 k ⟨s.toArray⟩
  have e : (⟨s.toArray⟩ : ByteArray).data.toList = s := by simp
  have e2 : (⟨#[c]⟩ : ByteArray).data.toList = [c] := rfl
  rw [e, e2, splitK_cut] at h
  rw [← h, List.map_map]
  refine List.map_congr_left fun x _ => ?_
  show Value.string x = Value.string ⟨x.data.toList.toArray⟩
  congr 1
/-- a part's words, as a rule -/
def wordsR (s : List UInt8) : List (List UInt8) := cutK 32 (min 5 (s.length + 1) - 1) s
def ruleR (s : List UInt8) : RU := ⟨(wordsR s).headD [], (wordsR s).tail⟩
/-- a package's variable of the library, wherever it is -/
def Var0 (w : World) : Prop := ∃ m, w.cell? ⟨0, 0, none⟩ = some (.int .i64 m)
theorem Var0.lt {w : World} (h : Var0 w) : 0 < w.heap.size := by
  obtain ⟨m, h⟩ := h
  rcases Nat.lt_or_ge 0 w.heap.size with h1 | h1
  · exact h1
  · have : w.heap[0]? = none := Array.getElem?_eq_none (by omega)
    unfold World.cell? at h
    simp only [this] at h
    cases h
theorem Var0.below {w w' : World} (h : Var0 w) (hb : Below w.heap.size w w') : Var0 w' := by
  obtain ⟨m, hm⟩ := h
  exact ⟨m, (hb.cell (p := ⟨0, 0, none⟩) (Var0.lt ⟨m, hm⟩)).trans hm⟩
/-- a slice of texts in a block of its own, from block L on -/
def RdS (L : Nat) (w : World) (u : Value) (l : List (List UInt8)) : Prop :=
  ∃ A c, u = .slice A l.length c ∧ l.length ≤ c ∧ ∀ k x, l[k]? = some x → ∃ g o C, A = some ⟨g, o, none⟩ ∧ L ≤ g ∧ w.heap[g]? = some (.cells C 9 (0, 0)) ∧ C[o + k]? = some (tv x)
theorem RdS.rdt {L : Nat} {w : World} {u : Value} {l : List (List UInt8)} (h : RdS L w u l) : RdT w u l := by
  obtain ⟨A, c, rfl, hc, h⟩ := h
  refine ⟨A, c, rfl, hc, fun k x hk => ?_⟩
  obtain ⟨g, o, C, rfl, _, hg, h1⟩ := h k x hk
  exact ⟨g, o, rfl, (Array.getElem?_eq_some_iff.1 hg).1, by rw [cell_here hg]; exact h1⟩
theorem RdS.keep {L : Nat} {w w' : World} {u : Value} {l : List (List UInt8)} (h : RdS L w u l) (hk : ∀ g C, L ≤ g → w.heap[g]? = some (.cells C 9 (0, 0)) → w'.heap[g]? = w.heap[g]?) : RdS L w' u l := by
  obtain ⟨A, c, rfl, hc, h⟩ := h
  refine ⟨A, c, rfl, hc, fun k x hx => ?_⟩
  obtain ⟨g, o, C, rfl, hL, hg, h1⟩ := h k x hx
  exact ⟨g, o, C, rfl, hL, (hk g C hL hg).trans hg, h1⟩
theorem RdS.more {L L' : Nat} {w : World} {u : Value} {l : List (List UInt8)} (h : RdS L w u l) (hL : L' ≤ L) : RdS L' w u l := by
  obtain ⟨A, c, rfl, hc, h⟩ := h
  refine ⟨A, c, rfl, hc, fun k x hx => ?_⟩
  obtain ⟨g, o, C, rfl, h0, hg, h1⟩ := h k x hx
  exact ⟨g, o, C, rfl, Nat.le_trans hL h0, hg, h1⟩
theorem splitN_any (s : List UInt8) (hs : s.length ≤ 1000000000) (w : World) (hj : Var0 w) :
    Calls Tryd.prog 82 #[.string ⟨s.toArray⟩, .string ⟨#[32]⟩, .int .i64 5] w fun e w' => ∃ (N : Nat) (C : Array Value), e = .returned (.slice (some ⟨w.heap.size, 0, none⟩) (wordsR s).length N) ∧ (wordsR s).length ≤ N ∧ N ≤ 5 ∧ C.size = N ∧ (∀ (k : Nat) x, (wordsR s)[k]? = some x → C[k]? = some (tv x)) ∧ w' = w.alloc (.cells C 9) := by
  obtain ⟨m, hm⟩ := hj
  have h := Tryd.strings_SplitN ⟨s.toArray⟩ ⟨#[32]⟩ 5 m w (by show s.toArray.size < _; simp; omega) hm (by decide) (by decide) (by decide)
  have hsz : (⟨s.toArray⟩ : ByteArray).size = s.length := by show s.toArray.size = _; simp
  rw [hsz] at h
  have he : (Lib.splitB ⟨#[32]⟩ 0 (min 5 (s.length + 1) - 1) ⟨s.toArray⟩).map Value.string = (wordsR s).map tv := splitB_cut s 32 _
  have hl : (Lib.splitB ⟨#[32]⟩ 0 (min 5 (s.length + 1) - 1) ⟨s.toArray⟩).length = (wordsR s).length := by
    have := congrArg List.length he; simpa using this
  have hle : (wordsR s).length ≤ min 5 (s.length + 1) := by
    have := cutK_len 32 (min 5 (s.length + 1) - 1) s
    show (cutK 32 (min 5 (s.length + 1) - 1) s).length ≤ _
    omega
  refine h.mono ?_
  rintro e w' ⟨rfl, rfl⟩
  refine ⟨_, _, by rw [hl], hle, by omega, Lib.cellsOf_size (by rw [hl]; exact hle), fun k x hk => ?_, rfl⟩
  unfold Lib.cellsOf
  rw [he, List.getElem?_toArray, List.getElem?_append_left (by rw [List.length_map]; exact (List.getElem?_eq_some_iff.1 hk).1), List.getElem?_map, hk]
  rfl
set_option maxRecDepth 100000 in
set_option maxHeartbeats 8000000 in
theorem split_any14 (s : List UInt8) (hs : s.length ≤ 1000000000) (w : World) (hj : Var0 w) :
    Calls Tryd.prog 74 #[.string ⟨s.toArray⟩] w fun e w' => ∃ A n c, e = .returned (.agg #[tv (ruleR s).op, .slice A n c]) ∧ RdS w.heap.size w' (.slice A n c) (ruleR s).args ∧ Below w.heap.size w w' := by
  obtain ⟨P, hP⟩ : ∃ P, wordsR s = P := ⟨_, rfl⟩
  have hne : P ≠ [] := by rw [← hP]; exact cutK_ne _ _ _
  have hz : ∀ x ∈ P, x.length ≤ s.length := by rw [← hP]; exact cutK_each _ _ _
  have hop : (ruleR s).op = P.headD [] := by rw [← hP]; rfl
  have har : (ruleR s).args = P.tail := by rw [← hP]; rfl
  obtain ⟨n, hn⟩ : ∃ n, P.length = n := ⟨_, rfl⟩
  have hn1 : 1 ≤ n := by
    cases P with
    | nil => exact absurd rfl hne
    | cons a b => rw [← hn]; simp
  have hsp := fun W (hW : Below w.heap.size w W) => splitN_any s hs W (hj.below hW)
  rw [hP, hn] at hsp
  rw [hop, har]
  obtain ⟨S, hS⟩ : ∃ S : ByteArray, (⟨s.toArray⟩ : ByteArray) = S := ⟨_, rfl⟩
  rw [hS] at hsp ⊢
  have hcl := fun (x : List UInt8) (hx : x ∈ P) W => sclone_any ⟨x.toArray⟩ (by have := hz x hx; show x.toArray.size ≤ _; simp; omega) W
  obtain ⟨W1, hW1⟩ : ∃ W1, W1 = w.alloc (.cells #[.string ⟨#[]⟩, .slice none 0 0] 89) := ⟨_, rfl⟩
  have b1 : Below w.heap.size w W1 := by rw [hW1]; exact (Below.refl _ _).alloc (Nat.le_refl _) _
  have z1 : W1.heap.size = w.heap.size + 1 := by rw [hW1]; simp
  have q1 : W1.heap[w.heap.size]? = some (.cells #[.string ⟨#[]⟩, .slice none 0 0] 89 (0, 0)) := by rw [hW1]; exact heap_alloc_last w _
  have HSP := Lib.hid (hsp W1 b1); have HCL := Lib.hid hcl; have HW1 := Lib.hid hW1; have B1 := Lib.hid b1; have Z1 := Lib.hid z1; have Q1 := Lib.hid q1; have HN := Lib.hid hn; have HNE := Lib.hid hne
  clear hsp hcl hW1 b1 z1 q1 hS hop har hP hz hn hne hj
  go_enter Tryd.func74, Tryd.ntmps74
  go_upto_region 2 with (go_at_call 82; rw [← HW1.out]; (with_reducible refine HSP.out.mono ?_); rintro e1 w1 ⟨N, C, rfl, hnN, hN5, hCs, hC, rfl⟩; dsimp only)
  obtain ⟨R, hR⟩ : ∃ R, W1.heap.size = R := ⟨_, rfl⟩
  have zR : R = w.heap.size + 1 := by rw [← hR]; exact Z1.out
  have q2 : (W1.alloc (.cells C 9)).heap[R]? = some (.cells C 9 (0, 0)) := by rw [← hR]; exact heap_alloc_last _ _
  have b2 : Below R W1 (W1.alloc (.cells C 9)) := by rw [← hR]; exact (Below.refl _ _).alloc (Nat.le_refl _) _
  have Q2 := Lib.hid q2; have B2 := Lib.hid b2; have HC := Lib.hid hC; have HR := Lib.hid hR; have HCS := Lib.hid hCs; have ZR := Lib.hid zR
  clear q2 b2 hC hCs zR
  rw [HR.out]
  clear hR
  go_wp2_with fail
  go_loopw [9] (fun i wr => ∃ k : Nat, k ≤ n ∧ i = .int .i64 k ∧ wr.heap[R]? = some (.cells C 9 (0, 0)) ∧ Below R W1 wr) (fun i _ => n - (intOf i).toNat)
  case atStart => exact ⟨0, Nat.zero_le _, rfl, Q2.out, B2.out⟩
  case round =>
    obtain ⟨k, hkn, rfl, hq, hb⟩ := hrel
    have hRs := (Array.getElem?_eq_some_iff.1 hq).1
    by_cases hlt : k < n
    · have hkl : k < P.length := by rw [HN.out]; exact hlt
      have hck := HC.out k P[k] (List.getElem?_eq_getElem hkl)
      have hcl := HCL.out P[k] (List.getElem_mem hkl) wr
      obtain ⟨X, hX⟩ : ∃ X : ByteArray, (⟨P[k].toArray⟩ : ByteArray) = X := ⟨_, rfl⟩
      unfold tv at hck
      rw [hX] at hck hcl
      have c1 : wr.cell? ⟨R, k, none⟩ = some (.string X) := by rw [cell_here hq]; exact hck
      have hst : ∀ W, Below wr.heap.size wr W → W.cell? ⟨R, k, none⟩ = some (.string X) ∧ W.frozen? ⟨R, k, none⟩ = false ∧ W.heap[R]? = some (.cells C 9 (0, 0)) := fun W hW =>
        ⟨by rw [cell_here (blk_below hq hW)]; exact hck, frozen_here (blk_below hq hW) _, blk_below hq hW⟩
      have hk0 : (0 : Int) ≤ k := by omega
      have hk1 : (k : Int) < n := by omega
      have HCC := Lib.hid hcl; have HB := Lib.hid hb; have HST := Lib.hid hst; have HCK := Lib.hid hck
      clear hcl hX hst hb hck hq
      go_wp2_with (go_at_call 83; (with_reducible refine HCC.out.mono ?_); rintro e1 w1 ⟨rfl, hb1⟩; obtain ⟨d1, d2, d3⟩ := HST.out w1 hb1; have D3 := Lib.hid d3; have HB1 := Lib.hid (HB.out.trans (hb1.mono (Nat.le_of_lt hRs))); clear hb1 d3; dsimp only)
      go_roundw
      case rel =>
        refine ⟨k + 1, by omega, by go_num, ?_, HB1.out.setCell (p := ⟨R, k, none⟩) (Nat.le_refl _) _⟩
        have hs := set_here (o := k) D3.out (.string X)
        have hcc : C.setIfInBounds k (.string X) = C := by
          apply Array.ext
          · simp
          · intro j h1 h2
            rw [Array.getElem_setIfInBounds (by simpa using h2)]
            split
            · rename_i e; subst e
              have := HCK.out
              rw [Array.getElem?_eq_getElem h2] at this
              injection this with this; exact this.symm
            · rfl
        rw [hcc] at hs
        exact hs
      case measure => simp [intOf]; omega
    · obtain rfl : k = n := by omega
      have hp0 : 0 < P.length := by rw [HN.out]; omega
      have hc0 := HC.out 0 P[0] (List.getElem?_eq_getElem hp0)
      have hh : P.headD [] = P[0] := by rw [List.headD_eq_head?_getD, List.head?_eq_getElem?, List.getElem?_eq_getElem hp0]; rfl
      obtain ⟨X, hX⟩ : ∃ X : ByteArray, (⟨P[0].toArray⟩ : ByteArray) = X := ⟨_, rfl⟩
      have htv : tv (P.headD []) = .string X := by rw [hh, ← hX]; rfl
      unfold tv at hc0
      rw [hX] at hc0
      have c1 : wr.cell? ⟨R, 0, none⟩ = some (.string X) := by rw [cell_here hq]; exact hc0
      have q1 : wr.heap[w.heap.size]? = some (.cells #[.string ⟨#[]⟩, .slice none 0 0] 89 (0, 0)) := (hb.block _ (by have := ZR.out; omega)).trans Q1.out
      have e0 : wr.cell? ⟨w.heap.size, 0, none⟩ = some (.string ⟨#[]⟩) := by rw [cell_here q1]; rfl
      have e1 : wr.cell? ⟨w.heap.size, 1, none⟩ = some (.slice none 0 0) := by rw [cell_here q1]; rfl
      have f0 := frozen_here q1 0
      have f1 := frozen_here q1 1
      have hn0 : (0 : Int) < k := by omega
      have hn2 : (1 : Int) ≤ k := by omega
      have htv2 : tv (P.head?.getD []) = .string X := by rw [← htv, List.headD_eq_head?_getD]
      have HTV := Lib.hid htv2; have HQ := Lib.hid hq; have HB := Lib.hid hb; have QQ1 := Lib.hid q1
      clear hq hb hc0 hh hX htv htv2 q1
      go_upto_region 7 with fail
      go_region
      obtain ⟨SA, hSA⟩ : ∃ SA : Option Addr, (if N = 1 then some (⟨R, 0, none⟩ : Addr) else some ⟨R, 1, none⟩) = SA := ⟨_, rfl⟩
      rw [hSA]
      have HSA := Lib.hid hSA
      clear hSA
      go_wp2
      obtain ⟨wf, hwf⟩ : ∃ wf, wf = ((wr.setCell ⟨w.heap.size, 0, none⟩ (.string X)).setCell ⟨w.heap.size, 1, none⟩ (.slice SA (k - 1) (N - 1))).drew := ⟨_, rfl⟩
      rw [← hwf]
      have qf : wf.heap[w.heap.size]? = some (.cells #[.string X, .slice SA (k - 1) (N - 1)] 89 (0, 0)) := by
        rw [hwf]
        have := set_here (o := 1) (set_here (o := 0) QQ1.out (.string X)) (.slice SA (k - 1) (N - 1))
        show ((wr.setCell ⟨w.heap.size, 0, none⟩ (.string X)).setCell ⟨w.heap.size, 1, none⟩ (.slice SA (k - 1) (N - 1))).heap[w.heap.size]? = _
        simpa using this
      have qr : wf.heap[R]? = some (.cells C 9 (0, 0)) := by
        rw [hwf]
        show ((wr.setCell ⟨w.heap.size, 0, none⟩ (.string X)).setCell ⟨w.heap.size, 1, none⟩ (.slice SA (k - 1) (N - 1))).heap[R]? = _
        rw [set_there _ (by have := ZR.out; omega), set_there _ (by have := ZR.out; omega)]
        exact HQ.out
      have hbf : Below w.heap.size w wf := by
        rw [hwf]
        exact (((B1.out.trans (HB.out.mono (by have := ZR.out; omega))).setCell (p := ⟨w.heap.size, 0, none⟩) (Nat.le_refl _) _).setCell (p := ⟨w.heap.size, 1, none⟩) (Nat.le_refl _) _).drew
      have ht : P.tail.length = k - 1 := by rw [List.length_tail, HN.out]
      have hrd : RdS w.heap.size wf (.slice SA (k - 1) (N - 1)) P.tail := by
        refine ⟨SA, N - 1, by rw [ht], by rw [ht]; omega, fun j x hj => ?_⟩
        have hjl := (List.getElem?_eq_some_iff.1 hj).1
        rw [ht] at hjl
        refine ⟨R, 1, C, by rw [← HSA.out, if_neg (by omega)], by have := ZR.out; omega, qr, ?_⟩
        refine HC.out (1 + j) x ?_
        rw [List.getElem?_tail] at hj
        rw [Nat.add_comm]; exact hj
      have x0 : wf.cell? ⟨w.heap.size, 0, none⟩ = some (.string X) := by rw [cell_here qf]; rfl
      have x1 : wf.cell? ⟨w.heap.size, 1, none⟩ = some (.slice SA (k - 1) (N - 1)) := by rw [cell_here qf]; rfl
      have HRD := Lib.hid hrd; have HBF := Lib.hid hbf
      clear hrd hbf qf qr hwf e0 e1 f0 f1 c1
      refine bodyPost_ret (v := .agg #[.string X, .slice SA (k - 1) (N - 1)]) (by simp [results, Tryd.results74, go_sem, x0, x1]) rfl ?_
      exact ⟨SA, k - 1, N - 1, by first | rw [HTV.out] | rw [List.headD_eq_head?_getD, HTV.out], HRD.out, HBF.out⟩
end Go.Proofs.YtiofgepfcacgjaaDoor
namespace Go.Proofs.YtiofgepfcacgjaaDoor
open Go.RowKit Go.Shelf
set_option linter.unusedVariables false
set_option linter.unusedSimpArgs false
attribute [local go_sem] Oper.semAt_some

theorem extP14 (s : List UInt8) (k : Nat) : (⟨s.toArray⟩ : ByteArray).extract 0 k = ⟨(s.take k).toArray⟩ := by
  apply ByteArray.ext
  rw [ByteArray.data_extract]
  simp
theorem extS14 (s : List UInt8) (k : Nat) : (⟨s.toArray⟩ : ByteArray).extract k (⟨s.toArray⟩ : ByteArray).size = ⟨(s.drop k).toArray⟩ := by
  apply ByteArray.ext
  rw [ByteArray.data_extract]
  show Array.extract s.toArray k s.toArray.size = _
  simp
  rw [← List.length_drop, List.take_length]
/-- a part of a text that is not too long -/
abbrev PartR (m : Nat) := { p : List UInt8 // p.length ≤ m }
def valsR {m : Nat} (l : List (PartR m)) : List (List UInt8) := l.map (·.1)
theorem valsR_snoc {m : Nat} (l : List (PartR m)) (p : PartR m) : valsR (l ++ [p]) = valsR l ++ [p.1] := by simp only [valsR, List.map_append, List.map_cons, List.map_nil]
theorem valsR_len {m : Nat} (l : List (PartR m)) : (valsR l).length = l.length := by simp only [valsR, List.length_map]
def cellSize (w : World) (b : Nat) : Nat := match w.cell? ⟨b, 0, none⟩ with
  | some (.string s) => s.size
  | _ => 0
set_option maxRecDepth 100000 in
set_option maxHeartbeats 2000000 in
theorem seq1_in (n : Nat) (hn : 1 ≤ n) (l Bs Bp Bv : Nat) (s : List UInt8) (m : Nat) (hs : s.length ≤ m) (hm : m ≤ 1000000000) (h1 : Bs ≠ Bp) (h2 : Bs ≠ Bv) (J Jx : List (PartR m) → World → Prop)
    (hdJ : ∀ pre A B, J pre A → ButO A.heap.size Bs A B → J pre B)
    (hY : ∀ pre x W, J pre W → pre.length < (splitL 59 s).length → YieldAt Fence.wide (n - 1) Tryd.prog l #[.string ⟨x.1.toArray⟩] W fun e W' =>
      (e = .returned (.bool true) ∧ J (pre ++ [x]) W' ∧ ∀ k, (k = Bs ∨ k = Bp ∨ k = Bv) → W'.heap[k]? = W.heap[k]?) ∨ (e = .returned (.bool false) ∧ Jx (pre ++ [x]) W'))
    (W : World) (c1 : W.heap[Bs]? = some (.cells #[.string ⟨s.toArray⟩] 9 (0, 0))) (c2 : W.heap[Bp]? = some (.cells #[.string ⟨#[59]⟩] 9 (0, 0))) (c3 : W.heap[Bv]? = some (.cells #[.int .i64 0] 3 (0, 0))) (h0 : J [] W) :
    CallsIn Fence.wide n Tryd.prog 91 #[.func (.yield l) #[] #[], .pointer (some ⟨Bp, 0, none⟩), .pointer (some ⟨Bs, 0, none⟩), .pointer (some ⟨Bv, 0, none⟩)] W fun e W' => (∃ v, e = .returned v) ∧
      ((∃ ys, valsR ys = splitL 59 s ∧ J ys W') ∨ (∃ pre, valsR pre <+: splitL 59 s ∧ Jx pre W')) := by
  have hix := fun S W => Tryd.strings_Index_one S 59 W
  have HI := Lib.hid hix; have HDJ := Lib.hid hdJ; have HY := Lib.hid hY
  obtain ⟨SP, hSP⟩ : ∃ z : ByteArray, z = ⟨#[59]⟩ := ⟨_, rfl⟩
  have hps : SP.size = 1 := by rw [hSP]; rfl
  have C1 := Lib.hid c1; have C2 := Lib.hid c2; have C3 := Lib.hid c3
  have p0 : W.cell? ⟨Bp, 0, none⟩ = some (.string ⟨#[59]⟩) := by rw [cell_here c2]; rfl
  clear hix hdJ hY c1 c2 c3 hSP hps
  refine callsIn_of_wp Tryd.func91 rfl trivial ?_ rfl
  simp only [Tryd.ntmps91, List.size_toArray, List.length_cons, List.length_nil, Nat.reduceAdd, Nat.reduceSub, Array.replicate_succ, Array.replicate_zero, List.push_toArray, List.append_toArray, List.nil_append, List.cons_append]
  gi_wp2
  gi_loopw [7] (fun _ wr => ∃ (pre : List (PartR m)) (r : List UInt8), wr.heap[Bs]? = some (.cells #[.string ⟨r.toArray⟩] 9 (0, 0)) ∧ wr.heap[Bp]? = some (.cells #[.string ⟨#[59]⟩] 9 (0, 0)) ∧ wr.heap[Bv]? = some (.cells #[.int .i64 0] 3 (0, 0)) ∧ r.length ≤ m ∧ Hid (splitL 59 s = valsR pre ++ splitL 59 r) ∧ J pre wr) (fun _ wr => cellSize wr Bs)
  case atStart => exact ⟨[], s, C1.out, C2.out, C3.out, hs, Lib.hid rfl, h0⟩
  case round =>
    obtain ⟨pre, r, d1, d2, d3, hr, HP, hJ⟩ := hrel
    obtain ⟨R, hR0⟩ : ∃ R : ByteArray, (⟨r.toArray⟩ : ByteArray) = R := ⟨_, rfl⟩
    have hRs : R.size = r.length := by rw [← hR0]; show r.toArray.size = _; simp
    have hRl : R.data.toList = r := by rw [← hR0]
    have hc := HI.out R wr
    rw [hRl, atL_index] at hc
    rw [hR0] at d1
    have e1 : wr.cell? ⟨Bs, 0, none⟩ = some (.string R) := by rw [cell_here d1]; rfl
    have e2 : wr.cell? ⟨Bp, 0, none⟩ = some (.string ⟨#[59]⟩) := by rw [cell_here d2]; rfl
    have e3 : wr.cell? ⟨Bv, 0, none⟩ = some (.int .i64 0) := by rw [cell_here d3]; rfl
    have D1 := Lib.hid d1; have D2 := Lib.hid d2; have D3 := Lib.hid d3
    clear d1 d2 d3
    by_cases hk : atL 59 r < r.length
    · rw [if_pos hk] at hc
      have hsp := splitL_more hk
      obtain ⟨k, hkk⟩ : ∃ k, atL 59 r = k := ⟨_, rfl⟩
      rw [hkk] at hc hsp hk
      obtain ⟨p, hp⟩ : ∃ p : PartR m, p.1 = r.take k := ⟨⟨r.take k, by rw [List.length_take]; omega⟩, rfl⟩
      obtain ⟨t, ht⟩ : ∃ t, r.drop (k + 1) = t := ⟨_, rfl⟩
      have htl : t.length + 1 ≤ r.length := by rw [← ht, List.length_drop]; omega
      rw [ht, ← hp] at hsp
      have hP2 : splitL 59 s = valsR (pre ++ [p]) ++ splitL 59 t := by rw [HP.out, hsp, valsR_snoc, List.append_assoc]; rfl
      have hroom : pre.length < (splitL 59 s).length := by rw [HP.out, hsp, List.length_append, valsR_len, List.length_cons]; omega
      have x1 : R.extract 0 k = ⟨p.1.toArray⟩ := by rw [← hR0, extP14, hp]
      have x2 : R.extract (k + 1) R.size = ⟨t.toArray⟩ := by rw [← ht, ← hR0, extS14]
      obtain ⟨fn, tmps, assign, body, hy, hRr⟩ := HY.out pre p wr hJ hroom
      obtain ⟨TT, hTT⟩ : ∃ T : ByteArray, (⟨t.toArray⟩ : ByteArray) = T := ⟨_, rfl⟩
      rw [hTT] at x2
      have hb1 : (k : Int) ≤ R.size := by omega
      have hb2 : (k : Int) + 1 ≤ R.size := by omega
      have hb0 : (0 : Int) ≤ k := by omega
      have HP2 := Lib.hid hP2; have HC := Lib.hid hc; have HRS := Lib.hid hRs
      clear hP2 hc hsp hroom hp ht hkk hR0 hRl hRs
      gi_wp2_with (refine ⟨trivial, ?_⟩; gi_at_call 80; refine (callsIn_wide.2 HC.out).mono ?_; rintro e w1 ⟨rfl, rfl⟩)
      refine hRr.mono ?_
      rintro e W3 (⟨rfl, hJ3, hk3⟩ | ⟨rfl, hJx3⟩)
      · have g1 := (hk3 Bs (.inl rfl)).trans D1.out
        have g2 := (hk3 Bp (.inr (.inl rfl))).trans D2.out
        have g3 := (hk3 Bv (.inr (.inr rfl))).trans D3.out
        have q1 : W3.cell? ⟨Bs, 0, none⟩ = some (.string R) := by rw [cell_here g1]; rfl
        have q2 : W3.cell? ⟨Bp, 0, none⟩ = some (.string ⟨#[59]⟩) := by rw [cell_here g2]; rfl
        have q4 := frozen_here g1 0
        have G1 := Lib.hid g1; have G2 := Lib.hid g2; have G3 := Lib.hid g3
        clear g1 g2 g3 hk3
        gi_wp2
        go_roundw
        case rel =>
          have hg : (W3.setCell ⟨Bs, 0, none⟩ (.string TT)).heap[Bs]? = some (.cells #[.string TT] 9 (0, 0)) := by have := set_here (o := 0) G1.out (.string TT); simpa using this
          exact ⟨pre ++ [p], t, by rw [hTT]; exact hg, (set_there _ (Ne.symm h1)).trans G2.out, (set_there _ (Ne.symm h2)).trans G3.out, by omega, HP2, HDJ.out _ _ _ hJ3 ((ButO.refl _ _ _).set (.inr rfl) _)⟩
        case measure =>
          have hg : (W3.setCell ⟨Bs, 0, none⟩ (.string TT)).cell? ⟨Bs, 0, none⟩ = some (.string TT) := by
            rw [cell_here (set_here (o := 0) G1.out (.string TT))]; rfl
          have hts : TT.size = t.length := by rw [← hTT]; show t.toArray.size = _; simp
          have := HRS.out
          unfold cellSize
          rw [hg, e1]
          show TT.size < R.size
          omega
      · gi_wp2
        refine bodyPost_ret (results_none rfl _ _ _) rfl ?_
        exact ⟨⟨_, rfl⟩, .inr ⟨pre ++ [p], ⟨_, HP2.out.symm⟩, hJx3⟩⟩
    · rw [if_neg hk] at hc
      have hsp := splitL_last (Nat.le_of_not_lt hk)
      obtain ⟨p, hp⟩ : ∃ p : PartR m, p.1 = r := ⟨⟨r, hr⟩, rfl⟩
      have hP2 : splitL 59 s = valsR (pre ++ [p]) := by rw [HP.out, hsp, valsR_snoc, hp]
      have hroom : pre.length < (splitL 59 s).length := by rw [HP.out, hsp, List.length_append, valsR_len, List.length_cons]; omega
      obtain ⟨fn, tmps, assign, body, hy, hRr⟩ := HY.out pre p wr hJ hroom
      rw [hp, hR0] at hy
      have HP2 := Lib.hid hP2; have HC := Lib.hid hc
      clear hP2 hc hsp hroom hp hR0 hRl hRs
      gi_wp2_with (refine ⟨trivial, ?_⟩; gi_at_call 80; refine (callsIn_wide.2 HC.out).mono ?_; rintro e w1 ⟨rfl, rfl⟩)
      refine hRr.mono ?_
      rintro e W3 (⟨rfl, hJ3, hk3⟩ | ⟨rfl, hJx3⟩)
      · gi_wp2
        go_end0
        exact ⟨⟨_, rfl⟩, .inl ⟨pre ++ [p], HP2.out.symm, hJ3⟩⟩
      · gi_wp2
        go_end0
        exact ⟨⟨_, rfl⟩, .inr ⟨pre ++ [p], by rw [HP2.out]; exact List.prefix_refl _, hJx3⟩⟩
set_option maxHeartbeats 1000000 in
theorem splitSeq_in (n : Nat) (hn : 1 ≤ n) (s : ByteArray) (w : World) :
    CallsIn Fence.wide n Tryd.prog 73 #[.string s, .string ⟨#[59]⟩] w fun e w' => e = .returned (.func (.func 91) #[] #[.pointer (some ⟨w.heap.size + 1, 0, none⟩), .pointer (some ⟨w.heap.size, 0, none⟩), .pointer (some ⟨w.heap.size + 1 + 1, 0, none⟩)]) ∧
      w' = ((w.alloc (.cells #[.string s] 9)).alloc (.cells #[.string ⟨#[59]⟩] 9)).alloc (.cells #[.int .i64 0] 3) := by
  have h : ∀ (n : Nat) W, CallsIn Fence.wide n Tryd.prog 81 #[.string s, .string ⟨#[59]⟩, .int .i64 0] W fun e w' => e = .returned (.func (.func 91) #[] #[.pointer (some ⟨W.heap.size + 1, 0, none⟩), .pointer (some ⟨W.heap.size, 0, none⟩), .pointer (some ⟨W.heap.size + 1 + 1, 0, none⟩)]) ∧
      w' = ((W.alloc (.cells #[.string s] 9)).alloc (.cells #[.string ⟨#[59]⟩] 9)).alloc (.cells #[.int .i64 0] 3) := fun n W => by
    refine callsIn_of_wp Tryd.func81 rfl trivial ?_ rfl
    simp only [Tryd.ntmps81, List.size_toArray, List.length_cons, List.length_nil, Nat.reduceAdd, Nat.reduceSub, Array.replicate_succ, Array.replicate_zero, List.push_toArray, List.append_toArray, List.nil_append, List.cons_append]
    have hmf : ∀ (fn : Fn) (first cap : Array Value) (w : World), (Instr.makeFunc fn first cap).run Tryd.prog w = .ok (.func fn first cap) w := fun _ _ _ _ => rfl
    gi_wp2
    go_ret
    exact ⟨rfl, rfl⟩
  have H := Lib.hid h
  clear h
  refine callsIn_of_wp Tryd.func73 rfl trivial ?_ rfl
  simp only [Tryd.ntmps73, List.size_toArray, List.length_cons, List.length_nil, Nat.reduceAdd, Nat.reduceSub, Array.replicate_succ, Array.replicate_zero, List.push_toArray, List.append_toArray, List.nil_append, List.cons_append]
  gi_wp2_with (refine ⟨trivial, ?_⟩; gi_at_call 81; refine (H.out _ _).mono ?_; rintro e w1 ⟨rfl, rfl⟩)
  go_ret
  exact ⟨rfl, rfl⟩
/-- what SplitSeq hands back gives all the parts, in order; or those ahead of where a round has said no more -/
theorem seq_stops (n : Nat) (hn : 1 ≤ n) (Bs Bp Bv : Nat) (s : List UInt8) (m : Nat) (hs : s.length ≤ m) (hm : m ≤ 1000000000) (h1 : Bs ≠ Bp) (h2 : Bs ≠ Bv) (w : World)
    (c1 : w.heap[Bs]? = some (.cells #[.string ⟨s.toArray⟩] 9 (0, 0))) (c2 : w.heap[Bp]? = some (.cells #[.string ⟨#[59]⟩] 9 (0, 0))) (c3 : w.heap[Bv]? = some (.cells #[.int .i64 0] 3 (0, 0))) :
    SeqC Fence.wide n Tryd.prog 91 #[.pointer (some ⟨Bp, 0, none⟩), .pointer (some ⟨Bs, 0, none⟩), .pointer (some ⟨Bv, 0, none⟩)] (fun x : PartR m => #[Value.string ⟨x.1.toArray⟩]) Bs (fun k => k = Bs ∨ k = Bp ∨ k = Bv)
      (fun ys => valsR ys = splitL 59 s) (fun pre => valsR pre <+: splitL 59 s) (splitL 59 s).length w := fun l J Jx W hW hJ _ hY h0 =>
  seq1_in n hn l Bs Bp Bv s m hs hm h1 h2 J Jx hJ hY W (blk_below c1 hW) (blk_below c2 hW) (blk_below c3 hW) h0
end Go.Proofs.YtiofgepfcacgjaaDoor
