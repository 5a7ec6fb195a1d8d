/- The landed rules: whether it is one. -/
import Derived.Test.YtobicmpgfiddhaaDoorRuleWord
import Derived.Test.YtobicmpgfiddhaaDoorRuleVals
import Derived.Test.YtobicmpgfiddhaaDoorRuleRef
import Derived.Deep.Cut
import Derived.Deep.CutBlock
namespace Go.Proofs.YtobicmpgfiddhaaDoor
open Go.RowKit Go.Shelf
set_option linter.unusedVariables false
set_option linter.unusedSimpArgs false

set_option maxRecDepth 100000 in
set_option maxHeartbeats 4000000 in
theorem isOwn_any (s : List UInt8) (S : ByteArray) (hS : S = ⟨s.toArray⟩) (w : World) : Calls Tryd.prog 33 #[.string S] w fun e w' => e = .returned (.bool (keptR.contains s)) ∧ w' = w := by
  have hl : S.toList = s := by rw [hS, ByteArray.toList_eq]
  obtain ⟨R, hR⟩ : ∃ R, keptR.contains s = R := ⟨_, rfl⟩
  rw [← hl] at hR
  rw [← hl, hR]
  have H := Lib.hid hR
  clear hR hl hS
  go_enter Tryd.func33, Tryd.ntmps33
  go_wp2
  all_goals
    go_ret
    refine ⟨ret_bool ?_, rfl⟩
    rw [← H.out]
    simp_all [keptR]
set_option maxRecDepth 100000 in
theorem noWord_any (s : List UInt8) (hs : s.length ≤ 1000000000000) (S : ByteArray) (hS : S = ⟨s.toArray⟩) (w : World) : Calls Tryd.prog 35 #[.string S] w fun e w' => e = .returned (.bool (!nameR s)) ∧ Below w.heap.size w w' := by
  have h := fun W => isWord_any s hs S hS W
  obtain ⟨R, hR⟩ : ∃ R, nameR s = R := ⟨_, rfl⟩
  rw [hR] at h ⊢
  have H := Lib.hid h
  clear h hR hS
  go_enter Tryd.func35, Tryd.ntmps35
  go_wp2_with (go_at_call 36; (with_reducible refine (H.out _).mono ?_); rintro e1 w1 ⟨rfl, hb1⟩; have HB1 := Lib.hid hb1; clear hb1; dsimp only)
  go_ret
  exact ⟨rfl, HB1.out⟩
set_option maxRecDepth 100000 in
set_option maxHeartbeats 4000000 in
theorem indexFuncS_any (l : List (List UInt8)) (A : Option Addr) (c : Nat) (w : World) (hl : l.length ≤ 1000000) (hs : ∀ x ∈ l, x.length ≤ 1000000000000) (h : RdT w (.slice A l.length c) l) :
    Calls Tryd.prog 54 #[.slice A l.length c, .func (.func 35) #[] #[]] w fun e w' => (∃ i : Int, e = .returned (.int .i64 i) ∧ decide (0 ≤ i) = !l.all nameR) ∧ Below w.heap.size w w' := by
  obtain ⟨n, hn⟩ : ∃ n, l.length = n := ⟨_, rfl⟩
  have hcl := fun (x : List UInt8) (hx : x ∈ l) (W : World) (S : ByteArray) (hS : S = ⟨x.toArray⟩) => noWord_any x (hs x hx) S hS W
  rw [hn] at h ⊢
  have H := Lib.hid h; have HC := Lib.hid hcl; have HN := Lib.hid hn
  clear h hcl
  go_enter Tryd.func54, Tryd.ntmps54
  go_wp2_with fail
  go_loopw [8] (fun i wr => ∃ k : Nat, k ≤ n ∧ i = .int .i64 k ∧ (l.take k).all nameR = true ∧ Below w.heap.size w wr) (fun i _ => n - (intOf i).toNat)
  case atStart => exact ⟨0, Nat.zero_le _, rfl, rfl, Below.refl _ _⟩
  case round =>
    obtain ⟨k, hkn, rfl, hp, hbw⟩ := hrel
    have HP := Lib.hid hp; clear hp
    by_cases hlt : k < n
    · have hkl : k < l.length := by rw [HN.out]; exact hlt
      obtain ⟨g, o, rfl, hg, c1⟩ := (H.out.below hbw).at k hkl
      have hc := HC.out l[k] (List.getElem_mem hkl)
      have hat : (l.take (k + 1)).all nameR = ((l.take k).all nameR && nameR l[k]) := by
        rw [List.take_succ_eq_append_getElem hkl, List.all_append]; simp
      have hno : nameR l[k] = false → l.all nameR = false := fun h => by
        rw [Bool.eq_false_iff]; intro ha
        have := List.all_eq_true.1 ha _ (List.getElem_mem hkl)
        rw [h] at this; cases this
      obtain ⟨S, hS⟩ : ∃ S : ByteArray, S = ⟨l[k].toArray⟩ := ⟨_, rfl⟩
      unfold tv at c1
      rw [← hS] at c1
      have hcc := hc wr S hS
      obtain ⟨Z, hZ⟩ : ∃ z, nameR l[k] = z := ⟨_, rfl⟩
      rw [hZ] at hcc hat hno
      have HCC := Lib.hid hcc; have HAT := Lib.hid hat; have HH := Lib.hid hno; have HBW := Lib.hid hbw
      have hk0 : (0 : Int) ≤ k := by omega
      have hk1 : (k : Int) < n := by omega
      clear hc hat hno hZ hbw hcc hS
      cases Z with
      | false =>
        go_wp2_with (go_at_call 35; (with_reducible refine HCC.out.mono ?_); rintro e1 w1 ⟨rfl, hb1⟩; have HB1 := Lib.hid (HBW.out.chain hb1); clear hb1; dsimp only)
        go_ret
        exact ⟨⟨k, rfl, by rw [HH.out trivial]; simp⟩, HB1.out⟩
      | true =>
        go_wp2_with (go_at_call 35; (with_reducible refine HCC.out.mono ?_); rintro e1 w1 ⟨rfl, hb1⟩; have HB1 := Lib.hid (HBW.out.chain hb1); clear hb1; dsimp only)
        go_roundw
        case rel => exact ⟨k + 1, by omega, by go_num, by rw [HAT.out, HP.out]; rfl, HB1.out⟩
        case measure => simp [intOf]; omega
    · obtain rfl : k = n := by omega
      have hall : l.take k = l := by rw [← HN.out, List.take_length]
      have HA := Lib.hid hall; have HBW := Lib.hid hbw
      clear hall hbw
      go_wp2
      go_ret
      exact ⟨⟨-1, rfl, by rw [← HA.out, HP.out]; rfl⟩, HBW.out⟩
set_option maxRecDepth 100000 in
theorem containsFuncS_any (l : List (List UInt8)) (A : Option Addr) (c : Nat) (w : World) (hl : l.length ≤ 1000000) (hs : ∀ x ∈ l, x.length ≤ 1000000000000) (h : RdT w (.slice A l.length c) l) :
    Calls Tryd.prog 34 #[.slice A l.length c, .func (.func 35) #[] #[]] w fun e w' => e = .returned (.bool (!l.all nameR)) ∧ Below w.heap.size w w' := by
  have h := indexFuncS_any l A c w hl hs h
  obtain ⟨B, hB⟩ : ∃ B, (!l.all nameR) = B := ⟨_, rfl⟩
  rw [hB] at h ⊢
  have H := Lib.hid h
  clear h hB
  go_enter Tryd.func34, Tryd.ntmps34
  go_wp2_with (go_at_call 54; (with_reducible refine H.out.mono ?_); rintro e1 w1 ⟨⟨i, rfl, hi⟩, hb1⟩; have HB1 := Lib.hid hb1; have HI := Lib.hid hi; clear hb1 hi; dsimp only)
  go_ret
  exact ⟨ret_bool HI.out, HB1.out⟩
theorem good_of {o : List UInt8} {l : List (List UInt8)} {m : Nat} {sets : Bool} (hm : argsN o = m) (h0 : m ≠ 0) (hs : sets = !decide (o = opNeed)) : (RU.mk o l).good = (decide (l.length = m) && (!(sets && keptR.contains (l.headD [])) && l.all nameR)) := by
  unfold RU.good
  dsimp only
  rw [hm, decide_eq_true h0, hs]
  by_cases hn : o = opNeed
  · simp [hn]
  · simp [hn]; cases l.all nameR <;> simp
set_option maxRecDepth 100000 in
set_option maxHeartbeats 8000000 in
theorem isRule_any (o : List UInt8) (A : Option Addr) (c : Nat) (l : List (List UInt8)) (hl : l.length ≤ 1000000) (hs : ∀ x ∈ l, x.length ≤ 1000000000000) (w : World) (h : RdT w (.slice A l.length c) l) :
    Calls Tryd.prog 21 #[.agg #[tv o, .slice A l.length c]] w fun e w' => e = .returned (.bool (RU.mk o l).good) ∧ Below w.heap.size w w' := by
  obtain ⟨n, hn⟩ : ∃ n, l.length = n := ⟨_, rfl⟩
  obtain ⟨O, hO⟩ : ∃ O : ByteArray, O = ⟨o.toArray⟩ := ⟨_, rfl⟩
  have hol : O.toList = o := by rw [hO, ByteArray.toList_eq]
  have htv : tv o = .string O := by rw [hO]; rfl
  rw [htv, hn]
  have hcf := fun W (hW : Below w.heap.size w W) => containsFuncS_any l A c W hl hs (h.below hW)
  rw [hn] at hcf
  have hk := fun (x : List UInt8) S hS W => isOwn_any x S hS W
  obtain ⟨G, hG⟩ : ∃ G, (RU.mk o l).good = G := ⟨_, rfl⟩
  have hgo := fun m sets => @good_of o l m sets
  rw [hG] at hgo ⊢
  have hno : argsN o = 0 → G = false := fun h => by rw [← hG]; exact good_no (.inl h)
  rw [← hol] at hgo hno
  obtain ⟨W1, hW1⟩ : ∃ W1, W1 = w.alloc (.cells #[.string O, .slice A n c] 37) := ⟨_, rfl⟩
  have b1 : Below w.heap.size w W1 := by rw [hW1]; exact (Below.refl _ _).alloc (Nat.le_refl _) _
  have q1 : W1.heap[w.heap.size]? = some (.cells #[.string O, .slice A n c] 37 (0, 0)) := by rw [hW1]; exact heap_alloc_last w _
  have HCF := Lib.hid hcf; have HK := Lib.hid hk; have HGO := Lib.hid hgo; have HNO := Lib.hid hno; have HW1 := Lib.hid hW1; have B1 := Lib.hid b1; have H := Lib.hid h; have HN := Lib.hid hn; have Q1 := Lib.hid q1
  clear hcf hk hgo hno hW1 b1 h hn htv hol hO hG
  go_enter Tryd.func21, Tryd.ntmps21
  go_upto_block 0 with fail
  rw [← HW1.out]
  go_cut [3, 4] from 5 (fun s3 s4 wx => ∃ (m : Nat) (sets : Bool), s3 = .int .i64 m ∧ s4 = .bool sets ∧ argsN O.toList = m ∧ m ≠ 0 ∧ sets = (!decide (O.toList = opNeed)) ∧ wx = W1)
  case first =>
    go_wp2
    all_goals first
      | (go_meet
         case rel => first
           | exact ⟨2, true, rfl, rfl, by simp_all [argsN, opSet, opText, opNeed, opJoin, opOnly], by decide, by simp_all [opNeed], rfl⟩
           | exact ⟨3, true, rfl, rfl, by simp_all [argsN, opSet, opText, opNeed, opJoin, opOnly], by decide, by simp_all [opNeed], rfl⟩
           | exact ⟨2, false, rfl, rfl, by simp_all [argsN, opSet, opText, opNeed, opJoin, opOnly], by decide, by simp_all [opNeed], rfl⟩)
      | (obtain rfl := HNO.out (by simp_all [argsN, opSet, opText, opNeed, opJoin, opOnly])
         go_ret
         exact ⟨rfl, B1.out⟩)
  case rest =>
    obtain ⟨m, sets, rfl, rfl, hm, h0, hsets, hwc⟩ := hcut
    subst hwc
    have hG := HGO.out m sets hm h0 hsets
    have q1 := Q1.out
    have e0 : wc.cell? ⟨w.heap.size, 0, none⟩ = some (.string O) := by rw [cell_here q1]; rfl
    have e1 : wc.cell? ⟨w.heap.size, 1, none⟩ = some (.slice A n c) := by rw [cell_here q1]; rfl
    have hcf := HCF.out wc B1.out
    rw [HN.out] at hG
    clear HGO HNO hm hsets q1
    by_cases hnm : n = m
    · subst hnm
      have t1 : ((n : Int) != (n : Int)) = false := by simp
      rw [decide_eq_true rfl, Bool.true_and] at hG
      obtain ⟨AL, hAL⟩ : ∃ z, l.all nameR = z := ⟨_, rfl⟩
      rw [hAL] at hG hcf
      have HCC := Lib.hid hcf
      clear hcf hAL
      cases sets with
      | false =>
        have hGA : G = AL := by rw [hG]; rfl
        subst hGA
        clear hG
        go_wp2_with (go_at_call 34; (with_reducible refine HCC.out.mono ?_); rintro e2 w2 ⟨rfl, hb2⟩; have HB2 := Lib.hid (B1.out.chain hb2); clear hb2; dsimp only)
        go_ret
        exact ⟨ret_bool (by simp), HB2.out⟩
      | true =>
        have hlp : 0 < l.length := by rw [HN.out]; omega
        obtain ⟨g, o', rfl, hg, c0⟩ := (H.out.below B1.out).at 0 hlp
        obtain ⟨S, hS⟩ : ∃ S : ByteArray, S = ⟨l[0].toArray⟩ := ⟨_, rfl⟩
        unfold tv at c0
        rw [← hS, Nat.add_zero] at c0
        have hh : l.headD [] = l[0] := by rw [List.headD_eq_head?_getD, List.head?_eq_getElem?, List.getElem?_eq_getElem hlp]; rfl
        have hko := HK.out l[0] S hS wc
        rw [hh] at hG
        obtain ⟨KO, hKO⟩ : ∃ z, keptR.contains l[0] = z := ⟨_, rfl⟩
        rw [hKO] at hG hko
        have HKK := Lib.hid hko
        have hn0 : (0 : Int) < n := by omega
        clear hko hKO hh hS
        cases KO with
        | true =>
          have hGf : G = false := by rw [hG]; rfl
          subst hGf
          clear hG
          go_wp2_with (go_at_call 33; (with_reducible refine HKK.out.mono ?_); rintro e2 w2 ⟨rfl, rfl⟩; dsimp only)
          go_ret
          exact ⟨rfl, B1.out⟩
        | false =>
          have hGA : G = AL := by rw [hG]; rfl
          subst hGA
          clear hG
          go_wp2_with (first
            | (go_at_call 33; (with_reducible refine HKK.out.mono ?_); rintro e2 w2 ⟨rfl, rfl⟩; dsimp only)
            | (go_at_call 34; (with_reducible refine HCC.out.mono ?_); rintro e3 w3 ⟨rfl, hb2⟩; have HB2 := Lib.hid (B1.out.chain hb2); clear hb2; dsimp only))
          go_ret
          exact ⟨ret_bool (by simp), HB2.out⟩
    · have t1 : ((n : Int) != (m : Int)) = true := by simp; omega
      rw [decide_eq_false hnm, Bool.false_and] at hG
      subst hG
      clear hcf
      go_wp2
      go_ret
      exact ⟨rfl, B1.out⟩
end Go.Proofs.YtobicmpgfiddhaaDoor
