/- Texts merged by program, in build order: GoodRef, RefGood. -/
import Derived.Test.YtiofgepfcacgjaaDoorG02
import Derived.Test.YtiofgepfcacgjaaDoorG03
import Derived.Test.YtiofgepfcacgjaaDoorG14
import Derived.Test.YtiofgepfcacgjaaDoorG05
import Derived.Test.YtiofgepfcacgjaaDoorG01
import Derived.Deep.Cut
set_option linter.unusedVariables false
set_option linter.unusedSimpArgs false
namespace Go.Proofs.YtiofgepfcacgjaaDoor
open Go.RowKit
set_option linter.unusedVariables false

set_option maxRecDepth 100000 in
theorem refShortL_any (s : List UInt8) (w : World) : Calls Tryd.prog 31 #[.string ⟨s.toArray⟩] w fun e w' => e = .returned (.bool (shortP s)) ∧ w = w' := by
  obtain ⟨R, hR⟩ : ∃ R, shortP s = R := ⟨_, rfl⟩
  rw [hR]
  unfold shortP at hR
  by_cases h : s = []
  · subst h
    have e : R = false := by rw [← hR]; rfl
    subst e
    clear hR
    go_enter Tryd.func31, Tryd.ntmps31
    go_wp2_with fail
    go_ret
    exact ⟨rfl, rfl⟩
  · have hne : s.isEmpty = false := by
      cases s with
      | nil => exact absurd rfl h
      | cons _ _ => rfl
    obtain ⟨n, hn⟩ : ∃ n, s.length = n := ⟨_, rfl⟩
    rw [hn] at hR
    have e : R = decide (n ≤ 256) := by rw [← hR]; simp [h]
    obtain ⟨b, hb⟩ : ∃ b, decide (n ≤ 256) = b := ⟨_, rfl⟩
    have hd : decide ((n : Int) ≤ 256) = b := by rw [← hb]; simp; omega
    rw [hb] at e
    subst e
    obtain ⟨S, hS⟩ : ∃ S : ByteArray, (⟨s.toArray⟩ : ByteArray) = S := ⟨_, rfl⟩
    have hz : S.size = n := by rw [← hS, ← hn]; show s.toArray.size = _; simp
    have hl : S.toList = s := by rw [← hS]; simp
    have hse : S.toList.isEmpty = false := by rw [hl]; exact hne
    have hd2 : decide ((S.size : Int) ≤ 256) = R := by rw [hz]; exact hd
    rw [hS]
    clear hR hn hS hl hz hd hne h
    go_enter Tryd.func31, Tryd.ntmps31
    go_wp2_with fail
    go_ret
    exact ⟨rfl, rfl⟩
theorem refShort_any (S : ByteArray) (w : World) : Calls Tryd.prog 31 #[.string S] w fun e w' => e = .returned (.bool (shortP S.data.toList)) ∧ w = w' := by
  have h := refShortL_any S.data.toList w
  rwa [show (⟨S.data.toList.toArray⟩ : ByteArray) = S by simp] at h
theorem uriE_dec (s : List UInt8) : (uriE s == 0) = decide (uriE s = 0) := by
  by_cases h : uriE s = 0 <;> simp [h]
set_option maxRecDepth 100000 in
theorem refAddress_any (S : ByteArray) (hs : S.size ≤ 200000000000000) (w : World) : Calls Tryd.prog 32 #[.string S] w fun e w' => e = .returned (.bool (addrP S.data.toList)) ∧ Below w.heap.size w w' := by
  have hu := fun W => refUri_any S (by unfold maxLen; omega) W
  unfold uriSays at hu
  obtain ⟨R, hR⟩ : ∃ R, addrP S.data.toList = R := ⟨_, rfl⟩
  rw [hR]
  unfold addrP at hR
  rw [show S.data.toList.length = S.size from rfl] at hR
  obtain ⟨E, hE⟩ : ∃ E, uriE S.data.toList = E := ⟨_, rfl⟩
  obtain ⟨⟨va, vb, vc, vd⟩, hV⟩ : ∃ V, uriV S.data.toList = V := ⟨_, rfl⟩
  rw [hE] at hR hu
  rw [hV] at hu
  unfold uval at hu
  dsimp only at hu
  have HU := Lib.hid hu
  clear hu hV hE
  by_cases h0 : E = 0
  · subst h0
    have hd : decide ((S.size : Int) ≤ 256) = R := by rw [← hR]; simp; omega
    clear hR
    go_enter Tryd.func32, Tryd.ntmps32
    go_wp2_with fail
    refine (HU.out _).mono ?_
    rintro e w1 ⟨rfl, hb1⟩
    have B1 := Lib.hid hb1; clear hb1
    dsimp only
    go_wp2_with fail
    go_ret
    exact ⟨rfl, B1.out.alloc B1.out.size _⟩
  · have hd : (E == 0) = false := by simpa using h0
    have hr : R = false := by rw [← hR]; simp [h0]
    subst hr
    clear hR
    go_enter Tryd.func32, Tryd.ntmps32
    go_wp2_with fail
    refine (HU.out _).mono ?_
    rintro e w1 ⟨rfl, hb1⟩
    have B1 := Lib.hid hb1; clear hb1
    dsimp only
    go_wp2_with fail
    go_ret
    exact ⟨rfl, B1.out.alloc B1.out.size _⟩
end Go.Proofs.YtiofgepfcacgjaaDoor
namespace Go.Proofs.YtiofgepfcacgjaaDoor
open Go.RowKit
set_option linter.unusedVariables false
set_option linter.unusedSimpArgs false

theorem cells4_of {w : World} {b : Nat} {c0 c1 c2 c3 : Value} {t : TypeId} (h : w.heap[b]? = some (.cells #[c0, c1, c2, c3] t)) : w.cell? ⟨b, 0, none⟩ = some c0 ∧ w.cell? ⟨b, 1, none⟩ = some c1 ∧ w.cell? ⟨b, 2, none⟩ = some c2 ∧ w.cell? ⟨b, 3, none⟩ = some c3 := ⟨cell_here h, cell_here h, cell_here h, cell_here h⟩
set_option maxRecDepth 100000 in
set_option maxHeartbeats 8000000 in
theorem refGoodCfg_any (x : CfgP) (A : Option Addr) (n c : Nat) (A' : Option Addr) (n' c' : Nat) (w : World) (h : CfgIs w x A n c A' n' c') (hfit : x.fitS) :
    Calls Tryd.prog 11 #[x.val A n c A' n' c'] w fun e w' => GoodCfg x e ∧ Below w.heap.size w w' := by
  obtain ⟨IS, hIS⟩ : ∃ z : ByteArray, (⟨x.gIssuer.toArray⟩ : ByteArray) = z := ⟨_, rfl⟩
  obtain ⟨KI, hKI⟩ : ∃ z : ByteArray, (⟨x.gKeyID.toArray⟩ : ByteArray) = z := ⟨_, rfl⟩
  obtain ⟨KS, hKS⟩ : ∃ z : ByteArray, (⟨x.gKeySecret.toArray⟩ : ByteArray) = z := ⟨_, rfl⟩
  have hv : x.val A n c A' n' c' = .agg #[.string IS, .string KI, .string KS, .slice A n c, .slice A' n' c'] := by unfold CfgP.val tv; rw [hIS, hKI, hKS]
  rw [hv]
  have dIS : IS.data.toList = x.gIssuer := by rw [← hIS]
  have dKI : KI.data.toList = x.gKeyID := by rw [← hKI]
  have dKS : KS.data.toList = x.gKeySecret := by rw [← hKS]
  have zIS : IS.size = x.gIssuer.length := by rw [← dIS]; rfl
  obtain ⟨hn1, hn2, hc1, hc2⟩ := h
  have hf1 : x.gIssuer.length ≤ 200000000000000 := hfit.1.1
  have hf2 : ∀ k (hk : k < x.gClients.length), (x.gClients[k]).cReds.length ≤ 100 ∧ ∀ s ∈ (x.gClients[k]).cReds, s.length ≤ 200000000000000 := fun k hk => ⟨hfit.2.2.2.2.1 k hk, (hfit.1.2.2.2.2.1 _ (List.getElem_mem hk)).2.2.2⟩
  have hf3 : ∀ k (hk : k < x.gConns.length), (x.gConns[k]).fAuth.length ≤ 200000000000000 ∧ (x.gConns[k]).fRules.length ≤ 5000 := fun k hk => ⟨(hfit.1.2.2.2.2.2.2 _ (List.getElem_mem hk)).2.2.2.1, hfit.2.2.2.2.2 k hk⟩
  clear hfit
  have hu := fun W => refUri_any IS (by unfold maxLen; omega) W
  have hSI := fun W => refShort_any IS W
  have hSK := fun W => refShort_any KI W
  have hSS := fun W => refShort_any KS W
  unfold uriSays at hu
  rw [dIS] at hu hSI
  rw [dKI] at hSK
  rw [dKS] at hSS
  have hln := uri_len x.gIssuer
  obtain ⟨E, hE⟩ : ∃ E, uriE x.gIssuer = E := ⟨_, rfl⟩
  obtain ⟨⟨va, vb, vc, vd⟩, hV⟩ : ∃ V, uriV x.gIssuer = V := ⟨_, rfl⟩
  have hhead : headP x ↔ E = 0 ∧ vc = [] ∧ x.gIssuer = va ++ [58, 47, 47] ++ vb ∧ shortP x.gIssuer = true ∧ shortP x.gKeyID = true ∧ shortP x.gKeySecret = true ∧ n ≤ 8 ∧ n' ≤ 8 := by
    unfold headP; rw [hE, hV, ← hn1, ← hn2]
  rw [hV] at hln hu
  rw [hE] at hu
  unfold uval at hu
  dsimp only at hu hln
  obtain ⟨s1, hs1⟩ : ∃ b, shortP x.gIssuer = b := ⟨_, rfl⟩
  obtain ⟨s2, hs2⟩ : ∃ b, shortP x.gKeyID = b := ⟨_, rfl⟩
  obtain ⟨s3, hs3⟩ : ∃ b, shortP x.gKeySecret = b := ⟨_, rfl⟩
  rw [hs1] at hSI hhead
  rw [hs2] at hSK hhead
  rw [hs3] at hSS hhead
  obtain ⟨SA, hSA⟩ : ∃ B : ByteArray, str va = B := ⟨_, rfl⟩
  obtain ⟨SB, hSB⟩ : ∃ B : ByteArray, str vb = B := ⟨_, rfl⟩
  obtain ⟨SC, hSC⟩ : ∃ B : ByteArray, str vc = B := ⟨_, rfl⟩
  obtain ⟨SD, hSD⟩ : ∃ B : ByteArray, str vd = B := ⟨_, rfl⟩
  rw [hSA, hSB, hSC, hSD] at hu
  obtain ⟨CC, hCC⟩ : ∃ B : ByteArray, SA ++ ByteArray.mk #[58, 47, 47] ++ SB = B := ⟨_, rfl⟩
  have dCC : CC = ⟨(va ++ [58, 47, 47] ++ vb).toArray⟩ := by rw [← hCC, ← hSA, ← hSB]; apply ByteArray.ext; simp [str, ByteArray.data_append]
  have hza : SA.size ≤ 5 := by rw [← hSA, str_size]; omega
  have hzb : SB.size ≤ 4096 := by rw [← hSB, str_size]; omega
  have hzab : (SA ++ ByteArray.mk #[58, 47, 47]).size = SA.size + 3 := ByteArray.size_append
  obtain ⟨gd, hgd⟩ : ∃ g : Prop, GoodC x = g := ⟨_, rfl⟩
  have hno : ¬ headP x → ¬ GoodC x := fun h g => h g.1
  rw [hhead] at hno
  obtain ⟨b, hb⟩ : ∃ b, w.heap.size = b := ⟨_, rfl⟩
  obtain ⟨W0, hW0⟩ : ∃ W, w.alloc (.cells #[.string IS, .string KI, .string KS, .slice A n c, .slice A' n' c'] 27) = W := ⟨_, rfl⟩
  have hb0 : Below w.heap.size w W0 := by rw [← hW0]; exact (Below.refl _ _).alloc (Nat.le_refl _) _
  have k0 : W0.heap[b]? = some (.cells #[.string IS, .string KI, .string KS, .slice A n c, .slice A' n' c'] 27 (0, 0)) := by rw [← hW0, ← hb]; exact heap_alloc_last w _
  have hvc : SC.toList.isEmpty = decide (vc = []) := by rw [← hSC, ByteArray.toList_eq]; cases vc <;> simp [str]
  have hiss : (!IS.toList == CC.toList) = !decide (x.gIssuer = va ++ [58, 47, 47] ++ vb) := str_neq IS CC _ _ hIS.symm dCC
  have HU := Lib.hid hu; have HNO := Lib.hid hno; have HW0 := Lib.hid hW0; have HB := Lib.hid hb; have HB0 := Lib.hid hb0; have K0 := Lib.hid k0; have HRC := Lib.hid hc1; have HRN := Lib.hid hc2; have HN1 := Lib.hid hn1; have HN2 := Lib.hid hn2; have HF2 := Lib.hid hf2; have HF3 := Lib.hid hf3; have HHEAD := Lib.hid hhead; have HCC := Lib.hid hCC
  clear hu hno hW0 hb hb0 k0 hc1 hc2 hn1 hn2 hf1 hf2 hf3 hv hIS hKI hKS dIS dKI dKS hE hV hs1 hs2 hs3 hgd hhead hCC dCC zIS hln hSA hSB hSC hSD
  have HSI := Lib.hid hSI; have HSK := Lib.hid hSK; have HSS := Lib.hid hSS
  clear hSI hSK hSS
  go_enter Tryd.func11, Tryd.ntmps11
  go_upto_region 1 with fail
  rw [HW0.out, HB.out]
  obtain ⟨⟨e0, e1, e2, e3, e4⟩, -⟩ := cellsK5_of K0.out
  go_wp2_with fail
  refine (HU.out _).mono ?_
  rintro e w1 ⟨rfl, hb1⟩
  have hU1 := heap_alloc_last w1 (.cells #[.string SA, .string SB, .string SC, .string SD] 54)
  have k1 : (w1.alloc (.cells #[.string SA, .string SB, .string SC, .string SD] 54)).heap[b]? = some (.cells #[.string IS, .string KI, .string KS, .slice A n c, .slice A' n' c'] 27 (0, 0)) := blk_below K0.out (hb1.alloc hb1.size _)
  have g1 : Below w.heap.size w (w1.alloc (.cells #[.string SA, .string SB, .string SC, .string SD] 54)) := HB0.out.chain (hb1.alloc hb1.size _)
  obtain ⟨u, hu⟩ : ∃ u, w1.heap.size = u := ⟨_, rfl⟩
  obtain ⟨W1, hW1⟩ : ∃ W, w1.alloc (.cells #[.string SA, .string SB, .string SC, .string SD] 54) = W := ⟨_, rfl⟩
  rw [hW1] at hU1 k1 g1
  rw [hu] at hU1
  have HU1 := Lib.hid hu; have HW1 := Lib.hid hW1; have K1 := Lib.hid k1; have G1 := Lib.hid g1
  dsimp only
  clear hb1 hu hW1 k1 g1 e0 e1 e2 e3 e4
  go_upto_region 2 with fail
  rw [HW1.out, HU1.out]
  obtain ⟨⟨e0, e1, e2, e3, e4⟩, -⟩ := cellsK5_of K1.out
  obtain ⟨u0, u1, u2, u3⟩ := cells4_of hU1

  by_cases h0 : E = 0
  rotate_left
  · have NO := Lib.hid (HNO.out (fun q => h0 q.1))
    have t0 : (E != 0) = true := by simpa using h0
    clear h0
    go_wp2_with fail
    go_ret
    exact ⟨goodCfg_no NO.out, G1.out⟩
  have t0 : (E != 0) = false := by simp [h0]
  by_cases h1 : vc = []
  rotate_left
  · have NO := Lib.hid (HNO.out (fun q => h1 q.2.1))
    have t1 : SC.toList.isEmpty = false := by rw [hvc]; simpa using h1
    clear h1 hvc
    go_wp2_with fail
    go_ret
    exact ⟨goodCfg_no NO.out, G1.out⟩
  have t1 : SC.toList.isEmpty = true := by rw [hvc]; simpa using h1
  by_cases h2 : x.gIssuer = va ++ [58, 47, 47] ++ vb
  rotate_left
  · have NO := Lib.hid (HNO.out (fun q => h2 q.2.2.1))
    have t2 : (!IS.toList == CC.toList) = true := by rw [hiss]; simpa using h2
    clear h2 hiss
    have hcc := HCC.out
    go_wp2_with fail
    go_ret
    exact ⟨goodCfg_no NO.out, G1.out⟩
  have t2 : (!IS.toList == CC.toList) = false := by rw [hiss]; simpa using h2
  by_cases h3 : s1 = true
  rotate_left
  · have NO := Lib.hid (HNO.out (fun q => h3 q.2.2.2.1))
    obtain rfl : s1 = false := by cases s1 <;> simp_all
    clear h3
    have hcc := HCC.out
    go_wp2_with fail
    refine (HSI.out _).mono ?_
    rintro e _ ⟨rfl, rfl⟩
    dsimp only
    go_wp2_with fail
    go_ret
    exact ⟨goodCfg_no NO.out, G1.out⟩
  subst h3
  by_cases h4 : s2 = true
  rotate_left
  · have NO := Lib.hid (HNO.out (fun q => h4 q.2.2.2.2.1))
    obtain rfl : s2 = false := by cases s2 <;> simp_all
    clear h4
    have hcc := HCC.out
    go_wp2_with fail
    refine (HSI.out _).mono ?_
    rintro e _ ⟨rfl, rfl⟩
    dsimp only
    go_wp2_with fail
    refine (HSK.out _).mono ?_
    rintro e _ ⟨rfl, rfl⟩
    dsimp only
    go_wp2_with fail
    go_ret
    exact ⟨goodCfg_no NO.out, G1.out⟩
  subst h4
  by_cases h5 : s3 = true
  rotate_left
  · have NO := Lib.hid (HNO.out (fun q => h5 q.2.2.2.2.2.1))
    obtain rfl : s3 = false := by cases s3 <;> simp_all
    clear h5
    have hcc := HCC.out
    go_wp2_with fail
    refine (HSI.out _).mono ?_
    rintro e _ ⟨rfl, rfl⟩
    dsimp only
    go_wp2_with fail
    refine (HSK.out _).mono ?_
    rintro e _ ⟨rfl, rfl⟩
    dsimp only
    go_wp2_with fail
    refine (HSS.out _).mono ?_
    rintro e _ ⟨rfl, rfl⟩
    dsimp only
    go_wp2_with fail
    go_ret
    exact ⟨goodCfg_no NO.out, G1.out⟩
  subst h5
  by_cases h6 : n ≤ 8
  rotate_left
  · have NO := Lib.hid (HNO.out (fun q => h6 q.2.2.2.2.2.2.1))
    have t6 : (8 : Int) < (n : Int) := by omega
    clear h6
    have hcc := HCC.out
    go_wp2_with fail
    refine (HSI.out _).mono ?_
    rintro e _ ⟨rfl, rfl⟩
    dsimp only
    go_wp2_with fail
    refine (HSK.out _).mono ?_
    rintro e _ ⟨rfl, rfl⟩
    dsimp only
    go_wp2_with fail
    refine (HSS.out _).mono ?_
    rintro e _ ⟨rfl, rfl⟩
    dsimp only
    go_wp2_with fail
    go_ret
    exact ⟨goodCfg_no NO.out, G1.out⟩
  have t6 : ¬ (8 : Int) < (n : Int) := by omega
  by_cases h7 : n' ≤ 8
  rotate_left
  · have NO := Lib.hid (HNO.out (fun q => h7 q.2.2.2.2.2.2.2))
    have t7 : (8 : Int) < (n' : Int) := by omega
    clear h7
    have hcc := HCC.out
    go_wp2_with fail
    refine (HSI.out _).mono ?_
    rintro e _ ⟨rfl, rfl⟩
    dsimp only
    go_wp2_with fail
    refine (HSK.out _).mono ?_
    rintro e _ ⟨rfl, rfl⟩
    dsimp only
    go_wp2_with fail
    refine (HSS.out _).mono ?_
    rintro e _ ⟨rfl, rfl⟩
    dsimp only
    go_wp2_with fail
    go_ret
    exact ⟨goodCfg_no NO.out, G1.out⟩
  have t7 : ¬ (8 : Int) < (n' : Int) := by omega
  have HD := Lib.hid (HHEAD.out.2 ⟨h0, h1, h2, rfl, rfl, rfl, h6, h7⟩)
  have hcc := HCC.out
  clear h0 h1 h2 h6 h7 hvc hiss HNO HHEAD
  go_wp2_with fail
  refine (HSI.out _).mono ?_
  rintro e _ ⟨rfl, rfl⟩
  dsimp only
  go_wp2_with fail
  refine (HSK.out _).mono ?_
  rintro e _ ⟨rfl, rfl⟩
  dsimp only
  go_wp2_with fail
  refine (HSS.out _).mono ?_
  rintro e _ ⟨rfl, rfl⟩
  dsimp only
  go_wp2_with fail
  go_loopw [5] (fun i W => ∃ j : Nat, j ≤ n ∧ i = .int .i64 j ∧ Hid (Below W1.heap.size W1 W ∧ upto cliP CliP.cID x.gClients j)) (fun i _ => n - (intOf i).toNat)
  case atStart => exact ⟨0, Nat.zero_le _, rfl, Lib.hid ⟨Below.refl _ _, upto_zero _ _ _⟩⟩
  case round =>
    obtain ⟨j, hj, rfl, hR⟩ := hrel
    obtain ⟨⟨e0, e1, e2, e3, e4⟩, -⟩ := cellsK5_of (blk_below K1.out hR.out.1)
    by_cases hlt : j < n
    · have hjl : j < x.gClients.length := by have := HN1.out; omega
      have hjr : decide ((j : Int) < n) = true := by simp; omega
      obtain ⟨g, o, uu, hAA, hg, c0, c1, c2, ht⟩ := HRC.out.at j hjl
      subst hAA
      have BW := Lib.hid (G1.out.chain hR.out.1)
      have c0 := (BW.out.cell (p := ⟨g, o + j * 3, none⟩) hg).trans c0
      have c1 := (BW.out.cell (p := ⟨g, o + j * 3 + 1, none⟩) hg).trans c1
      have c2 := (BW.out.cell (p := ⟨g, o + j * 3 + 2, none⟩) hg).trans c2
      obtain ⟨r, hr⟩ : ∃ r, x.gClients[j] = r := ⟨_, rfl⟩
      have hfr := HF2.out j hjl
      have hbad : ¬ cliP r → ¬ GoodC x := fun h g => upto_bad hjl (by rw [hr]; exact h) g.2.1
      rw [hr] at c0 c1 ht hfr
      obtain ⟨AR, cr, rfl, hcr, har⟩ := ht
      have ht : RdT w (.slice AR r.cReds.length cr) r.cReds := ⟨AR, cr, rfl, hcr, har⟩
      obtain ⟨nr, hnr⟩ : ∃ z, r.cReds.length = z := ⟨_, rfl⟩
      rw [hnr] at ht c2 hfr
      obtain ⟨ID, hID⟩ : ∃ B : ByteArray, B = ⟨r.cID.toArray⟩ := ⟨_, rfl⟩
      obtain ⟨SEC, hSEC⟩ : ∃ B : ByteArray, B = ⟨r.cSecret.toArray⟩ := ⟨_, rfl⟩
      have hzs : SEC.size = r.cSecret.length := by rw [hSEC]; show r.cSecret.toArray.size = _; simp
      have tID : tv r.cID = .string ID := by rw [hID]; rfl
      have tSE : tv r.cSecret = .string SEC := by rw [hSEC]; rfl
      have hsh := fun W => refShort_any ID W
      rw [show ID.data.toList = r.cID by rw [hID]] at hsh
      rw [tID] at c0
      rw [tSE] at c1
      have hj0 : (0 : Int) ≤ j := by omega
      have hj1 : (j : Int) < n := by omega
      have hcl : cliP r ↔ shortP r.cID = true ∧ SEC.size ≤ 256 ∧ 1 ≤ nr ∧ nr ≤ 64 ∧ ∀ k (hk : k < r.cReds.length), addrP r.cReds[k] = true := by unfold cliP; rw [hzs]; constructor <;> (rintro ⟨a1, a2, a3, a4, a5⟩; exact ⟨a1, a2, by omega, by omega, a5⟩)
      have hJ : j * 3 + 0 = j * 3 := rfl
      obtain ⟨s1, hs1⟩ : ∃ b, shortP r.cID = b := ⟨_, rfl⟩
      rw [hs1] at hsh hcl
      rw [hcl] at hbad
      have HSH := Lib.hid hsh; have HT := Lib.hid ht; have HR := Lib.hid hr; have HFR := Lib.hid hfr; have HNR := Lib.hid hnr; have HCL := Lib.hid hcl; have HBAD := Lib.hid hbad; have HID := Lib.hid hID; have RR := Lib.hid hR.out; have HG := Lib.hid hg
      clear hsh ht hr hfr hnr hcl hbad hID hSEC hzs tID tSE hs1 hcr har hR hJ
      obtain ⟨pb, hpb⟩ : ∃ z, wr.heap.size = z := ⟨_, rfl⟩
      obtain ⟨W2, hW2⟩ : ∃ W, wr.alloc (.cells #[.string ID, .string SEC, .slice AR nr cr] 32) = W := ⟨_, rfl⟩
      have hb2 : Below wr.heap.size wr W2 := by rw [← hW2]; exact (Below.refl _ _).alloc (Nat.le_refl _) _
      have k2 : W2.heap[pb]? = some (.cells #[.string ID, .string SEC, .slice AR nr cr] 32 (0, 0)) := by rw [← hW2, ← hpb]; exact heap_alloc_last wr _
      have k12 := blk_below K1.out (RR.out.1.chain hb2)
      have HPB := Lib.hid hpb; have HW2 := Lib.hid hW2; have B2 := Lib.hid hb2; have K2 := Lib.hid k2; have K12 := Lib.hid k12
      have G2 := Lib.hid (BW.out.chain hb2)
      clear hpb hW2 hb2 k2 k12
      go_upto_region 8 with fail
      rw [HW2.out, HPB.out]
      clear e0 e1 e2 e3 e4 c0 c1 c2
      obtain ⟨⟨e0, e1, e2, e3, e4⟩, -⟩ := cellsK5_of K12.out
      obtain ⟨⟨p0, p1, p2⟩, -⟩ := cellsK3_of K2.out
      by_cases h10 : s1 = true
      rotate_left
      · have NO := Lib.hid (HBAD.out (fun q => h10 q.1))
        obtain rfl : s1 = false := by cases s1 <;> simp_all
        clear h10
        go_wp2_with fail
        refine (HSH.out _).mono ?_
        rintro e _ ⟨rfl, rfl⟩
        dsimp only
        go_wp2_with fail
        go_ret
        exact ⟨goodCfg_no NO.out, G2.out⟩
      subst h10
      by_cases h11 : SEC.size ≤ 256
      rotate_left
      · have NO := Lib.hid (HBAD.out (fun q => h11 q.2.1))
        have t1 : (256 : Int) < (SEC.size : Int) := by omega
        go_wp2_with fail
        refine (HSH.out _).mono ?_
        rintro e _ ⟨rfl, rfl⟩
        dsimp only
        go_wp2_with fail
        go_ret
        exact ⟨goodCfg_no NO.out, G2.out⟩
      have t1 : ¬ (256 : Int) < (SEC.size : Int) := by omega
      by_cases h12 : 1 ≤ nr
      rotate_left
      · have NO := Lib.hid (HBAD.out (fun q => h12 q.2.2.1))
        have t2 : (nr : Int) < 1 := by omega
        go_wp2_with fail
        refine (HSH.out _).mono ?_
        rintro e _ ⟨rfl, rfl⟩
        dsimp only
        go_wp2_with fail
        go_ret
        exact ⟨goodCfg_no NO.out, G2.out⟩
      have t2 : ¬ (nr : Int) < 1 := by omega
      by_cases h13 : nr ≤ 64
      rotate_left
      · have NO := Lib.hid (HBAD.out (fun q => h13 q.2.2.2.1))
        have t3 : (64 : Int) < (nr : Int) := by omega
        go_wp2_with fail
        refine (HSH.out _).mono ?_
        rintro e _ ⟨rfl, rfl⟩
        dsimp only
        go_wp2_with fail
        go_ret
        exact ⟨goodCfg_no NO.out, G2.out⟩
      have t3 : ¬ (64 : Int) < (nr : Int) := by omega
      have HADDR := Lib.hid (fun q => HCL.out.2 ⟨rfl, h11, h12, h13, q⟩)
      go_wp2_with fail
      refine (HSH.out _).mono ?_
      rintro e _ ⟨rfl, rfl⟩
      dsimp only
      go_wp2_with fail
      go_loopw [7] (fun i W => ∃ k : Nat, k ≤ nr ∧ i = .int .i64 k ∧ Hid (Below W2.heap.size W2 W ∧ ∀ q (hq : q < r.cReds.length), q < k → addrP r.cReds[q] = true)) (fun i _ => nr - (intOf i).toNat)
      case atStart => exact ⟨0, Nat.zero_le _, rfl, Lib.hid ⟨Below.refl _ _, fun q hq h => absurd h (Nat.not_lt_zero _)⟩⟩
      case round =>
        obtain ⟨k, hk, rfl, hQ⟩ := hrel
        obtain ⟨⟨p0, p1, p2⟩, -⟩ := cellsK3_of (blk_below K2.out hQ.out.1)
        obtain ⟨⟨e0, e1, e2, e3, e4⟩, -⟩ := cellsK5_of (blk_below K12.out hQ.out.1)
        have G3 := Lib.hid (G2.out.chain hQ.out.1)
        by_cases hkt : k < nr
        · have hkl : k < r.cReds.length := by have := HNR.out; omega
          have hkr : decide ((k : Int) < nr) = true := by simp; omega
          obtain ⟨g4, o4, hA4, hg4, d0⟩ := HT.out.at k hkl
          subst hA4
          have d0 := (G3.out.cell (p := ⟨g4, o4 + k, none⟩) hg4).trans d0
          obtain ⟨R, hRR⟩ : ∃ B : ByteArray, B = ⟨(r.cReds[k]).toArray⟩ := ⟨_, rfl⟩
          have hRd : R.data.toList = r.cReds[k] := by rw [hRR]
          have hRz : R.size ≤ 200000000000000 := by
            show R.data.toList.length ≤ _
            rw [hRd]; exact HFR.out.2 _ (List.getElem_mem hkl)
          rw [show tv r.cReds[k] = .string R by rw [hRR]; rfl] at d0
          have had := fun W => refAddress_any R hRz W
          rw [hRd] at had
          have hk0 : (0 : Int) ≤ k := by omega
          have hk1 : (k : Int) < nr := by omega
          have HAD := Lib.hid had
          clear had hRR hRd hRz
          cases ha : addrP r.cReds[k] with
          | false =>
            have NO := Lib.hid (HBAD.out (fun q => by have := q.2.2.2.2 k hkl; rw [ha] at this; cases this))
            have had := HAD.out
            rw [ha] at had
            have HAD := Lib.hid had
            clear had ha
            go_wp2_with fail
            refine (HAD.out _).mono ?_
            rintro e w5 ⟨rfl, hb5⟩
            have G5 := Lib.hid (G3.out.chain hb5)
            clear hb5
            dsimp only
            go_wp2_with fail
            go_ret
            exact ⟨goodCfg_no NO.out, G5.out⟩
          | true =>
            have had := HAD.out
            rw [ha] at had
            have HAD := Lib.hid had
            have hnx : ∀ q (hq : q < r.cReds.length), q < k + 1 → addrP r.cReds[q] = true := fun q hq h => by
              by_cases e : q = k
              · subst e; exact ha
              · exact hQ.out.2 q hq (by omega)
            have NX := Lib.hid hnx; have B3 := Lib.hid hQ.out.1
            clear had ha hnx hQ
            go_wp2_with fail
            refine (HAD.out _).mono ?_
            rintro e w5 ⟨rfl, hb5⟩
            have B5 := Lib.hid (B3.out.chain hb5)
            clear hb5
            dsimp only
            go_wp2_with fail
            go_roundw
            case rel => exact ⟨k + 1, by omega, by go_num, Lib.hid ⟨B5.out, NX.out⟩⟩
            case measure => simp [intOf]; omega
        · obtain rfl : k = nr := by omega
          have hkr : decide ((k : Int) < k) = false := by simp
          have hgood : cliP r := HADDR.out (fun q hq => hQ.out.2 q hq (by have := HNR.out; omega))
          have HGD := Lib.hid hgood; have B3 := Lib.hid hQ.out.1
          have hB3 := hQ.out.1
          clear hgood hQ
          go_wp2_with fail
          obtain ⟨W4, hW4⟩ : ∃ W, wr = W := ⟨_, rfl⟩
          rw [hW4]
          rw [hW4] at G3 B3
          have K24 := Lib.hid (hW4 ▸ blk_below K2.out hB3 : W4.heap[pb]? = _); have K14 := Lib.hid (hW4 ▸ blk_below K12.out hB3 : W4.heap[b]? = _)
          clear p0 p1 p2 e0 e1 e2 e3 e4 hW4 hB3
          go_loopw [8] (fun i W => ∃ q : Nat, q ≤ j ∧ i = .int .i64 q ∧ Hid (Below W4.heap.size W4 W ∧ ∀ z (hz : z < x.gClients.length), z < q → (x.gClients[z]).cID ≠ r.cID)) (fun i _ => j - (intOf i).toNat)
          case atStart => exact ⟨0, Nat.zero_le _, rfl, Lib.hid ⟨Below.refl _ _, fun z hz h => absurd h (Nat.not_lt_zero _)⟩⟩
          case round =>
            obtain ⟨q, hq, rfl, hz⟩ := hrel
            obtain ⟨⟨p0, p1, p2⟩, -⟩ := cellsK3_of (blk_below K24.out hz.out.1)
            obtain ⟨⟨e0, e1, e2, e3, e4⟩, -⟩ := cellsK5_of (blk_below K14.out hz.out.1)
            have G6 := Lib.hid (G3.out.chain hz.out.1)
            by_cases hqt : q < j
            · have hql : q < x.gClients.length := by omega
              have hqr : decide ((q : Int) < j) = true := by simp; omega
              obtain ⟨g6, o6, u6, hA6, hg6, f0, -, -, -⟩ := HRC.out.at q hql
              obtain ⟨rfl, rfl⟩ : g = g6 ∧ o = o6 := by cases hA6; exact ⟨rfl, rfl⟩
              have f0 := (G6.out.cell (p := ⟨g, o + q * 3, none⟩) hg6).trans f0
              obtain ⟨YD, hYD⟩ : ∃ B : ByteArray, B = ⟨(x.gClients[q]).cID.toArray⟩ := ⟨_, rfl⟩
              rw [show tv (x.gClients[q]).cID = .string YD by rw [hYD]; rfl] at f0
              have hqe : (YD.toList == ID.toList) = decide ((x.gClients[q]).cID = r.cID) := by have := str_neq YD ID _ _ hYD HID.out; simpa using this
              have hq0 : (0 : Int) ≤ q := by omega
              have hq1 : (q : Int) < n := by omega
              by_cases hlike : (x.gClients[q]).cID = r.cID
              · have NO := Lib.hid (show ¬ GoodC x from fun gd => upto_like (key := CliP.cID) hjl hqt (by rw [HR.out]; exact hlike) gd.2.1)
                rw [decide_eq_true hlike] at hqe
                clear hlike hYD hz
                go_upto_region 18 with fail
                go_quiet (fail)
                go_wp2_with fail
                go_ret
                exact ⟨goodCfg_no NO.out, belowDrewN G6.out _⟩
              · rw [decide_eq_false hlike] at hqe
                have hnx : ∀ z (hz : z < x.gClients.length), z < q + 1 → (x.gClients[z]).cID ≠ r.cID := fun z hz' h => by
                  by_cases e : z = q
                  · subst e; exact hlike
                  · exact hz.out.2 z hz' (by omega)
                have NX := Lib.hid hnx
                have B6 := Lib.hid hz.out.1
                clear hlike hYD hz hnx
                go_upto_region 18 with fail
                go_quiet (fail)
                go_wp2_with fail
                go_roundw
                case rel => exact ⟨q + 1, by omega, by go_num, Lib.hid ⟨belowDrewN B6.out _, NX.out⟩⟩
                case measure => simp [intOf]; omega
            · obtain rfl : q = j := by omega
              have hqr : decide ((q : Int) < q) = false := by simp
              have hst : upto cliP CliP.cID x.gClients (q + 1) := upto_step hjl RR.out.2 (by rw [HR.out]; exact HGD.out) (fun z hz' h => by rw [HR.out]; exact hz.out.2 z hz' h)
              have HST := Lib.hid hst
              have B4 := Lib.hid ((RR.out.1.chain (B2.out.chain B3.out)).chain hz.out.1)
              clear hst hz
              go_wp2_with fail
              go_roundw
              case rel => exact ⟨q + 1, by omega, by go_num, Lib.hid ⟨B4.out, HST.out⟩⟩
              case measure => simp [intOf]; omega
    · obtain rfl : j = n := by omega
      have hjr : decide ((j : Int) < j) = false := by simp
      have G2 := Lib.hid (G1.out.chain hR.out.1)
      have HUC := Lib.hid hR.out.2
      have k22 := blk_below K1.out hR.out.1
      have K22 := Lib.hid k22
      have B5' := Lib.hid hR.out.1
      clear hR k22
      go_wp2_with fail
      obtain ⟨W5, hW5⟩ : ∃ W, wr = W := ⟨_, rfl⟩
      rw [hW5]
      rw [hW5] at G2 K22
      clear e0 e1 e2 e3 e4 hW5 B5'
      go_loopw [9] (fun i W => ∃ m : Nat, m ≤ n' ∧ i = .int .i64 m ∧ Hid (Below W5.heap.size W5 W ∧ upto cnP ConnP.fID x.gConns m)) (fun i _ => n' - (intOf i).toNat)
      case atStart => exact ⟨0, Nat.zero_le _, rfl, Lib.hid ⟨Below.refl _ _, upto_zero _ _ _⟩⟩
      case round =>
        obtain ⟨m, hm, rfl, hR⟩ := hrel
        obtain ⟨⟨e0, e1, e2, e3, e4⟩, -⟩ := cellsK5_of (blk_below K22.out hR.out.1)
        by_cases hlt4 : m < n'
        · have hml : m < x.gConns.length := by have := HN2.out; omega
          have hmr : decide ((m : Int) < n') = true := by simp; omega
          obtain ⟨g, o, hAA, hg, c0, c1, c2, c3, c4, c5, c6⟩ := HRN.out.at m hml
          subst hAA
          have BW := Lib.hid (G2.out.chain hR.out.1)
          have c0 := (BW.out.cell (p := ⟨g, o + m * 7, none⟩) hg).trans c0
          have c1 := (BW.out.cell (p := ⟨g, o + m * 7 + 1, none⟩) hg).trans c1
          have c2 := (BW.out.cell (p := ⟨g, o + m * 7 + 2, none⟩) hg).trans c2
          have c3 := (BW.out.cell (p := ⟨g, o + m * 7 + 3, none⟩) hg).trans c3
          have c4 := (BW.out.cell (p := ⟨g, o + m * 7 + 4, none⟩) hg).trans c4
          have c5 := (BW.out.cell (p := ⟨g, o + m * 7 + 5, none⟩) hg).trans c5
          have c6 := (BW.out.cell (p := ⟨g, o + m * 7 + 6, none⟩) hg).trans c6
          obtain ⟨r, hr⟩ : ∃ r, x.gConns[m] = r := ⟨_, rfl⟩
          have hfr := HF3.out m hml
          have hbad : ¬ cnP r → ¬ GoodC x := fun h g => upto_bad hml (by rw [hr]; exact h) g.2.2
          rw [hr] at c0 c1 c2 c3 c4 c5 c6 hfr
          obtain ⟨ID, hID⟩ : ∃ B : ByteArray, B = ⟨r.fID.toArray⟩ := ⟨_, rfl⟩
          obtain ⟨ISS, hISS⟩ : ∃ B : ByteArray, B = ⟨r.fIssuer.toArray⟩ := ⟨_, rfl⟩
          obtain ⟨CLI, hCLI⟩ : ∃ B : ByteArray, B = ⟨r.fClient.toArray⟩ := ⟨_, rfl⟩
          obtain ⟨AUT, hAUT⟩ : ∃ B : ByteArray, B = ⟨r.fAuth.toArray⟩ := ⟨_, rfl⟩
          obtain ⟨SEC, hSEC⟩ : ∃ B : ByteArray, B = ⟨r.fSecret.toArray⟩ := ⟨_, rfl⟩
          obtain ⟨RUL, hRUL⟩ : ∃ B : ByteArray, B = ⟨r.fRules.toArray⟩ := ⟨_, rfl⟩
          have hrul := fun W => refRules_any r.fRules hfr.2 W
          rw [← hRUL] at hrul
          have hzr : RUL.size = r.fRules.length := by rw [hRUL]; show r.fRules.toArray.size = _; simp
          have hza' : AUT.size ≤ 200000000000000 := by rw [hAUT]; show r.fAuth.toArray.size ≤ _; simp; exact hfr.1
          have hsi := fun W => refShort_any ID W
          have hss := fun W => refShort_any ISS W
          have hsc := fun W => refShort_any CLI W
          have hse := fun W => refShort_any SEC W
          have had := fun W => refAddress_any AUT hza' W
          rw [show ID.data.toList = r.fID by rw [hID]] at hsi
          rw [show ISS.data.toList = r.fIssuer by rw [hISS]] at hss
          rw [show CLI.data.toList = r.fClient by rw [hCLI]] at hsc
          rw [show SEC.data.toList = r.fSecret by rw [hSEC]] at hse
          rw [show AUT.data.toList = r.fAuth by rw [hAUT]] at had
          rw [show tv r.fID = .string ID by rw [hID]; rfl] at c0
          rw [show tv r.fIssuer = .string ISS by rw [hISS]; rfl] at c1
          rw [show tv r.fClient = .string CLI by rw [hCLI]; rfl] at c2
          rw [show tv r.fAuth = .string AUT by rw [hAUT]; rfl] at c3
          rw [show tv r.fSecret = .string SEC by rw [hSEC]; rfl] at c4
          rw [show tv r.fRules = .string RUL by rw [hRUL]; rfl] at c6
          have hm0 : (0 : Int) ≤ m := by omega
          have hm1 : (m : Int) < n' := by omega
          have hcl : cnP r ↔ rulesE r.fRules = 0 ∧ RUL.size ≤ 256 ∧ shortP r.fID = true ∧ shortP r.fIssuer = true ∧ shortP r.fClient = true ∧ shortP r.fSecret = true ∧ addrP r.fAuth = true := by unfold cnP; rw [hzr]
          obtain ⟨E, hE⟩ : ∃ E, rulesE r.fRules = E := ⟨_, rfl⟩
          obtain ⟨s1, hs1⟩ : ∃ b, shortP r.fID = b := ⟨_, rfl⟩
          obtain ⟨s2, hs2⟩ : ∃ b, shortP r.fIssuer = b := ⟨_, rfl⟩
          obtain ⟨s3, hs3⟩ : ∃ b, shortP r.fClient = b := ⟨_, rfl⟩
          obtain ⟨s4, hs4⟩ : ∃ b, shortP r.fSecret = b := ⟨_, rfl⟩
          obtain ⟨s5, hs5⟩ : ∃ b, addrP r.fAuth = b := ⟨_, rfl⟩
          obtain ⟨opn, hopn⟩ : ∃ b, r.fOpen = b := ⟨_, rfl⟩
          rw [hE] at hrul
          rw [hs1] at hsi
          rw [hs2] at hss
          rw [hs3] at hsc
          rw [hs4] at hse
          rw [hs5] at had
          rw [hopn] at c5
          rw [hE, hs1, hs2, hs3, hs4, hs5] at hcl
          rw [hcl] at hbad
          have HRU := Lib.hid hrul; have HS1 := Lib.hid hsi; have HS2 := Lib.hid hss; have HS3 := Lib.hid hsc; have HS4 := Lib.hid hse; have HAD := Lib.hid had; have HR := Lib.hid hr; have HCL := Lib.hid hcl; have HBAD := Lib.hid hbad; have HID := Lib.hid hID; have RR := Lib.hid hR.out; have HG := Lib.hid hg
          clear hrul hsi hss hsc hse had hr hcl hbad hID hISS hCLI hAUT hSEC hRUL hzr hza' hE hs1 hs2 hs3 hs4 hs5 hopn hR hfr
          obtain ⟨pb, hpb⟩ : ∃ z, wr.heap.size = z := ⟨_, rfl⟩
          obtain ⟨W2, hW2⟩ : ∃ W, wr.alloc (.cells #[.string ID, .string ISS, .string CLI, .string AUT, .string SEC, .bool opn, .string RUL] 36) = W := ⟨_, rfl⟩
          have hb2 : Below wr.heap.size wr W2 := by rw [← hW2]; exact (Below.refl _ _).alloc (Nat.le_refl _) _
          have k2 : W2.heap[pb]? = some (.cells #[.string ID, .string ISS, .string CLI, .string AUT, .string SEC, .bool opn, .string RUL] 36 (0, 0)) := by rw [← hW2, ← hpb]; exact heap_alloc_last wr _
          have k12 := blk_below K22.out (RR.out.1.chain hb2)
          have HPB := Lib.hid hpb; have HW2 := Lib.hid hW2; have B2 := Lib.hid hb2; have K2 := Lib.hid k2; have K12 := Lib.hid k12
          have G3 := Lib.hid (BW.out.chain hb2)
          clear hpb hW2 hb2 k2 k12
          go_upto_region 24 with fail
          rw [HW2.out, HPB.out]
          clear e0 e1 e2 e3 e4 c0 c1 c2 c3 c4 c5 c6
          obtain ⟨⟨p0, p1, p2, p3, p4, p5, p6⟩, -⟩ := cellsK7_of K2.out
          go_wp2_with fail
          refine (HRU.out _).mono ?_
          rintro e w6 ⟨⟨v6, k6, rfl⟩, hb6⟩
          have K26 := Lib.hid (blk_below K2.out hb6); have K16 := Lib.hid (blk_below K12.out hb6); have G6 := Lib.hid (G3.out.chain hb6); have B6 := Lib.hid hb6
          clear hb6 p0 p1 p2 p3 p4 p5 p6
          dsimp only
          obtain ⟨⟨p0, p1, p2, p3, p4, p5, p6⟩, -⟩ := cellsK7_of K26.out
          by_cases h20 : E = 0
          rotate_left
          · have NO := Lib.hid (HBAD.out (fun q => h20 q.1))
            have t0 : (E != 0) = true := by simpa using h20
            go_wp2_with fail
            go_ret
            exact ⟨goodCfg_no NO.out, G6.out⟩
          have t0 : (E != 0) = false := by simp [h20]
          by_cases h21 : RUL.size ≤ 256
          rotate_left
          · have NO := Lib.hid (HBAD.out (fun q => h21 q.2.1))
            have t1 : (256 : Int) < (RUL.size : Int) := by omega
            go_wp2_with fail
            go_ret
            exact ⟨goodCfg_no NO.out, G6.out⟩
          have t1 : ¬ (256 : Int) < (RUL.size : Int) := by omega
          by_cases h22 : s1 = true
          rotate_left
          · have NO := Lib.hid (HBAD.out (fun q => h22 q.2.2.1))
            obtain rfl : s1 = false := by cases s1 <;> simp_all
            clear h22
            go_wp2_with fail
            refine (HS1.out _).mono ?_
            rintro e _ ⟨rfl, rfl⟩
            dsimp only
            go_wp2_with fail
            go_ret
            exact ⟨goodCfg_no NO.out, G6.out⟩
          subst h22
          by_cases h23 : s2 = true
          rotate_left
          · have NO := Lib.hid (HBAD.out (fun q => h23 q.2.2.2.1))
            obtain rfl : s2 = false := by cases s2 <;> simp_all
            clear h23
            go_wp2_with fail
            refine (HS1.out _).mono ?_
            rintro e _ ⟨rfl, rfl⟩
            dsimp only
            go_wp2_with fail
            refine (HS2.out _).mono ?_
            rintro e _ ⟨rfl, rfl⟩
            dsimp only
            go_wp2_with fail
            go_ret
            exact ⟨goodCfg_no NO.out, G6.out⟩
          subst h23
          by_cases h24 : s3 = true
          rotate_left
          · have NO := Lib.hid (HBAD.out (fun q => h24 q.2.2.2.2.1))
            obtain rfl : s3 = false := by cases s3 <;> simp_all
            clear h24
            go_wp2_with fail
            refine (HS1.out _).mono ?_
            rintro e _ ⟨rfl, rfl⟩
            dsimp only
            go_wp2_with fail
            refine (HS2.out _).mono ?_
            rintro e _ ⟨rfl, rfl⟩
            dsimp only
            go_wp2_with fail
            refine (HS3.out _).mono ?_
            rintro e _ ⟨rfl, rfl⟩
            dsimp only
            go_wp2_with fail
            go_ret
            exact ⟨goodCfg_no NO.out, G6.out⟩
          subst h24
          by_cases h25 : s4 = true
          rotate_left
          · have NO := Lib.hid (HBAD.out (fun q => h25 q.2.2.2.2.2.1))
            obtain rfl : s4 = false := by cases s4 <;> simp_all
            clear h25
            go_wp2_with fail
            refine (HS1.out _).mono ?_
            rintro e _ ⟨rfl, rfl⟩
            dsimp only
            go_wp2_with fail
            refine (HS2.out _).mono ?_
            rintro e _ ⟨rfl, rfl⟩
            dsimp only
            go_wp2_with fail
            refine (HS3.out _).mono ?_
            rintro e _ ⟨rfl, rfl⟩
            dsimp only
            go_wp2_with fail
            refine (HS4.out _).mono ?_
            rintro e _ ⟨rfl, rfl⟩
            dsimp only
            go_wp2_with fail
            go_ret
            exact ⟨goodCfg_no NO.out, G6.out⟩
          subst h25
          by_cases h26 : s5 = true
          rotate_left
          · have NO := Lib.hid (HBAD.out (fun q => h26 q.2.2.2.2.2.2))
            obtain rfl : s5 = false := by cases s5 <;> simp_all
            clear h26
            go_wp2_with fail
            refine (HS1.out _).mono ?_
            rintro e _ ⟨rfl, rfl⟩
            dsimp only
            go_wp2_with fail
            refine (HS2.out _).mono ?_
            rintro e _ ⟨rfl, rfl⟩
            dsimp only
            go_wp2_with fail
            refine (HS3.out _).mono ?_
            rintro e _ ⟨rfl, rfl⟩
            dsimp only
            go_wp2_with fail
            refine (HS4.out _).mono ?_
            rintro e _ ⟨rfl, rfl⟩
            dsimp only
            go_wp2_with fail
            refine (HAD.out _).mono ?_
            rintro e w7 ⟨rfl, hb7⟩
            have G7 := Lib.hid (G6.out.chain hb7)
            clear hb7
            dsimp only
            go_wp2_with fail
            go_ret
            exact ⟨goodCfg_no NO.out, G7.out⟩
          subst h26
          go_wp2_with fail
          refine (HS1.out _).mono ?_
          rintro e _ ⟨rfl, rfl⟩
          dsimp only
          go_wp2_with fail
          refine (HS2.out _).mono ?_
          rintro e _ ⟨rfl, rfl⟩
          dsimp only
          go_wp2_with fail
          refine (HS3.out _).mono ?_
          rintro e _ ⟨rfl, rfl⟩
          dsimp only
          go_wp2_with fail
          refine (HS4.out _).mono ?_
          rintro e _ ⟨rfl, rfl⟩
          dsimp only
          go_wp2_with fail
          refine (HAD.out _).mono ?_
          rintro e w7 ⟨rfl, hb7⟩
          have K27 := Lib.hid (blk_below K26.out hb7); have K17 := Lib.hid (blk_below K16.out hb7); have G7 := Lib.hid (G6.out.chain hb7); have B7 := Lib.hid (B6.out.chain hb7)
          clear hb7 p0 p1 p2 p3 p4 p5 p6
          have HGD := Lib.hid (HCL.out.2 ⟨h20, h21, (by trivial), (by trivial), (by trivial), (by trivial), (by trivial)⟩)
          dsimp only
          go_wp2_with fail
          go_loopw [14] (fun i W => ∃ q : Nat, q ≤ m ∧ i = .int .i64 q ∧ Hid (Below w7.heap.size w7 W ∧ ∀ z (hz : z < x.gConns.length), z < q → (x.gConns[z]).fID ≠ r.fID)) (fun i _ => m - (intOf i).toNat)
          case atStart => exact ⟨0, Nat.zero_le _, rfl, Lib.hid ⟨Below.refl _ _, fun z hz h => absurd h (Nat.not_lt_zero _)⟩⟩
          case round =>
            obtain ⟨q, hq, rfl, hz⟩ := hrel
            obtain ⟨⟨p0, p1, p2, p3, p4, p5, p6⟩, -⟩ := cellsK7_of (blk_below K27.out hz.out.1)
            obtain ⟨⟨e0, e1, e2, e3, e4⟩, -⟩ := cellsK5_of (blk_below K17.out hz.out.1)
            have G8 := Lib.hid (G7.out.chain hz.out.1)
            by_cases hqt : q < m
            · have hql : q < x.gConns.length := by omega
              have hqr : decide ((q : Int) < m) = true := by simp; omega
              obtain ⟨g6, o6, hA6, hg6, f0, -⟩ := HRN.out.at q hql
              obtain ⟨rfl, rfl⟩ : g = g6 ∧ o = o6 := by cases hA6; exact ⟨rfl, rfl⟩
              have f0 := (G8.out.cell (p := ⟨g, o + q * 7, none⟩) hg6).trans f0
              obtain ⟨YD, hYD⟩ : ∃ B : ByteArray, B = ⟨(x.gConns[q]).fID.toArray⟩ := ⟨_, rfl⟩
              rw [show tv (x.gConns[q]).fID = .string YD by rw [hYD]; rfl] at f0
              have hqe : (YD.toList == ID.toList) = decide ((x.gConns[q]).fID = r.fID) := by have := str_neq YD ID _ _ hYD HID.out; simpa using this
              have hq0 : (0 : Int) ≤ q := by omega
              have hq1 : (q : Int) < n' := by omega
              by_cases hlike : (x.gConns[q]).fID = r.fID
              · have NO := Lib.hid (show ¬ GoodC x from fun gd => upto_like (key := ConnP.fID) hml hqt (by rw [HR.out]; exact hlike) gd.2.2)
                rw [decide_eq_true hlike] at hqe
                clear hlike hYD hz
                go_upto_region 30 with fail
                go_quiet (fail)
                go_wp2_with fail
                go_ret
                exact ⟨goodCfg_no NO.out, belowDrewN G8.out _⟩
              · rw [decide_eq_false hlike] at hqe
                have hnx : ∀ z (hz : z < x.gConns.length), z < q + 1 → (x.gConns[z]).fID ≠ r.fID := fun z hz' h => by
                  by_cases e : z = q
                  · subst e; exact hlike
                  · exact hz.out.2 z hz' (by omega)
                have NX := Lib.hid hnx
                have B8 := Lib.hid hz.out.1
                clear hlike hYD hz hnx
                go_upto_region 30 with fail
                go_quiet (fail)
                go_wp2_with fail
                go_roundw
                case rel => exact ⟨q + 1, by omega, by go_num, Lib.hid ⟨belowDrewN B8.out _, NX.out⟩⟩
                case measure => simp [intOf]; omega
            · obtain rfl : q = m := by omega
              have hqr : decide ((q : Int) < q) = false := by simp
              have hst : upto cnP ConnP.fID x.gConns (q + 1) := upto_step hml RR.out.2 (by rw [HR.out]; exact HGD.out) (fun z hz' h => by rw [HR.out]; exact hz.out.2 z hz' h)
              have HST := Lib.hid hst
              have B9 := Lib.hid ((RR.out.1.chain (B2.out.chain B7.out)).chain hz.out.1)
              clear hst hz
              go_wp2_with fail
              go_roundw
              case rel => exact ⟨q + 1, by omega, by go_num, Lib.hid ⟨B9.out, HST.out⟩⟩
              case measure => simp [intOf]; omega
        · obtain rfl : m = n' := by omega
          have hmr : decide ((m : Int) < m) = false := by simp
          have G9 := Lib.hid (G2.out.chain hR.out.1)
          have YES := Lib.hid (show GoodC x from ⟨HD.out, by have h := HUC.out; rw [HN1.out] at h; exact h, by have h := hR.out.2; rw [HN2.out] at h; exact h⟩)
          clear hR
          go_wp2_with fail
          go_ret
          exact ⟨goodCfg_yes YES.out, G9.out⟩
end Go.Proofs.YtiofgepfcacgjaaDoor
