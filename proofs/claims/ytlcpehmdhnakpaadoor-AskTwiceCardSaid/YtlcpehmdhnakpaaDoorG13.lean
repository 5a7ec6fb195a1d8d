/- Texts merged by program, in build order: LawAskT. -/
import Derived.Test.YtlcpehmdhnakpaaDoorG11
import Derived.Test.YtlcpehmdhnakpaaDoorG12
set_option linter.unusedVariables false
set_option linter.unusedSimpArgs false
namespace Go.Proofs.YtlcpehmdhnakpaaDoor
open Go.RowKit
set_option linter.unusedVariables false
set_option linter.unusedSimpArgs false

theorem two_at {w : World} {b : Nat} {v0 v1 : Value} {t : TypeId} {fr : Nat × Nat} (h : w.heap[b]? = some (.cells #[v0, v1] t fr)) : ∀ j u, [v0, v1][j]? = some u → w.cell? ((⟨b, 0, none⟩ : Addr).add j) = some u := by
  intro j u hu
  rw [Addr.add_lit, Nat.zero_add, cell_here h]
  simpa using hu
theorem prs_cells {w : World} {B : Nat} {A : Option Addr} {l : PL} (h : Prs w B A l) (hl : 0 < l.length) : ∃ ad, A = some ad ∧ ∀ j u, (pcells l)[j]? = some u → w.cell? (ad.add j) = some u := by
  obtain ⟨ad, rfl, _⟩ := h 0 hl
  refine ⟨ad, rfl, ?_⟩
  intro j u hj
  have hjl : j < (pcells l).length := (List.getElem?_eq_some_iff.1 hj).1
  rw [pcells_len] at hjl
  rcases (show j = (j / 2) * 2 ∨ j = (j / 2) * 2 + 1 by omega) with e | e
  · have hk : j / 2 < l.length := by omega
    obtain ⟨a, ha, _, h1, _⟩ := h (j / 2) hk
    cases ha
    rw [e] at hj ⊢
    rw [pcells_key l _ hk] at hj
    cases hj; exact h1
  · have hk : j / 2 < l.length := by omega
    obtain ⟨a, ha, _, _, h2⟩ := h (j / 2) hk
    cases ha
    rw [e] at hj ⊢
    rw [pcells_val l _ hk] at hj
    rw [add_next] at h2
    cases hj; exact h2
theorem pcells_allone (l : PL) : ∀ u ∈ pcells l, u.oneCell' = true := by
  induction l with
  | nil => intro u hu; cases hu
  | cons p l ih =>
    intro u hu
    simp only [pcells, List.mem_cons] at hu
    rcases hu with rfl | rfl | hu
    · rfl
    · rfl
    · exact ih u hu
set_option maxRecDepth 100000 in
set_option maxHeartbeats 8000000 in
theorem askTwice_at {w : World} (K : CodeAsk w) (x : CfgP) (A : Option Addr) (n c : Nat) (A' : Option Addr) (n' c' : Nat) (AL : Option Addr) (cl : Nat) (l : PL) (wh : Nat) (h : CfgIs w x A n c A' n' c') (hfit : x.fit) (hl : l.length ≤ 200000000000000) (hlz : ∀ y ∈ l, y.1.length ≤ 200000000000000 ∧ y.2.length ≤ 200000000000000) (hp : Prs w w.heap.size AL l) (hwh : wh ≤ 255) :
    Calls Tryd.prog 6 #[x.val A n c A' n' c', .slice AL l.length cl, .int .u8 (wh : Int)] w fun e w' => e = .returned (.bool true) ∧ Below w.heap.size w w' := by
  obtain ⟨IS, hIS⟩ : ∃ z : ByteArray, (⟨x.gIssuer.toArray⟩ : ByteArray) = z := ⟨_, rfl⟩
  obtain ⟨KI, hKI⟩ : ∃ z : ByteArray, (⟨x.gKeyID.toArray⟩ : ByteArray) = z := ⟨_, rfl⟩
  obtain ⟨KS, hKS⟩ : ∃ z : ByteArray, (⟨x.gKeySecret.toArray⟩ : ByteArray) = z := ⟨_, rfl⟩
  have hv : x.val A n c A' n' c' = .agg #[.string IS, .string KI, .string KS, .slice A n c, .slice A' n' c'] := by unfold CfgP.val tv; rw [hIS, hKI, hKS]
  have hn : n = x.gClients.length := h.1
  have hnl : n ≤ 200000000000000 := by rw [hn]; exact hfit.2.2.2.1
  obtain ⟨b, hb⟩ : ∃ z, w.heap.size = z := ⟨_, rfl⟩
  obtain ⟨X, hX⟩ : ∃ X, w.alloc (.cells #[.string IS, .string KI, .string KS, .slice A n c, .slice A' n' c'] 27) = X := ⟨_, rfl⟩
  have bX : Below w.heap.size w X := by rw [← hX]; exact (Below.refl _ _).alloc (Nat.le_refl _) _
  have x1 : X.heap[b]? = some (.cells #[.string IS, .string KI, .string KS, .slice A n c, .slice A' n' c'] 27 (0, 0)) := by rw [← hX, ← hb]; exact heap_alloc_last w _
  have ha := fun W (hB : Below X.heap.size X W) => answers17_any (K.later (bX.chain hB))
  have hpl := fun W (hB : Below X.heap.size X W) => (hp.below (bX.chain hB)).more (bX.chain hB).size
  obtain ⟨nl, hnl2⟩ : ∃ z, l.length = z := ⟨_, rfl⟩
  have HA := Lib.hid ha; have HXE := Lib.hid hX; have XW := Lib.hid bX; have X1 := Lib.hid x1; have HB := Lib.hid hb; have HPL := Lib.hid hpl; have HNL := Lib.hid hnl2; have HLZ := Lib.hid hlz
  have HCFG := Lib.hid (fun W (hB : Below X.heap.size X W) => h.below (bX.chain hB)); have HFIT := Lib.hid hfit; have KK := Lib.hid K; have HN := Lib.hid hn; have HP0 := Lib.hid hp
  rw [hv, hnl2]
  rw [hnl2] at hl
  have HV := Lib.hid hv
  clear ha x1 bX hX hb hv hIS hKI hKS h hfit K hn hpl hlz hp hnl2
  by_cases hsm : n ≤ 20 ∧ nl ≠ 0 ∧ nl ≤ 30
  rotate_left
  · go_enter Tryd.func6, Tryd.ntmps6
    go_upto_region 1 with fail
    rw [HXE.out, HB.out]
    obtain ⟨⟨e0, e1, e2, e3, e4⟩, -⟩ := cellsK5_of X1.out
    by_cases h1 : n ≤ 20
    · have t1 : ¬ (20 : Int) < (n : Int) := by omega
      by_cases h0 : nl = 0
      · subst h0
        go_wp2_with fail
        refine (HA.out _ (Below.refl _ _)).mono ?_
        rintro e w1 ⟨rfl, hb1⟩
        have Q1 := Lib.hid hb1
        clear hb1
        dsimp only
        go_wp2_with fail
        go_ret
        exact ⟨rfl, XW.out.chain Q1.out⟩
      · have t0 : ((nl : Int) == 0) = false := by simp; omega
        have t2 : (30 : Int) < (nl : Int) := by omega
        go_wp2_with fail
        refine (HA.out _ (Below.refl _ _)).mono ?_
        rintro e w1 ⟨rfl, hb1⟩
        have Q1 := Lib.hid hb1
        clear hb1
        dsimp only
        go_wp2_with fail
        go_ret
        exact ⟨rfl, XW.out.chain Q1.out⟩
    · have t1 : (20 : Int) < (n : Int) := by omega
      go_wp2_with fail
      refine (HA.out _ (Below.refl _ _)).mono ?_
      rintro e w1 ⟨rfl, hb1⟩
      have Q1 := Lib.hid hb1
      clear hb1
      dsimp only
      go_wp2_with fail
      go_ret
      exact ⟨rfl, XW.out.chain Q1.out⟩
  obtain ⟨h1, h0, h2⟩ := hsm
  have t1 : ¬ (20 : Int) < (n : Int) := by omega
  have t0 : ((nl : Int) == 0) = false := by simp; omega
  have t2 : ¬ (30 : Int) < (nl : Int) := by omega
  go_enter Tryd.func6, Tryd.ntmps6
  go_upto_region 1 with fail
  rw [HXE.out, HB.out]
  obtain ⟨⟨e0, e1, e2, e3, e4⟩, -⟩ := cellsK5_of X1.out
  go_wp2_with fail
  clear e0 e1 e2 e3 e4
  go_loopw [7] (fun i W => ∃ j : Nat, j ≤ nl ∧ i = .int .i64 j ∧ Hid (Below X.heap.size X W ∧ ∀ k (hk : k < l.length), k < j → l[k].1.length + l[k].2.length ≤ 300)) (fun i _ => nl - (intOf i).toNat)
  case atStart => exact ⟨0, Nat.zero_le _, rfl, Lib.hid ⟨Below.refl _ _, fun k hk h => absurd h (Nat.not_lt_zero _)⟩⟩
  case round =>
    obtain ⟨j, hj, rfl, HR⟩ := hrel
    by_cases hlt : j < nl
    · have hjl : j < l.length := by have := HNL.out; omega
      have hjr : decide ((j : Int) < nl) = true := by simp; omega
      obtain ⟨a, ha, hab, d0, d1⟩ := HPL.out wr HR.out.1 j hjl
      obtain ⟨K0, hK0⟩ : ∃ z : ByteArray, (⟨l[j].1.toArray⟩ : ByteArray) = z := ⟨_, rfl⟩
      obtain ⟨V0, hV0⟩ : ∃ z : ByteArray, (⟨l[j].2.toArray⟩ : ByteArray) = z := ⟨_, rfl⟩
      have zK : K0.size = l[j].1.length := by rw [← hK0]; show l[j].1.toArray.size = _; simp
      have zV : V0.size = l[j].2.length := by rw [← hV0]; show l[j].2.toArray.size = _; simp
      have hzz := HLZ.out l[j] (List.getElem_mem hjl)
      rw [hK0] at d0
      rw [hV0] at d1
      subst ha
      have hj0 : (0 : Int) ≤ j := by omega
      have hj1 : (j : Int) < nl := by omega
      have hsum : IntKind.i64.wrap ((K0.size : Int) + (V0.size : Int)) = (K0.size : Int) + (V0.size : Int) := wraps_i64 _ (by omega) (by omega)
      have ZK := Lib.hid zK; have ZV := Lib.hid zV
      by_cases hbig : K0.size + V0.size ≤ 300
      · have t3 : ¬ (300 : Int) < (K0.size : Int) + (V0.size : Int) := by omega
        have hnx : ∀ k (hk : k < l.length), k < j + 1 → l[k].1.length + l[k].2.length ≤ 300 := fun k hk h => by
          by_cases e : k = j
          · subst e; have := ZK.out; have := ZV.out; omega
          · exact HR.out.2 k hk (by omega)
        have NX := Lib.hid hnx; have BR := Lib.hid HR.out.1
        clear hnx HR hzz zK zV hK0 hV0
        go_upto_region 6 with fail
        go_quiet (fail)
        go_wp2_with fail
        go_roundw
        case rel => exact ⟨j + 1, by omega, by go_num, Lib.hid ⟨belowDrewN BR.out _, NX.out⟩⟩
        case measure => simp [intOf]; omega
      · have t3 : (300 : Int) < (K0.size : Int) + (V0.size : Int) := by omega
        have BR := Lib.hid HR.out.1
        clear HR hzz zK zV hK0 hV0
        go_upto_region 6 with fail
        go_quiet (fail)
        go_wp2_with fail
        refine (HA.out _ (belowDrewN BR.out _)).mono ?_
        rintro e w1 ⟨rfl, hb1⟩
        have Q1 := Lib.hid ((belowDrewN BR.out _).chain hb1)
        clear hb1
        dsimp only
        go_wp2_with fail
        go_ret
        exact ⟨rfl, XW.out.chain Q1.out⟩
    · obtain rfl : j = nl := by omega
      have hjr : decide ((j : Int) < j) = false := by simp
      have BR := Lib.hid HR.out.1
      have hsml : ∀ y ∈ l, y.1.length + y.2.length ≤ 300 := fun y hy => by
        obtain ⟨k, hk, rfl⟩ := List.mem_iff_getElem.1 hy
        exact HR.out.2 k hk (by have := HNL.out; omega)
      obtain ⟨k, hkj, hkm⟩ : ∃ k : Nat, k < j ∧ Int.tmod (wh : Int) (j : Int) = (k : Int) := ⟨wh % j, Nat.mod_lt _ (by omega), by rw [Int.tmod_eq_emod_of_nonneg (by omega)]; omega⟩
      have hkl : k < l.length := by have := HNL.out; omega
      obtain ⟨L, hL⟩ : ∃ L, l ++ [l[k]] = L := ⟨_, rfl⟩
      have hLl : L.length = j + 1 := by rw [← hL]; simp [HNL.out]
      have hLz : ∀ y ∈ L, y.1.length + y.2.length ≤ 300 := fun y hy => by
        rw [← hL] at hy
        rcases List.mem_append.1 hy with hy | hy
        · exact hsml y hy
        · rw [List.mem_singleton.1 hy]; exact hsml _ (List.getElem_mem hkl)
      have htw : askP x (buildL L) = (noAsk, eReq, false) := ask_twice x L (by rw [← hL]; exact twice_more l k hkl)
      have hbl : (buildL L).length ≤ 1000000 := by
        have h3 := buildL_len L 300 hLz
        have h5 : L.length * (3 * 300 + 2) ≤ 31 * (3 * 300 + 2) := Nat.mul_le_mul_right _ (by omega)
        omega
      obtain ⟨Q, hQ⟩ : ∃ z : ByteArray, (⟨(buildL L).toArray⟩ : ByteArray) = z := ⟨_, rfl⟩
      have hbu : ∀ W v, PRow W wr.heap.size v L → ∃ A2 c2, v = .slice A2 (j + 1) c2 ∧ Calls Tryd.prog 10 #[.slice A2 (j + 1) c2] W fun e w' => e = .returned (.string Q) ∧ Below W.heap.size W w' := fun W v hv => by
        obtain ⟨A2, c2, rfl, hpr⟩ := hv.reads
        have := refBuild_any A2 c2 W.heap.size 300 L (by omega) (by decide) hLz W (Nat.le_refl _) hpr
        rw [hLl, hQ] at this
        exact ⟨A2, c2, by rw [hLl], this⟩
      have hc := fun W (hB : Below wr.heap.size wr W) => KK.out W (XW.out.chain (BR.out.chain hB)) x A n c A' n' c' (buildL L) (HCFG.out W (BR.out.chain hB)) HFIT.out (by have := HN.out; omega) hbl
      rw [htw, HV.out] at hc
      unfold AskSays AskV.val noAsk tv at hc
      dsimp only at hc
      rw [hQ] at hc
      have hc : ∀ W, Below wr.heap.size wr W → Calls Tryd.prog 8 #[.agg #[.string IS, .string KI, .string KS, .slice A n c, .slice A' n' c'], .string Q] W fun e w' => e = .returned (.tuple #[.agg #[.string ⟨#[]⟩, .string ⟨#[]⟩, .string ⟨#[]⟩, .string ⟨#[]⟩, .string ⟨#[]⟩, .string ⟨#[]⟩], .string ⟨#[105, 110, 118, 97, 108, 105, 100, 95, 114, 101, 113, 117, 101, 115, 116]⟩, .bool false]) ∧ Below W.heap.size W w' := hc
      obtain ⟨ad, hAL, hab, d0, d1⟩ := HPL.out wr BR.out k hkl
      obtain ⟨K0, hK0⟩ : ∃ z : ByteArray, (⟨l[k].1.toArray⟩ : ByteArray) = z := ⟨_, rfl⟩
      obtain ⟨V0, hV0⟩ : ∃ z : ByteArray, (⟨l[k].2.toArray⟩ : ByteArray) = z := ⟨_, rfl⟩
      rw [hK0] at d0
      rw [hV0] at d1
      subst hAL
      have hpc : ∀ W, Below wr.heap.size wr W → ∀ i u, (pcells l)[i]? = some u → W.cell? (ad.add i) = some u := fun W hB => by
        obtain ⟨ad2, e, hcs⟩ := prs_cells (HPL.out W (BR.out.chain hB)) (by omega)
        cases e
        exact hcs
      have hpl2 : (pcells l).length = j * 2 := by rw [pcells_len, HNL.out]
      have hpL : pcells l ++ [.string K0, .string V0] = pcells L := by rw [← hL, pcells_snoc, hK0, hV0]
      have hbk : ad.block < wr.heap.size := hab
      have hce : ∀ W, Below wr.heap.size wr W → ((W.cell? ⟨b, 0, none⟩ = some (.string IS) ∧ W.cell? ⟨b, 1, none⟩ = some (.string KI) ∧ W.cell? ⟨b, 2, none⟩ = some (.string KS) ∧ W.cell? ⟨b, 3, none⟩ = some (.slice A n c) ∧ W.cell? ⟨b, 4, none⟩ = some (.slice A' n' c')) ∧ W.cell? (ad.add (k * 2)) = some (.string K0) ∧ W.cell? ⟨(ad.add (k * 2)).block, (ad.add (k * 2)).off + 1, none⟩ = some (.string V0)) := fun W hB => by
        have k2 := blk_below X1.out (BR.out.chain hB)
        exact ⟨⟨cell_here k2, cell_here k2, cell_here k2, cell_here k2, cell_here k2⟩, (hB.cell (p := ad.add (k * 2)) (by rw [add_block]; exact hbk)).trans d0, (hB.cell (p := ⟨(ad.add (k * 2)).block, (ad.add (k * 2)).off + 1, none⟩) (by show (ad.add (k * 2)).block < _; rw [add_block]; exact hbk)).trans d1⟩
      have hk0 : (0 : Int) ≤ k := by omega
      have hk1 : (k : Int) < j := by omega
      have hj0 : ¬ (j : Int) = 0 := by omega
      have hcv : IntKind.i64.wrap (wh : Int) = (wh : Int) := wraps_i64 _ (by omega) (by omega)
      obtain ⟨i0, hi, hz0, hz1, hz2⟩ := info_parts Tryd.infoPair
      have HCB := Lib.hid hce; have HBU := Lib.hid hbu; have HC := Lib.hid hc; have HPC := Lib.hid hpc; have HP2 := Lib.hid hpl2; have HPLL := Lib.hid hpL; have HLL := Lib.hid hLl
      have HII := Lib.hid (And.intro hi (And.intro hz0 (And.intro hz1 hz2)))
      clear hce hbu hc hpc hpl2 hpL hsml hbl hQ hLl hLz htw hK0 hV0 HR hL d0 d1 hab hi hz0 hz1 hz2 hbk
      go_upto_region 8 with fail
      go_cut [8, 9, 10] from 11 (fun s8 s9 s10 wx => ∃ p, s8 = .pointer (some ⟨p, 0, none⟩) ∧ s9 = .string ⟨#[105, 110, 118, 97, 108, 105, 100, 95, 114, 101, 113, 117, 101, 115, 116]⟩ ∧ s10 = .bool false ∧ Hid (GotT wr wx p ⟨#[]⟩ ⟨#[]⟩ ⟨#[]⟩ ⟨#[]⟩ ⟨#[]⟩ ⟨#[]⟩))
      case first =>
        refine wp_region_held_drew (S := (fun W => (W.cell? ⟨b, 0, none⟩ = some (.string IS) ∧ W.cell? ⟨b, 1, none⟩ = some (.string KI) ∧ W.cell? ⟨b, 2, none⟩ = some (.string KS) ∧ W.cell? ⟨b, 3, none⟩ = some (.slice A n c) ∧ W.cell? ⟨b, 4, none⟩ = some (.slice A' n' c')) ∧ W.cell? (ad.add (k * 2)) = some (.string K0) ∧ W.cell? ⟨(ad.add (k * 2)).block, (ad.add (k * 2)).off + 1, none⟩ = some (.string V0))) (by kernel_rfl) (HCB.out _ (Below.refl wr.heap.size wr).drew) (fun hHeld => ?_)
        have hpd := (Below.refl wr.heap.size wr).drew
        obtain ⟨wd, hwd⟩ : ∃ z, wr.drew = z := ⟨_, rfl⟩
        rw [hwd] at hHeld hpd ⊢
        have PD := Lib.hid hpd
        clear hwd hpd
        refine wpAnyH_take (i := 0) (oi := _) (v := ?v91001) (by simp only [List.getElem?_toArray, List.getElem?_cons_succ, List.getElem?_cons_zero]; rfl) (by kernel_rfl) (by kernel_rfl) (by kernel_rfl) (by exact fun _ _ _ h => h) (Or.inl ⟨by rfl, ?hy91001⟩) (by assumption) ?rest91001
        case hy91001 => (intro w hSw; (try dsimp only at hSw); go_simp; try with_reducible rfl)
        try simp only [Act.put, List.setIfInBounds_toArray, List.set_cons_zero, List.set_cons_succ]
        refine wpAnyH_take (i := 2) (oi := _) (v := ?v91002) (by simp only [List.getElem?_toArray, List.getElem?_cons_succ, List.getElem?_cons_zero]; rfl) (by kernel_rfl) (by kernel_rfl) (by kernel_rfl) (by exact fun _ _ _ h => h) (Or.inl ⟨by rfl, ?hy91002⟩) (by assumption) ?rest91002
        case hy91002 => (intro w hSw; (try dsimp only at hSw); go_simp; try with_reducible rfl)
        try simp only [Act.put, List.setIfInBounds_toArray, List.set_cons_zero, List.set_cons_succ]
        refine wpAnyH_take (i := 4) (oi := _) (v := ?v91003) (by simp only [List.getElem?_toArray, List.getElem?_cons_succ, List.getElem?_cons_zero]; rfl) (by kernel_rfl) (by kernel_rfl) (by kernel_rfl) (by exact fun _ _ _ h => h) (Or.inl ⟨by rfl, ?hy91003⟩) (by assumption) ?rest91003
        case hy91003 => (intro w hSw; (try dsimp only at hSw); go_simp; try with_reducible rfl)
        try simp only [Act.put, List.setIfInBounds_toArray, List.set_cons_zero, List.set_cons_succ]
        refine wpAnyH_take (i := 5) (oi := _) (v := ?v91004) (by simp only [List.getElem?_toArray, List.getElem?_cons_succ, List.getElem?_cons_zero]; rfl) (by kernel_rfl) (by kernel_rfl) (by kernel_rfl) (by exact fun _ _ _ h => h) (Or.inl ⟨by rfl, ?hy91004⟩) (by assumption) ?rest91004
        case hy91004 => (intro w hSw; (try dsimp only at hSw); go_simp; try with_reducible rfl)
        try simp only [Act.put, List.setIfInBounds_toArray, List.set_cons_zero, List.set_cons_succ]
        refine wpAnyH_take (i := 6) (oi := _) (v := ?v91005) (by simp only [List.getElem?_toArray, List.getElem?_cons_succ, List.getElem?_cons_zero]; rfl) (by kernel_rfl) (by kernel_rfl) (by kernel_rfl) (by exact fun _ _ _ h => h) (Or.inl ⟨by rfl, ?hy91005⟩) (by assumption) ?rest91005
        case hy91005 => (intro w hSw; (try dsimp only at hSw); go_simp; try with_reducible rfl)
        try simp only [Act.put, List.setIfInBounds_toArray, List.set_cons_zero, List.set_cons_succ]
        refine wpAnyH_take (i := 7) (oi := _) (v := ?v91006) (by simp only [List.getElem?_toArray, List.getElem?_cons_succ, List.getElem?_cons_zero]; rfl) (by kernel_rfl) (by kernel_rfl) (by kernel_rfl) (by exact fun _ _ _ h => h) (Or.inl ⟨by rfl, ?hy91006⟩) (by assumption) ?rest91006
        case hy91006 => (intro w hSw; (try dsimp only at hSw); go_simp; try with_reducible rfl)
        try simp only [Act.put, List.setIfInBounds_toArray, List.set_cons_zero, List.set_cons_succ]
        refine wpAnyH_take (i := 8) (oi := _) (v := ?v91007) (by simp only [List.getElem?_toArray, List.getElem?_cons_succ, List.getElem?_cons_zero]; rfl) (by kernel_rfl) (by kernel_rfl) (by kernel_rfl) (by exact fun _ _ _ h => h) (Or.inl ⟨by rfl, ?hy91007⟩) (by assumption) ?rest91007
        case hy91007 => (intro w hSw; (try dsimp only at hSw); go_simp; try with_reducible rfl)
        try simp only [Act.put, List.setIfInBounds_toArray, List.set_cons_zero, List.set_cons_succ]
        refine wpAnyH_take (i := 9) (oi := _) (v := ?v91008) (by simp only [List.getElem?_toArray, List.getElem?_cons_succ, List.getElem?_cons_zero]; rfl) (by kernel_rfl) (by kernel_rfl) (by kernel_rfl) (by exact fun _ _ _ h => h) (Or.inl ⟨by rfl, ?hy91008⟩) (by assumption) ?rest91008
        case hy91008 => (intro w hSw; (try dsimp only at hSw); go_simp; try with_reducible rfl)
        try simp only [Act.put, List.setIfInBounds_toArray, List.set_cons_zero, List.set_cons_succ]
        refine wpAnyH_take (i := 10) (oi := _) (v := ?v91009) (by simp only [List.getElem?_toArray, List.getElem?_cons_succ, List.getElem?_cons_zero]; rfl) (by kernel_rfl) (by kernel_rfl) (by kernel_rfl) (by exact fun _ _ _ h => h) (Or.inl ⟨by rfl, ?hy91009⟩) (by assumption) ?rest91009
        case hy91009 => (intro w hSw; (try dsimp only at hSw); go_simp; try with_reducible rfl)
        try simp only [Act.put, List.setIfInBounds_toArray, List.set_cons_zero, List.set_cons_succ]
        refine wpAnyH_take (i := 11) (oi := _) (v := ?v91010) (by simp only [List.getElem?_toArray, List.getElem?_cons_succ, List.getElem?_cons_zero]; rfl) (by kernel_rfl) (by kernel_rfl) (by kernel_rfl) (by exact fun _ _ _ h => h) (Or.inl ⟨by rfl, ?hy91010⟩) (by assumption) ?rest91010
        case hy91010 => (intro w hSw; (try dsimp only at hSw); go_simp; try with_reducible rfl)
        try simp only [Act.put, List.setIfInBounds_toArray, List.set_cons_zero, List.set_cons_succ]
        refine wpAnyH_ready (rs := [1, 12, 20]) (by kernel_rfl) (by simp) ?_
        refine AllReadyH.cons (o := _) (by simp only [List.getElem?_toArray, List.getElem?_cons_succ, List.getElem?_cons_zero]; rfl) (fun K hK => ?_) (AllReadyH.cons (o := _) (by simp only [List.getElem?_toArray, List.getElem?_cons_succ, List.getElem?_cons_zero]; rfl) (fun K hK => ?_) (AllReadyH.cons (o := _) (by simp only [List.getElem?_toArray, List.getElem?_cons_succ, List.getElem?_cons_zero]; rfl) (fun K hK => ?_) AllReadyH.nil))
        · go_simp
          obtain ⟨X1, hX1⟩ : ∃ X, wd.alloc (.cells #[] 39) = X := ⟨_, rfl⟩
          have hp1 := (PD.out).alloc (PD.out).size (.cells #[] 39)
          have hq1 := heap_alloc_last wd (.cells #[] 39)
          have hw1 := own_fresh wd wr.heap.size 39 2 PD.out.size
          rw [hX1] at hp1 hq1 hw1 ⊢
          have P1 := Lib.hid hp1
          have O1 := Lib.hid hw1
          clear hX1 hp1 hq1 hw1
          refine hK.out _ _ (HCB.out _ P1.out) (fun hHeld => ?_)
          clear hK K
          try simp only [Act.put, List.setIfInBounds_toArray, List.set_cons_zero, List.set_cons_succ]
          refine wpAnyH_ready (rs := [3, 12, 20]) (by kernel_rfl) (by simp) ?_
          refine AllReadyH.cons (o := _) (by simp only [List.getElem?_toArray, List.getElem?_cons_succ, List.getElem?_cons_zero]; rfl) (fun K hK => ?_) (AllReadyH.cons (o := _) (by simp only [List.getElem?_toArray, List.getElem?_cons_succ, List.getElem?_cons_zero]; rfl) (fun K hK => ?_) (AllReadyH.cons (o := _) (by simp only [List.getElem?_toArray, List.getElem?_cons_succ, List.getElem?_cons_zero]; rfl) (fun K hK => ?_) AllReadyH.nil))
          · refine step_append_opt rfl (.tmp 49) (.tmp 50) 37 rfl wr.heap.size 39 i0 _ 2 32 Tryd.underlying37 HII.out.1 HII.out.2.1 HII.out.2.2.1 HII.out.2.2.2 rfl (by decide) (.slice (some ⟨wd.heap.size, 0, none⟩) 0 0) 0 [] rfl O1.out (some ad) j cl (pcells l) rfl HP2.out (.inr ⟨_, rfl, HPC.out _ P1.out⟩) (pcells_allone l) (by unfold maxLen; omega) (by omega) P1.out.size ?_
            intro v2 X2 hw2 hg2 ht2
            simp only [Nat.zero_add, List.nil_append] at hw2
            obtain ⟨A2w, c2w, rfl⟩ := own_form hw2
            have P2 := Lib.hid ((P1.out).grown hg2 P1.out.size (fun k hk => (O1.out.lt k hk).1))
            have O2 := Lib.hid hw2
            clear hg2 ht2 hw2
            refine hK.out _ _ (HCB.out _ P2.out) (fun hHeld => ?_)
            clear hK K
            try simp only [Act.put, List.setIfInBounds_toArray, List.set_cons_zero, List.set_cons_succ]
            refine wpAnyH_ready (rs := [12, 20]) (by kernel_rfl) (by simp) ?_
            refine AllReadyH.cons (o := _) (by simp only [List.getElem?_toArray, List.getElem?_cons_succ, List.getElem?_cons_zero]; rfl) (fun K hK => ?_) (AllReadyH.cons (o := _) (by simp only [List.getElem?_toArray, List.getElem?_cons_succ, List.getElem?_cons_zero]; rfl) (fun K hK => ?_) AllReadyH.nil)
            · go_simp
              obtain ⟨X3, hX3⟩ : ∃ X, X2.alloc (.cells #[.string K0, .string V0] 39) = X := ⟨_, rfl⟩
              have hp3 := (P2.out).alloc (P2.out).size (.cells #[.string K0, .string V0] 39)
              have hq3 := heap_alloc_last X2 (.cells #[.string K0, .string V0] 39)
              have ho3 := own_below O2.out ((Below.refl X2.heap.size X2).alloc (Nat.le_refl _) (.cells #[.string K0, .string V0] 39))
              rw [hX3] at hp3 hq3 ho3 ⊢
              have P3 := Lib.hid hp3
              have O3 := Lib.hid ho3
              have R3 := Lib.hid hq3
              have NE3 := Lib.hid (show (Value.ownBlock (.slice A2w j c2w)) ≠ some X2.heap.size from fun e => absurd (O2.out.lt _ e).2 (Nat.lt_irrefl _))
              clear hX3 hp3 hq3 ho3
              refine hK.out _ _ (HCB.out _ P3.out) (fun hHeld => ?_)
              clear hK K
              try simp only [Act.put, List.setIfInBounds_toArray, List.set_cons_zero, List.set_cons_succ]
              refine wpAnyH_ready (rs := [13, 20]) (by kernel_rfl) (by simp) ?_
              refine AllReadyH.cons (o := _) (by simp only [List.getElem?_toArray, List.getElem?_cons_succ, List.getElem?_cons_zero]; rfl) (fun K hK => ?_) (AllReadyH.cons (o := _) (by simp only [List.getElem?_toArray, List.getElem?_cons_succ, List.getElem?_cons_zero]; rfl) (fun K hK => ?_) AllReadyH.nil)
              · refine step_append_opt rfl (.tmp 51) (.tmp 60) 37 rfl wr.heap.size 39 i0 _ 2 32 Tryd.underlying37 HII.out.1 HII.out.2.1 HII.out.2.2.1 HII.out.2.2.2 rfl (by decide) (.slice A2w j c2w) j (pcells l) rfl O3.out (some ⟨X2.heap.size, 0, none⟩) 1 1 [.string K0, .string V0] rfl rfl (.inr ⟨_, rfl, two_at R3.out⟩) (by simp [Value.oneCell']) (by unfold maxLen; omega) (by omega) P3.out.size ?_
                intro v4 X4 hw4 hg4 ht4
                rw [HPLL.out] at hw4
                obtain ⟨A4w, c4w, rfl, hbu4⟩ := HBU.out _ _ (PRow.cut hw4 (by rw [HLL.out]) rfl)
                have BU4 := Lib.hid hbu4
                clear hbu4
                have P4 := Lib.hid ((P3.out).grown hg4 P3.out.size (fun k hk => (O3.out.lt k hk).1))
                have O4 := Lib.hid hw4
                clear hg4 ht4 hw4
                refine hK.out _ _ (HCB.out _ P4.out) (fun hHeld => ?_)
                clear hK K
                try simp only [Act.put, List.setIfInBounds_toArray, List.set_cons_zero, List.set_cons_succ]
                refine wpAnyH_ready (rs := [14, 20]) (by kernel_rfl) (by simp) ?_
                refine AllReadyH.cons (o := _) (by simp only [List.getElem?_toArray, List.getElem?_cons_succ, List.getElem?_cons_zero]; rfl) (fun K hK => ?_) (AllReadyH.cons (o := _) (by simp only [List.getElem?_toArray, List.getElem?_cons_succ, List.getElem?_cons_zero]; rfl) (fun K hK => ?_) AllReadyH.nil)
                · go_simp
                  go_at_call 10
                  (with_reducible refine (BU4.out).mono ?_)
                  rintro e5 X5 ⟨rfl, hb5⟩
                  have P5 := Lib.hid ((P4.out).chain hb5)
                  clear hb5
                  dsimp only
                  refine hK.out _ _ (HCB.out _ P5.out) (fun hHeld => ?_)
                  clear hK K
                  try simp only [Act.put, List.setIfInBounds_toArray, List.set_cons_zero, List.set_cons_succ]
                  refine wpAnyH_ready (rs := [15, 20]) (by kernel_rfl) (by simp) ?_
                  refine AllReadyH.cons (o := _) (by simp only [List.getElem?_toArray, List.getElem?_cons_succ, List.getElem?_cons_zero]; rfl) (fun K hK => ?_) (AllReadyH.cons (o := _) (by simp only [List.getElem?_toArray, List.getElem?_cons_succ, List.getElem?_cons_zero]; rfl) (fun K hK => ?_) AllReadyH.nil)
                  · go_simp
                    go_at_call 8
                    (with_reducible refine (HC.out _ P5.out).mono ?_)
                    rintro e6 X6 ⟨rfl, hb6⟩
                    have P6 := Lib.hid ((P5.out).chain hb6)
                    clear hb6
                    dsimp only
                    refine hK.out _ _ (HCB.out _ P6.out) (fun hHeld => ?_)
                    clear hK K
                    try simp only [Act.put, List.setIfInBounds_toArray, List.set_cons_zero, List.set_cons_succ]
                    refine wpAnyH_take (i := 16) (oi := _) (v := ?v91017) (by simp only [List.getElem?_toArray, List.getElem?_cons_succ, List.getElem?_cons_zero]; rfl) (by kernel_rfl) (by kernel_rfl) (by kernel_rfl) (by exact fun _ _ _ h => h) (Or.inl ⟨by rfl, ?hy91017⟩) (by assumption) ?rest91017
                    case hy91017 => (intro w hSw; (try dsimp only at hSw); go_simp; try with_reducible rfl)
                    try simp only [Act.put, List.setIfInBounds_toArray, List.set_cons_zero, List.set_cons_succ]
                    refine wpAnyH_take (i := 17) (oi := _) (v := ?v91018) (by simp only [List.getElem?_toArray, List.getElem?_cons_succ, List.getElem?_cons_zero]; rfl) (by kernel_rfl) (by kernel_rfl) (by kernel_rfl) (by exact fun _ _ _ h => h) (Or.inl ⟨by rfl, ?hy91018⟩) (by assumption) ?rest91018
                    case hy91018 => (intro w hSw; (try dsimp only at hSw); go_simp; try with_reducible rfl)
                    try simp only [Act.put, List.setIfInBounds_toArray, List.set_cons_zero, List.set_cons_succ]
                    refine wpAnyH_take (i := 18) (oi := _) (v := ?v91019) (by simp only [List.getElem?_toArray, List.getElem?_cons_succ, List.getElem?_cons_zero]; rfl) (by kernel_rfl) (by kernel_rfl) (by kernel_rfl) (by exact fun _ _ _ h => h) (Or.inl ⟨by rfl, ?hy91019⟩) (by assumption) ?rest91019
                    case hy91019 => (intro w hSw; (try dsimp only at hSw); go_simp; try with_reducible rfl)
                    try simp only [Act.put, List.setIfInBounds_toArray, List.set_cons_zero, List.set_cons_succ]
                    refine wpAnyH_take (i := 19) (oi := _) (v := ?v91020) (by simp only [List.getElem?_toArray, List.getElem?_cons_succ, List.getElem?_cons_zero]; rfl) (by kernel_rfl) (by kernel_rfl) (by kernel_rfl) (by exact fun _ _ _ h => h) (Or.inl ⟨by rfl, ?hy91020⟩) (by assumption) ?rest91020
                    case hy91020 => (intro w hSw; (try dsimp only at hSw); go_simp; try with_reducible rfl)
                    try simp only [Act.put, List.setIfInBounds_toArray, List.set_cons_zero, List.set_cons_succ]
                    refine wpAnyH_ready (rs := [20]) (by kernel_rfl) (by simp) ?_
                    refine AllReadyH.cons (o := _) (by simp only [List.getElem?_toArray, List.getElem?_cons_succ, List.getElem?_cons_zero]; rfl) (fun K hK => ?_) AllReadyH.nil
                    go_simp
                    obtain ⟨X7, hX7⟩ : ∃ X, X6.alloc (.cells #[.string ⟨#[]⟩, .string ⟨#[]⟩, .string ⟨#[]⟩, .string ⟨#[]⟩, .string ⟨#[]⟩, .string ⟨#[]⟩] 30) = X := ⟨_, rfl⟩
                    have hp7 := (P6.out).alloc (P6.out).size (.cells #[.string ⟨#[]⟩, .string ⟨#[]⟩, .string ⟨#[]⟩, .string ⟨#[]⟩, .string ⟨#[]⟩, .string ⟨#[]⟩] 30)
                    have hq7 := heap_alloc_last X6 (.cells #[.string ⟨#[]⟩, .string ⟨#[]⟩, .string ⟨#[]⟩, .string ⟨#[]⟩, .string ⟨#[]⟩, .string ⟨#[]⟩] 30)
                    rw [hX7] at hp7 hq7 ⊢
                    have P7 := Lib.hid hp7
                    have A7 := Lib.hid hq7
                    have LX := Lib.hid (P6.out).size
                    clear hX7 hp7 hq7
                    obtain ⟨⟨r0, r1, r2, r3, r4, r5⟩, f0, f1, f2, f3, f4, f5⟩ := cellsK6_of A7.out
                    refine hK.out _ _ (HCB.out _ P7.out) (fun hHeld => ?_)
                    clear hK K
                    try simp only [Act.put, List.setIfInBounds_toArray, List.set_cons_zero, List.set_cons_succ]
                    refine wpAnyH_ready (rs := [21]) (by kernel_rfl) (by simp) ?_
                    refine AllReadyH.cons (o := _) (by simp only [List.getElem?_toArray, List.getElem?_cons_succ, List.getElem?_cons_zero]; rfl) (fun K hK => ?_) AllReadyH.nil
                    go_simp
                    refine hK.out _ _ (HCB.out _ (setK6_below P7.out LX.out _ _ _ _ _ _)) (fun hHeld => ?_)
                    clear hK K
                    try simp only [Act.put, List.setIfInBounds_toArray, List.set_cons_zero, List.set_cons_succ]
                    refine wpAnyH_take (i := 22) (oi := _) (v := ?v91023) (by simp only [List.getElem?_toArray, List.getElem?_cons_succ, List.getElem?_cons_zero]; rfl) (by kernel_rfl) (by kernel_rfl) (by kernel_rfl) (by exact fun _ _ _ h => h) (Or.inl ⟨by rfl, ?hy91023⟩) (by assumption) ?rest91023
                    case hy91023 => (intro w hSw; (try dsimp only at hSw); go_simp; try with_reducible rfl)
                    try simp only [Act.put, List.setIfInBounds_toArray, List.set_cons_zero, List.set_cons_succ]
                    refine wpAnyH_take (i := 23) (oi := _) (v := ?v91024) (by simp only [List.getElem?_toArray, List.getElem?_cons_succ, List.getElem?_cons_zero]; rfl) (by kernel_rfl) (by kernel_rfl) (by kernel_rfl) (by exact fun _ _ _ h => h) (Or.inl ⟨by rfl, ?hy91024⟩) (by assumption) ?rest91024
                    case hy91024 => (intro w hSw; (try dsimp only at hSw); go_simp; try with_reducible rfl)
                    try simp only [Act.put, List.setIfInBounds_toArray, List.set_cons_zero, List.set_cons_succ]
                    refine wpAnyH_done (by kernel_rfl) ?_ _
                    go_wp2
                    go_meet
                    case rel => exact ⟨_, rfl, rfl, rfl, Lib.hid (gotT_at P7.out LX.out A7.out)⟩
                  · go_simp
                    obtain ⟨X9, hX9⟩ : ∃ X, X5.alloc (.cells #[.string ⟨#[]⟩, .string ⟨#[]⟩, .string ⟨#[]⟩, .string ⟨#[]⟩, .string ⟨#[]⟩, .string ⟨#[]⟩] 30) = X := ⟨_, rfl⟩
                    have hp9 := (P5.out).alloc (P5.out).size (.cells #[.string ⟨#[]⟩, .string ⟨#[]⟩, .string ⟨#[]⟩, .string ⟨#[]⟩, .string ⟨#[]⟩, .string ⟨#[]⟩] 30)
                    have hq9 := heap_alloc_last X5 (.cells #[.string ⟨#[]⟩, .string ⟨#[]⟩, .string ⟨#[]⟩, .string ⟨#[]⟩, .string ⟨#[]⟩, .string ⟨#[]⟩] 30)
                    rw [hX9] at hp9 hq9 ⊢
                    have P9 := Lib.hid hp9
                    have A9 := Lib.hid hq9
                    have LX := Lib.hid (P5.out).size
                    clear hX9 hp9 hq9
                    refine hK.out _ _ (HCB.out _ P9.out) (fun hHeld => ?_)
                    clear hK K
                    try simp only [Act.put, List.setIfInBounds_toArray, List.set_cons_zero, List.set_cons_succ]
                    refine wpAnyH_ready (rs := [15]) (by kernel_rfl) (by simp) ?_
                    refine AllReadyH.cons (o := _) (by simp only [List.getElem?_toArray, List.getElem?_cons_succ, List.getElem?_cons_zero]; rfl) (fun K hK => ?_) AllReadyH.nil
                    go_simp
                    go_at_call 8
                    (with_reducible refine (HC.out _ P9.out).mono ?_)
                    rintro e10 X10 ⟨rfl, hb10⟩
                    have P10 := Lib.hid ((P9.out).chain hb10)
                    have A10 := Lib.hid (blk_below A9.out hb10)
                    clear hb10
                    dsimp only
                    obtain ⟨⟨r0, r1, r2, r3, r4, r5⟩, f0, f1, f2, f3, f4, f5⟩ := cellsK6_of A10.out
                    refine hK.out _ _ (HCB.out _ P10.out) (fun hHeld => ?_)
                    clear hK K
                    try simp only [Act.put, List.setIfInBounds_toArray, List.set_cons_zero, List.set_cons_succ]
                    refine wpAnyH_take (i := 16) (oi := _) (v := ?v91027) (by simp only [List.getElem?_toArray, List.getElem?_cons_succ, List.getElem?_cons_zero]; rfl) (by kernel_rfl) (by kernel_rfl) (by kernel_rfl) (by exact fun _ _ _ h => h) (Or.inl ⟨by rfl, ?hy91027⟩) (by assumption) ?rest91027
                    case hy91027 => (intro w hSw; (try dsimp only at hSw); go_simp; try with_reducible rfl)
                    try simp only [Act.put, List.setIfInBounds_toArray, List.set_cons_zero, List.set_cons_succ]
                    refine wpAnyH_take (i := 17) (oi := _) (v := ?v91028) (by simp only [List.getElem?_toArray, List.getElem?_cons_succ, List.getElem?_cons_zero]; rfl) (by kernel_rfl) (by kernel_rfl) (by kernel_rfl) (by exact fun _ _ _ h => h) (Or.inl ⟨by rfl, ?hy91028⟩) (by assumption) ?rest91028
                    case hy91028 => (intro w hSw; (try dsimp only at hSw); go_simp; try with_reducible rfl)
                    try simp only [Act.put, List.setIfInBounds_toArray, List.set_cons_zero, List.set_cons_succ]
                    refine wpAnyH_take (i := 18) (oi := _) (v := ?v91029) (by simp only [List.getElem?_toArray, List.getElem?_cons_succ, List.getElem?_cons_zero]; rfl) (by kernel_rfl) (by kernel_rfl) (by kernel_rfl) (by exact fun _ _ _ h => h) (Or.inl ⟨by rfl, ?hy91029⟩) (by assumption) ?rest91029
                    case hy91029 => (intro w hSw; (try dsimp only at hSw); go_simp; try with_reducible rfl)
                    try simp only [Act.put, List.setIfInBounds_toArray, List.set_cons_zero, List.set_cons_succ]
                    refine wpAnyH_take (i := 19) (oi := _) (v := ?v91030) (by simp only [List.getElem?_toArray, List.getElem?_cons_succ, List.getElem?_cons_zero]; rfl) (by kernel_rfl) (by kernel_rfl) (by kernel_rfl) (by exact fun _ _ _ h => h) (Or.inl ⟨by rfl, ?hy91030⟩) (by assumption) ?rest91030
                    case hy91030 => (intro w hSw; (try dsimp only at hSw); go_simp; try with_reducible rfl)
                    try simp only [Act.put, List.setIfInBounds_toArray, List.set_cons_zero, List.set_cons_succ]
                    refine wpAnyH_ready (rs := [21]) (by kernel_rfl) (by simp) ?_
                    refine AllReadyH.cons (o := _) (by simp only [List.getElem?_toArray, List.getElem?_cons_succ, List.getElem?_cons_zero]; rfl) (fun K hK => ?_) AllReadyH.nil
                    go_simp
                    refine hK.out _ _ (HCB.out _ (setK6_below P10.out LX.out _ _ _ _ _ _)) (fun hHeld => ?_)
                    clear hK K
                    try simp only [Act.put, List.setIfInBounds_toArray, List.set_cons_zero, List.set_cons_succ]
                    refine wpAnyH_take (i := 22) (oi := _) (v := ?v91032) (by simp only [List.getElem?_toArray, List.getElem?_cons_succ, List.getElem?_cons_zero]; rfl) (by kernel_rfl) (by kernel_rfl) (by kernel_rfl) (by exact fun _ _ _ h => h) (Or.inl ⟨by rfl, ?hy91032⟩) (by assumption) ?rest91032
                    case hy91032 => (intro w hSw; (try dsimp only at hSw); go_simp; try with_reducible rfl)
                    try simp only [Act.put, List.setIfInBounds_toArray, List.set_cons_zero, List.set_cons_succ]
                    refine wpAnyH_take (i := 23) (oi := _) (v := ?v91033) (by simp only [List.getElem?_toArray, List.getElem?_cons_succ, List.getElem?_cons_zero]; rfl) (by kernel_rfl) (by kernel_rfl) (by kernel_rfl) (by exact fun _ _ _ h => h) (Or.inl ⟨by rfl, ?hy91033⟩) (by assumption) ?rest91033
                    case hy91033 => (intro w hSw; (try dsimp only at hSw); go_simp; try with_reducible rfl)
                    try simp only [Act.put, List.setIfInBounds_toArray, List.set_cons_zero, List.set_cons_succ]
                    refine wpAnyH_done (by kernel_rfl) ?_ _
                    go_wp2
                    go_meet
                    case rel => exact ⟨_, rfl, rfl, rfl, Lib.hid (gotT_at P10.out LX.out A10.out)⟩
                · go_simp
                  obtain ⟨X12, hX12⟩ : ∃ X, X4.alloc (.cells #[.string ⟨#[]⟩, .string ⟨#[]⟩, .string ⟨#[]⟩, .string ⟨#[]⟩, .string ⟨#[]⟩, .string ⟨#[]⟩] 30) = X := ⟨_, rfl⟩
                  have hp12 := (P4.out).alloc (P4.out).size (.cells #[.string ⟨#[]⟩, .string ⟨#[]⟩, .string ⟨#[]⟩, .string ⟨#[]⟩, .string ⟨#[]⟩, .string ⟨#[]⟩] 30)
                  have hq12 := heap_alloc_last X4 (.cells #[.string ⟨#[]⟩, .string ⟨#[]⟩, .string ⟨#[]⟩, .string ⟨#[]⟩, .string ⟨#[]⟩, .string ⟨#[]⟩] 30)
                  have ho12 := own_below O4.out ((Below.refl X4.heap.size X4).alloc (Nat.le_refl _) (.cells #[.string ⟨#[]⟩, .string ⟨#[]⟩, .string ⟨#[]⟩, .string ⟨#[]⟩, .string ⟨#[]⟩, .string ⟨#[]⟩] 30))
                  rw [hX12] at hp12 hq12 ho12 ⊢
                  have P12 := Lib.hid hp12
                  have O12 := Lib.hid ho12
                  have A12 := Lib.hid hq12
                  have LX := Lib.hid (P4.out).size
                  obtain ⟨A12z, c12z, ez12, hbz12⟩ := HBU.out _ _ (PRow.cut O12.out (by rw [HLL.out]) rfl)
                  cases ez12
                  have BU12 := Lib.hid hbz12
                  clear hbz12
                  clear hX12 hp12 hq12 ho12
                  refine hK.out _ _ (HCB.out _ P12.out) (fun hHeld => ?_)
                  clear hK K
                  try simp only [Act.put, List.setIfInBounds_toArray, List.set_cons_zero, List.set_cons_succ]
                  refine wpAnyH_ready (rs := [14]) (by kernel_rfl) (by simp) ?_
                  refine AllReadyH.cons (o := _) (by simp only [List.getElem?_toArray, List.getElem?_cons_succ, List.getElem?_cons_zero]; rfl) (fun K hK => ?_) AllReadyH.nil
                  go_simp
                  go_at_call 10
                  (with_reducible refine (BU12.out).mono ?_)
                  rintro e13 X13 ⟨rfl, hb13⟩
                  have P13 := Lib.hid ((P12.out).chain hb13)
                  have A13 := Lib.hid (blk_below A12.out hb13)
                  clear hb13
                  dsimp only
                  refine hK.out _ _ (HCB.out _ P13.out) (fun hHeld => ?_)
                  clear hK K
                  try simp only [Act.put, List.setIfInBounds_toArray, List.set_cons_zero, List.set_cons_succ]
                  refine wpAnyH_ready (rs := [15]) (by kernel_rfl) (by simp) ?_
                  refine AllReadyH.cons (o := _) (by simp only [List.getElem?_toArray, List.getElem?_cons_succ, List.getElem?_cons_zero]; rfl) (fun K hK => ?_) AllReadyH.nil
                  go_simp
                  go_at_call 8
                  (with_reducible refine (HC.out _ P13.out).mono ?_)
                  rintro e14 X14 ⟨rfl, hb14⟩
                  have P14 := Lib.hid ((P13.out).chain hb14)
                  have A14 := Lib.hid (blk_below A13.out hb14)
                  clear hb14
                  dsimp only
                  obtain ⟨⟨r0, r1, r2, r3, r4, r5⟩, f0, f1, f2, f3, f4, f5⟩ := cellsK6_of A14.out
                  refine hK.out _ _ (HCB.out _ P14.out) (fun hHeld => ?_)
                  clear hK K
                  try simp only [Act.put, List.setIfInBounds_toArray, List.set_cons_zero, List.set_cons_succ]
                  refine wpAnyH_take (i := 16) (oi := _) (v := ?v91037) (by simp only [List.getElem?_toArray, List.getElem?_cons_succ, List.getElem?_cons_zero]; rfl) (by kernel_rfl) (by kernel_rfl) (by kernel_rfl) (by exact fun _ _ _ h => h) (Or.inl ⟨by rfl, ?hy91037⟩) (by assumption) ?rest91037
                  case hy91037 => (intro w hSw; (try dsimp only at hSw); go_simp; try with_reducible rfl)
                  try simp only [Act.put, List.setIfInBounds_toArray, List.set_cons_zero, List.set_cons_succ]
                  refine wpAnyH_take (i := 17) (oi := _) (v := ?v91038) (by simp only [List.getElem?_toArray, List.getElem?_cons_succ, List.getElem?_cons_zero]; rfl) (by kernel_rfl) (by kernel_rfl) (by kernel_rfl) (by exact fun _ _ _ h => h) (Or.inl ⟨by rfl, ?hy91038⟩) (by assumption) ?rest91038
                  case hy91038 => (intro w hSw; (try dsimp only at hSw); go_simp; try with_reducible rfl)
                  try simp only [Act.put, List.setIfInBounds_toArray, List.set_cons_zero, List.set_cons_succ]
                  refine wpAnyH_take (i := 18) (oi := _) (v := ?v91039) (by simp only [List.getElem?_toArray, List.getElem?_cons_succ, List.getElem?_cons_zero]; rfl) (by kernel_rfl) (by kernel_rfl) (by kernel_rfl) (by exact fun _ _ _ h => h) (Or.inl ⟨by rfl, ?hy91039⟩) (by assumption) ?rest91039
                  case hy91039 => (intro w hSw; (try dsimp only at hSw); go_simp; try with_reducible rfl)
                  try simp only [Act.put, List.setIfInBounds_toArray, List.set_cons_zero, List.set_cons_succ]
                  refine wpAnyH_take (i := 19) (oi := _) (v := ?v91040) (by simp only [List.getElem?_toArray, List.getElem?_cons_succ, List.getElem?_cons_zero]; rfl) (by kernel_rfl) (by kernel_rfl) (by kernel_rfl) (by exact fun _ _ _ h => h) (Or.inl ⟨by rfl, ?hy91040⟩) (by assumption) ?rest91040
                  case hy91040 => (intro w hSw; (try dsimp only at hSw); go_simp; try with_reducible rfl)
                  try simp only [Act.put, List.setIfInBounds_toArray, List.set_cons_zero, List.set_cons_succ]
                  refine wpAnyH_ready (rs := [21]) (by kernel_rfl) (by simp) ?_
                  refine AllReadyH.cons (o := _) (by simp only [List.getElem?_toArray, List.getElem?_cons_succ, List.getElem?_cons_zero]; rfl) (fun K hK => ?_) AllReadyH.nil
                  go_simp
                  refine hK.out _ _ (HCB.out _ (setK6_below P14.out LX.out _ _ _ _ _ _)) (fun hHeld => ?_)
                  clear hK K
                  try simp only [Act.put, List.setIfInBounds_toArray, List.set_cons_zero, List.set_cons_succ]
                  refine wpAnyH_take (i := 22) (oi := _) (v := ?v91042) (by simp only [List.getElem?_toArray, List.getElem?_cons_succ, List.getElem?_cons_zero]; rfl) (by kernel_rfl) (by kernel_rfl) (by kernel_rfl) (by exact fun _ _ _ h => h) (Or.inl ⟨by rfl, ?hy91042⟩) (by assumption) ?rest91042
                  case hy91042 => (intro w hSw; (try dsimp only at hSw); go_simp; try with_reducible rfl)
                  try simp only [Act.put, List.setIfInBounds_toArray, List.set_cons_zero, List.set_cons_succ]
                  refine wpAnyH_take (i := 23) (oi := _) (v := ?v91043) (by simp only [List.getElem?_toArray, List.getElem?_cons_succ, List.getElem?_cons_zero]; rfl) (by kernel_rfl) (by kernel_rfl) (by kernel_rfl) (by exact fun _ _ _ h => h) (Or.inl ⟨by rfl, ?hy91043⟩) (by assumption) ?rest91043
                  case hy91043 => (intro w hSw; (try dsimp only at hSw); go_simp; try with_reducible rfl)
                  try simp only [Act.put, List.setIfInBounds_toArray, List.set_cons_zero, List.set_cons_succ]
                  refine wpAnyH_done (by kernel_rfl) ?_ _
                  go_wp2
                  go_meet
                  case rel => exact ⟨_, rfl, rfl, rfl, Lib.hid (gotT_at P14.out LX.out A14.out)⟩
              · go_simp
                obtain ⟨X16, hX16⟩ : ∃ X, X3.alloc (.cells #[.string ⟨#[]⟩, .string ⟨#[]⟩, .string ⟨#[]⟩, .string ⟨#[]⟩, .string ⟨#[]⟩, .string ⟨#[]⟩] 30) = X := ⟨_, rfl⟩
                have hp16 := (P3.out).alloc (P3.out).size (.cells #[.string ⟨#[]⟩, .string ⟨#[]⟩, .string ⟨#[]⟩, .string ⟨#[]⟩, .string ⟨#[]⟩, .string ⟨#[]⟩] 30)
                have hq16 := heap_alloc_last X3 (.cells #[.string ⟨#[]⟩, .string ⟨#[]⟩, .string ⟨#[]⟩, .string ⟨#[]⟩, .string ⟨#[]⟩, .string ⟨#[]⟩] 30)
                have ho16 := own_below O3.out ((Below.refl X3.heap.size X3).alloc (Nat.le_refl _) (.cells #[.string ⟨#[]⟩, .string ⟨#[]⟩, .string ⟨#[]⟩, .string ⟨#[]⟩, .string ⟨#[]⟩, .string ⟨#[]⟩] 30))
                have hr16 := alloc_block (x := .cells #[.string ⟨#[]⟩, .string ⟨#[]⟩, .string ⟨#[]⟩, .string ⟨#[]⟩, .string ⟨#[]⟩, .string ⟨#[]⟩] 30) R3.out
                rw [hX16] at hp16 hq16 ho16 hr16 ⊢
                have P16 := Lib.hid hp16
                have O16 := Lib.hid ho16
                have R16 := Lib.hid hr16
                have A16 := Lib.hid hq16
                have LX := Lib.hid (P3.out).size
                clear hX16 hp16 hq16 ho16 hr16
                refine hK.out _ _ (HCB.out _ P16.out) (fun hHeld => ?_)
                clear hK K
                try simp only [Act.put, List.setIfInBounds_toArray, List.set_cons_zero, List.set_cons_succ]
                refine wpAnyH_ready (rs := [13]) (by kernel_rfl) (by simp) ?_
                refine AllReadyH.cons (o := _) (by simp only [List.getElem?_toArray, List.getElem?_cons_succ, List.getElem?_cons_zero]; rfl) (fun K hK => ?_) AllReadyH.nil
                refine step_append_opt rfl (.tmp 51) (.tmp 60) 37 rfl wr.heap.size 39 i0 _ 2 32 Tryd.underlying37 HII.out.1 HII.out.2.1 HII.out.2.2.1 HII.out.2.2.2 rfl (by decide) (.slice A2w j c2w) j (pcells l) rfl O16.out (some ⟨X2.heap.size, 0, none⟩) 1 1 [.string K0, .string V0] rfl rfl (.inr ⟨_, rfl, two_at R16.out⟩) (by simp [Value.oneCell']) (by unfold maxLen; omega) (by omega) P16.out.size ?_
                intro v17 X17 hw17 hg17 ht17
                rw [HPLL.out] at hw17
                obtain ⟨A17w, c17w, rfl, hbu17⟩ := HBU.out _ _ (PRow.cut hw17 (by rw [HLL.out]) rfl)
                have BU17 := Lib.hid hbu17
                clear hbu17
                have P17 := Lib.hid ((P16.out).grown hg17 P16.out.size (fun k hk => (O16.out.lt k hk).1))
                have O17 := Lib.hid hw17
                have A17 := Lib.hid (grown_block hg17 A16.out (own_not O16.out A16.out (by decide)))
                clear hg17 ht17 hw17
                refine hK.out _ _ (HCB.out _ P17.out) (fun hHeld => ?_)
                clear hK K
                try simp only [Act.put, List.setIfInBounds_toArray, List.set_cons_zero, List.set_cons_succ]
                refine wpAnyH_ready (rs := [14]) (by kernel_rfl) (by simp) ?_
                refine AllReadyH.cons (o := _) (by simp only [List.getElem?_toArray, List.getElem?_cons_succ, List.getElem?_cons_zero]; rfl) (fun K hK => ?_) AllReadyH.nil
                go_simp
                go_at_call 10
                (with_reducible refine (BU17.out).mono ?_)
                rintro e18 X18 ⟨rfl, hb18⟩
                have P18 := Lib.hid ((P17.out).chain hb18)
                have A18 := Lib.hid (blk_below A17.out hb18)
                clear hb18
                dsimp only
                refine hK.out _ _ (HCB.out _ P18.out) (fun hHeld => ?_)
                clear hK K
                try simp only [Act.put, List.setIfInBounds_toArray, List.set_cons_zero, List.set_cons_succ]
                refine wpAnyH_ready (rs := [15]) (by kernel_rfl) (by simp) ?_
                refine AllReadyH.cons (o := _) (by simp only [List.getElem?_toArray, List.getElem?_cons_succ, List.getElem?_cons_zero]; rfl) (fun K hK => ?_) AllReadyH.nil
                go_simp
                go_at_call 8
                (with_reducible refine (HC.out _ P18.out).mono ?_)
                rintro e19 X19 ⟨rfl, hb19⟩
                have P19 := Lib.hid ((P18.out).chain hb19)
                have A19 := Lib.hid (blk_below A18.out hb19)
                clear hb19
                dsimp only
                obtain ⟨⟨r0, r1, r2, r3, r4, r5⟩, f0, f1, f2, f3, f4, f5⟩ := cellsK6_of A19.out
                refine hK.out _ _ (HCB.out _ P19.out) (fun hHeld => ?_)
                clear hK K
                try simp only [Act.put, List.setIfInBounds_toArray, List.set_cons_zero, List.set_cons_succ]
                refine wpAnyH_take (i := 16) (oi := _) (v := ?v91048) (by simp only [List.getElem?_toArray, List.getElem?_cons_succ, List.getElem?_cons_zero]; rfl) (by kernel_rfl) (by kernel_rfl) (by kernel_rfl) (by exact fun _ _ _ h => h) (Or.inl ⟨by rfl, ?hy91048⟩) (by assumption) ?rest91048
                case hy91048 => (intro w hSw; (try dsimp only at hSw); go_simp; try with_reducible rfl)
                try simp only [Act.put, List.setIfInBounds_toArray, List.set_cons_zero, List.set_cons_succ]
                refine wpAnyH_take (i := 17) (oi := _) (v := ?v91049) (by simp only [List.getElem?_toArray, List.getElem?_cons_succ, List.getElem?_cons_zero]; rfl) (by kernel_rfl) (by kernel_rfl) (by kernel_rfl) (by exact fun _ _ _ h => h) (Or.inl ⟨by rfl, ?hy91049⟩) (by assumption) ?rest91049
                case hy91049 => (intro w hSw; (try dsimp only at hSw); go_simp; try with_reducible rfl)
                try simp only [Act.put, List.setIfInBounds_toArray, List.set_cons_zero, List.set_cons_succ]
                refine wpAnyH_take (i := 18) (oi := _) (v := ?v91050) (by simp only [List.getElem?_toArray, List.getElem?_cons_succ, List.getElem?_cons_zero]; rfl) (by kernel_rfl) (by kernel_rfl) (by kernel_rfl) (by exact fun _ _ _ h => h) (Or.inl ⟨by rfl, ?hy91050⟩) (by assumption) ?rest91050
                case hy91050 => (intro w hSw; (try dsimp only at hSw); go_simp; try with_reducible rfl)
                try simp only [Act.put, List.setIfInBounds_toArray, List.set_cons_zero, List.set_cons_succ]
                refine wpAnyH_take (i := 19) (oi := _) (v := ?v91051) (by simp only [List.getElem?_toArray, List.getElem?_cons_succ, List.getElem?_cons_zero]; rfl) (by kernel_rfl) (by kernel_rfl) (by kernel_rfl) (by exact fun _ _ _ h => h) (Or.inl ⟨by rfl, ?hy91051⟩) (by assumption) ?rest91051
                case hy91051 => (intro w hSw; (try dsimp only at hSw); go_simp; try with_reducible rfl)
                try simp only [Act.put, List.setIfInBounds_toArray, List.set_cons_zero, List.set_cons_succ]
                refine wpAnyH_ready (rs := [21]) (by kernel_rfl) (by simp) ?_
                refine AllReadyH.cons (o := _) (by simp only [List.getElem?_toArray, List.getElem?_cons_succ, List.getElem?_cons_zero]; rfl) (fun K hK => ?_) AllReadyH.nil
                go_simp
                refine hK.out _ _ (HCB.out _ (setK6_below P19.out LX.out _ _ _ _ _ _)) (fun hHeld => ?_)
                clear hK K
                try simp only [Act.put, List.setIfInBounds_toArray, List.set_cons_zero, List.set_cons_succ]
                refine wpAnyH_take (i := 22) (oi := _) (v := ?v91053) (by simp only [List.getElem?_toArray, List.getElem?_cons_succ, List.getElem?_cons_zero]; rfl) (by kernel_rfl) (by kernel_rfl) (by kernel_rfl) (by exact fun _ _ _ h => h) (Or.inl ⟨by rfl, ?hy91053⟩) (by assumption) ?rest91053
                case hy91053 => (intro w hSw; (try dsimp only at hSw); go_simp; try with_reducible rfl)
                try simp only [Act.put, List.setIfInBounds_toArray, List.set_cons_zero, List.set_cons_succ]
                refine wpAnyH_take (i := 23) (oi := _) (v := ?v91054) (by simp only [List.getElem?_toArray, List.getElem?_cons_succ, List.getElem?_cons_zero]; rfl) (by kernel_rfl) (by kernel_rfl) (by kernel_rfl) (by exact fun _ _ _ h => h) (Or.inl ⟨by rfl, ?hy91054⟩) (by assumption) ?rest91054
                case hy91054 => (intro w hSw; (try dsimp only at hSw); go_simp; try with_reducible rfl)
                try simp only [Act.put, List.setIfInBounds_toArray, List.set_cons_zero, List.set_cons_succ]
                refine wpAnyH_done (by kernel_rfl) ?_ _
                go_wp2
                go_meet
                case rel => exact ⟨_, rfl, rfl, rfl, Lib.hid (gotT_at P19.out LX.out A19.out)⟩
            · go_simp
              obtain ⟨X21, hX21⟩ : ∃ X, X2.alloc (.cells #[.string ⟨#[]⟩, .string ⟨#[]⟩, .string ⟨#[]⟩, .string ⟨#[]⟩, .string ⟨#[]⟩, .string ⟨#[]⟩] 30) = X := ⟨_, rfl⟩
              have hp21 := (P2.out).alloc (P2.out).size (.cells #[.string ⟨#[]⟩, .string ⟨#[]⟩, .string ⟨#[]⟩, .string ⟨#[]⟩, .string ⟨#[]⟩, .string ⟨#[]⟩] 30)
              have hq21 := heap_alloc_last X2 (.cells #[.string ⟨#[]⟩, .string ⟨#[]⟩, .string ⟨#[]⟩, .string ⟨#[]⟩, .string ⟨#[]⟩, .string ⟨#[]⟩] 30)
              have ho21 := own_below O2.out ((Below.refl X2.heap.size X2).alloc (Nat.le_refl _) (.cells #[.string ⟨#[]⟩, .string ⟨#[]⟩, .string ⟨#[]⟩, .string ⟨#[]⟩, .string ⟨#[]⟩, .string ⟨#[]⟩] 30))
              rw [hX21] at hp21 hq21 ho21 ⊢
              have P21 := Lib.hid hp21
              have O21 := Lib.hid ho21
              have A21 := Lib.hid hq21
              have LX := Lib.hid (P2.out).size
              clear hX21 hp21 hq21 ho21
              refine hK.out _ _ (HCB.out _ P21.out) (fun hHeld => ?_)
              clear hK K
              try simp only [Act.put, List.setIfInBounds_toArray, List.set_cons_zero, List.set_cons_succ]
              refine wpAnyH_ready (rs := [12]) (by kernel_rfl) (by simp) ?_
              refine AllReadyH.cons (o := _) (by simp only [List.getElem?_toArray, List.getElem?_cons_succ, List.getElem?_cons_zero]; rfl) (fun K hK => ?_) AllReadyH.nil
              go_simp
              obtain ⟨X22, hX22⟩ : ∃ X, X21.alloc (.cells #[.string K0, .string V0] 39) = X := ⟨_, rfl⟩
              have hp22 := (P21.out).alloc (P21.out).size (.cells #[.string K0, .string V0] 39)
              have hq22 := heap_alloc_last X21 (.cells #[.string K0, .string V0] 39)
              have ho22 := own_below O21.out ((Below.refl X21.heap.size X21).alloc (Nat.le_refl _) (.cells #[.string K0, .string V0] 39))
              have ha22 := alloc_block (x := .cells #[.string K0, .string V0] 39) A21.out
              rw [hX22] at hp22 hq22 ho22 ha22 ⊢
              have P22 := Lib.hid hp22
              have O22 := Lib.hid ho22
              have A22 := Lib.hid ha22
              have R22 := Lib.hid hq22
              have NE22 := Lib.hid (show (Value.ownBlock (.slice A2w j c2w)) ≠ some X21.heap.size from fun e => absurd (O21.out.lt _ e).2 (Nat.lt_irrefl _))
              clear hX22 hp22 hq22 ho22 ha22
              refine hK.out _ _ (HCB.out _ P22.out) (fun hHeld => ?_)
              clear hK K
              try simp only [Act.put, List.setIfInBounds_toArray, List.set_cons_zero, List.set_cons_succ]
              refine wpAnyH_ready (rs := [13]) (by kernel_rfl) (by simp) ?_
              refine AllReadyH.cons (o := _) (by simp only [List.getElem?_toArray, List.getElem?_cons_succ, List.getElem?_cons_zero]; rfl) (fun K hK => ?_) AllReadyH.nil
              refine step_append_opt rfl (.tmp 51) (.tmp 60) 37 rfl wr.heap.size 39 i0 _ 2 32 Tryd.underlying37 HII.out.1 HII.out.2.1 HII.out.2.2.1 HII.out.2.2.2 rfl (by decide) (.slice A2w j c2w) j (pcells l) rfl O22.out (some ⟨X21.heap.size, 0, none⟩) 1 1 [.string K0, .string V0] rfl rfl (.inr ⟨_, rfl, two_at R22.out⟩) (by simp [Value.oneCell']) (by unfold maxLen; omega) (by omega) P22.out.size ?_
              intro v23 X23 hw23 hg23 ht23
              rw [HPLL.out] at hw23
              obtain ⟨A23w, c23w, rfl, hbu23⟩ := HBU.out _ _ (PRow.cut hw23 (by rw [HLL.out]) rfl)
              have BU23 := Lib.hid hbu23
              clear hbu23
              have P23 := Lib.hid ((P22.out).grown hg23 P22.out.size (fun k hk => (O22.out.lt k hk).1))
              have O23 := Lib.hid hw23
              have A23 := Lib.hid (grown_block hg23 A22.out (own_not O22.out A22.out (by decide)))
              clear hg23 ht23 hw23
              refine hK.out _ _ (HCB.out _ P23.out) (fun hHeld => ?_)
              clear hK K
              try simp only [Act.put, List.setIfInBounds_toArray, List.set_cons_zero, List.set_cons_succ]
              refine wpAnyH_ready (rs := [14]) (by kernel_rfl) (by simp) ?_
              refine AllReadyH.cons (o := _) (by simp only [List.getElem?_toArray, List.getElem?_cons_succ, List.getElem?_cons_zero]; rfl) (fun K hK => ?_) AllReadyH.nil
              go_simp
              go_at_call 10
              (with_reducible refine (BU23.out).mono ?_)
              rintro e24 X24 ⟨rfl, hb24⟩
              have P24 := Lib.hid ((P23.out).chain hb24)
              have A24 := Lib.hid (blk_below A23.out hb24)
              clear hb24
              dsimp only
              refine hK.out _ _ (HCB.out _ P24.out) (fun hHeld => ?_)
              clear hK K
              try simp only [Act.put, List.setIfInBounds_toArray, List.set_cons_zero, List.set_cons_succ]
              refine wpAnyH_ready (rs := [15]) (by kernel_rfl) (by simp) ?_
              refine AllReadyH.cons (o := _) (by simp only [List.getElem?_toArray, List.getElem?_cons_succ, List.getElem?_cons_zero]; rfl) (fun K hK => ?_) AllReadyH.nil
              go_simp
              go_at_call 8
              (with_reducible refine (HC.out _ P24.out).mono ?_)
              rintro e25 X25 ⟨rfl, hb25⟩
              have P25 := Lib.hid ((P24.out).chain hb25)
              have A25 := Lib.hid (blk_below A24.out hb25)
              clear hb25
              dsimp only
              obtain ⟨⟨r0, r1, r2, r3, r4, r5⟩, f0, f1, f2, f3, f4, f5⟩ := cellsK6_of A25.out
              refine hK.out _ _ (HCB.out _ P25.out) (fun hHeld => ?_)
              clear hK K
              try simp only [Act.put, List.setIfInBounds_toArray, List.set_cons_zero, List.set_cons_succ]
              refine wpAnyH_take (i := 16) (oi := _) (v := ?v91060) (by simp only [List.getElem?_toArray, List.getElem?_cons_succ, List.getElem?_cons_zero]; rfl) (by kernel_rfl) (by kernel_rfl) (by kernel_rfl) (by exact fun _ _ _ h => h) (Or.inl ⟨by rfl, ?hy91060⟩) (by assumption) ?rest91060
              case hy91060 => (intro w hSw; (try dsimp only at hSw); go_simp; try with_reducible rfl)
              try simp only [Act.put, List.setIfInBounds_toArray, List.set_cons_zero, List.set_cons_succ]
              refine wpAnyH_take (i := 17) (oi := _) (v := ?v91061) (by simp only [List.getElem?_toArray, List.getElem?_cons_succ, List.getElem?_cons_zero]; rfl) (by kernel_rfl) (by kernel_rfl) (by kernel_rfl) (by exact fun _ _ _ h => h) (Or.inl ⟨by rfl, ?hy91061⟩) (by assumption) ?rest91061
              case hy91061 => (intro w hSw; (try dsimp only at hSw); go_simp; try with_reducible rfl)
              try simp only [Act.put, List.setIfInBounds_toArray, List.set_cons_zero, List.set_cons_succ]
              refine wpAnyH_take (i := 18) (oi := _) (v := ?v91062) (by simp only [List.getElem?_toArray, List.getElem?_cons_succ, List.getElem?_cons_zero]; rfl) (by kernel_rfl) (by kernel_rfl) (by kernel_rfl) (by exact fun _ _ _ h => h) (Or.inl ⟨by rfl, ?hy91062⟩) (by assumption) ?rest91062
              case hy91062 => (intro w hSw; (try dsimp only at hSw); go_simp; try with_reducible rfl)
              try simp only [Act.put, List.setIfInBounds_toArray, List.set_cons_zero, List.set_cons_succ]
              refine wpAnyH_take (i := 19) (oi := _) (v := ?v91063) (by simp only [List.getElem?_toArray, List.getElem?_cons_succ, List.getElem?_cons_zero]; rfl) (by kernel_rfl) (by kernel_rfl) (by kernel_rfl) (by exact fun _ _ _ h => h) (Or.inl ⟨by rfl, ?hy91063⟩) (by assumption) ?rest91063
              case hy91063 => (intro w hSw; (try dsimp only at hSw); go_simp; try with_reducible rfl)
              try simp only [Act.put, List.setIfInBounds_toArray, List.set_cons_zero, List.set_cons_succ]
              refine wpAnyH_ready (rs := [21]) (by kernel_rfl) (by simp) ?_
              refine AllReadyH.cons (o := _) (by simp only [List.getElem?_toArray, List.getElem?_cons_succ, List.getElem?_cons_zero]; rfl) (fun K hK => ?_) AllReadyH.nil
              go_simp
              refine hK.out _ _ (HCB.out _ (setK6_below P25.out LX.out _ _ _ _ _ _)) (fun hHeld => ?_)
              clear hK K
              try simp only [Act.put, List.setIfInBounds_toArray, List.set_cons_zero, List.set_cons_succ]
              refine wpAnyH_take (i := 22) (oi := _) (v := ?v91065) (by simp only [List.getElem?_toArray, List.getElem?_cons_succ, List.getElem?_cons_zero]; rfl) (by kernel_rfl) (by kernel_rfl) (by kernel_rfl) (by exact fun _ _ _ h => h) (Or.inl ⟨by rfl, ?hy91065⟩) (by assumption) ?rest91065
              case hy91065 => (intro w hSw; (try dsimp only at hSw); go_simp; try with_reducible rfl)
              try simp only [Act.put, List.setIfInBounds_toArray, List.set_cons_zero, List.set_cons_succ]
              refine wpAnyH_take (i := 23) (oi := _) (v := ?v91066) (by simp only [List.getElem?_toArray, List.getElem?_cons_succ, List.getElem?_cons_zero]; rfl) (by kernel_rfl) (by kernel_rfl) (by kernel_rfl) (by exact fun _ _ _ h => h) (Or.inl ⟨by rfl, ?hy91066⟩) (by assumption) ?rest91066
              case hy91066 => (intro w hSw; (try dsimp only at hSw); go_simp; try with_reducible rfl)
              try simp only [Act.put, List.setIfInBounds_toArray, List.set_cons_zero, List.set_cons_succ]
              refine wpAnyH_done (by kernel_rfl) ?_ _
              go_wp2
              go_meet
              case rel => exact ⟨_, rfl, rfl, rfl, Lib.hid (gotT_at P25.out LX.out A25.out)⟩
          · go_simp
            obtain ⟨X27, hX27⟩ : ∃ X, X1.alloc (.cells #[.string K0, .string V0] 39) = X := ⟨_, rfl⟩
            have hp27 := (P1.out).alloc (P1.out).size (.cells #[.string K0, .string V0] 39)
            have hq27 := heap_alloc_last X1 (.cells #[.string K0, .string V0] 39)
            have ho27 := own_below O1.out ((Below.refl X1.heap.size X1).alloc (Nat.le_refl _) (.cells #[.string K0, .string V0] 39))
            rw [hX27] at hp27 hq27 ho27 ⊢
            have P27 := Lib.hid hp27
            have O27 := Lib.hid ho27
            have R27 := Lib.hid hq27
            have NE27 := Lib.hid (show (Value.ownBlock (.slice (some ⟨wd.heap.size, 0, none⟩) 0 0)) ≠ some X1.heap.size from fun e => absurd (O1.out.lt _ e).2 (Nat.lt_irrefl _))
            clear hX27 hp27 hq27 ho27
            refine hK.out _ _ (HCB.out _ P27.out) (fun hHeld => ?_)
            clear hK K
            try simp only [Act.put, List.setIfInBounds_toArray, List.set_cons_zero, List.set_cons_succ]
            refine wpAnyH_ready (rs := [3, 20]) (by kernel_rfl) (by simp) ?_
            refine AllReadyH.cons (o := _) (by simp only [List.getElem?_toArray, List.getElem?_cons_succ, List.getElem?_cons_zero]; rfl) (fun K hK => ?_) (AllReadyH.cons (o := _) (by simp only [List.getElem?_toArray, List.getElem?_cons_succ, List.getElem?_cons_zero]; rfl) (fun K hK => ?_) AllReadyH.nil)
            · refine step_append_opt rfl (.tmp 49) (.tmp 50) 37 rfl wr.heap.size 39 i0 _ 2 32 Tryd.underlying37 HII.out.1 HII.out.2.1 HII.out.2.2.1 HII.out.2.2.2 rfl (by decide) (.slice (some ⟨wd.heap.size, 0, none⟩) 0 0) 0 [] rfl O27.out (some ad) j cl (pcells l) rfl HP2.out (.inr ⟨_, rfl, HPC.out _ P27.out⟩) (pcells_allone l) (by unfold maxLen; omega) (by omega) P27.out.size ?_
              intro v28 X28 hw28 hg28 ht28
              simp only [Nat.zero_add, List.nil_append] at hw28
              obtain ⟨A28w, c28w, rfl⟩ := own_form hw28
              have P28 := Lib.hid ((P27.out).grown hg28 P27.out.size (fun k hk => (O27.out.lt k hk).1))
              have O28 := Lib.hid hw28
              have R28 := Lib.hid (grown_block hg28 R27.out NE27.out)
              have NE28 := Lib.hid (show (Value.ownBlock (.slice A28w j c28w)) ≠ some (X1.heap.size) from fun e => by
                rcases ht28 with h | h
                · rw [h] at e; exact NE27.out e
                · rw [h] at e; injection e with e; have e : X27.heap.size = X1.heap.size := e; have := (Array.getElem?_eq_some_iff.1 R27.out).1; omega)
              clear hg28 ht28 hw28
              refine hK.out _ _ (HCB.out _ P28.out) (fun hHeld => ?_)
              clear hK K
              try simp only [Act.put, List.setIfInBounds_toArray, List.set_cons_zero, List.set_cons_succ]
              refine wpAnyH_ready (rs := [13, 20]) (by kernel_rfl) (by simp) ?_
              refine AllReadyH.cons (o := _) (by simp only [List.getElem?_toArray, List.getElem?_cons_succ, List.getElem?_cons_zero]; rfl) (fun K hK => ?_) (AllReadyH.cons (o := _) (by simp only [List.getElem?_toArray, List.getElem?_cons_succ, List.getElem?_cons_zero]; rfl) (fun K hK => ?_) AllReadyH.nil)
              · refine step_append_opt rfl (.tmp 51) (.tmp 60) 37 rfl wr.heap.size 39 i0 _ 2 32 Tryd.underlying37 HII.out.1 HII.out.2.1 HII.out.2.2.1 HII.out.2.2.2 rfl (by decide) (.slice A28w j c28w) j (pcells l) rfl O28.out (some ⟨X1.heap.size, 0, none⟩) 1 1 [.string K0, .string V0] rfl rfl (.inr ⟨_, rfl, two_at R28.out⟩) (by simp [Value.oneCell']) (by unfold maxLen; omega) (by omega) P28.out.size ?_
                intro v29 X29 hw29 hg29 ht29
                rw [HPLL.out] at hw29
                obtain ⟨A29w, c29w, rfl, hbu29⟩ := HBU.out _ _ (PRow.cut hw29 (by rw [HLL.out]) rfl)
                have BU29 := Lib.hid hbu29
                clear hbu29
                have P29 := Lib.hid ((P28.out).grown hg29 P28.out.size (fun k hk => (O28.out.lt k hk).1))
                have O29 := Lib.hid hw29
                clear hg29 ht29 hw29
                refine hK.out _ _ (HCB.out _ P29.out) (fun hHeld => ?_)
                clear hK K
                try simp only [Act.put, List.setIfInBounds_toArray, List.set_cons_zero, List.set_cons_succ]
                refine wpAnyH_ready (rs := [14, 20]) (by kernel_rfl) (by simp) ?_
                refine AllReadyH.cons (o := _) (by simp only [List.getElem?_toArray, List.getElem?_cons_succ, List.getElem?_cons_zero]; rfl) (fun K hK => ?_) (AllReadyH.cons (o := _) (by simp only [List.getElem?_toArray, List.getElem?_cons_succ, List.getElem?_cons_zero]; rfl) (fun K hK => ?_) AllReadyH.nil)
                · go_simp
                  go_at_call 10
                  (with_reducible refine (BU29.out).mono ?_)
                  rintro e30 X30 ⟨rfl, hb30⟩
                  have P30 := Lib.hid ((P29.out).chain hb30)
                  clear hb30
                  dsimp only
                  refine hK.out _ _ (HCB.out _ P30.out) (fun hHeld => ?_)
                  clear hK K
                  try simp only [Act.put, List.setIfInBounds_toArray, List.set_cons_zero, List.set_cons_succ]
                  refine wpAnyH_ready (rs := [15, 20]) (by kernel_rfl) (by simp) ?_
                  refine AllReadyH.cons (o := _) (by simp only [List.getElem?_toArray, List.getElem?_cons_succ, List.getElem?_cons_zero]; rfl) (fun K hK => ?_) (AllReadyH.cons (o := _) (by simp only [List.getElem?_toArray, List.getElem?_cons_succ, List.getElem?_cons_zero]; rfl) (fun K hK => ?_) AllReadyH.nil)
                  · go_simp
                    go_at_call 8
                    (with_reducible refine (HC.out _ P30.out).mono ?_)
                    rintro e31 X31 ⟨rfl, hb31⟩
                    have P31 := Lib.hid ((P30.out).chain hb31)
                    clear hb31
                    dsimp only
                    refine hK.out _ _ (HCB.out _ P31.out) (fun hHeld => ?_)
                    clear hK K
                    try simp only [Act.put, List.setIfInBounds_toArray, List.set_cons_zero, List.set_cons_succ]
                    refine wpAnyH_take (i := 16) (oi := _) (v := ?v91072) (by simp only [List.getElem?_toArray, List.getElem?_cons_succ, List.getElem?_cons_zero]; rfl) (by kernel_rfl) (by kernel_rfl) (by kernel_rfl) (by exact fun _ _ _ h => h) (Or.inl ⟨by rfl, ?hy91072⟩) (by assumption) ?rest91072
                    case hy91072 => (intro w hSw; (try dsimp only at hSw); go_simp; try with_reducible rfl)
                    try simp only [Act.put, List.setIfInBounds_toArray, List.set_cons_zero, List.set_cons_succ]
                    refine wpAnyH_take (i := 17) (oi := _) (v := ?v91073) (by simp only [List.getElem?_toArray, List.getElem?_cons_succ, List.getElem?_cons_zero]; rfl) (by kernel_rfl) (by kernel_rfl) (by kernel_rfl) (by exact fun _ _ _ h => h) (Or.inl ⟨by rfl, ?hy91073⟩) (by assumption) ?rest91073
                    case hy91073 => (intro w hSw; (try dsimp only at hSw); go_simp; try with_reducible rfl)
                    try simp only [Act.put, List.setIfInBounds_toArray, List.set_cons_zero, List.set_cons_succ]
                    refine wpAnyH_take (i := 18) (oi := _) (v := ?v91074) (by simp only [List.getElem?_toArray, List.getElem?_cons_succ, List.getElem?_cons_zero]; rfl) (by kernel_rfl) (by kernel_rfl) (by kernel_rfl) (by exact fun _ _ _ h => h) (Or.inl ⟨by rfl, ?hy91074⟩) (by assumption) ?rest91074
                    case hy91074 => (intro w hSw; (try dsimp only at hSw); go_simp; try with_reducible rfl)
                    try simp only [Act.put, List.setIfInBounds_toArray, List.set_cons_zero, List.set_cons_succ]
                    refine wpAnyH_take (i := 19) (oi := _) (v := ?v91075) (by simp only [List.getElem?_toArray, List.getElem?_cons_succ, List.getElem?_cons_zero]; rfl) (by kernel_rfl) (by kernel_rfl) (by kernel_rfl) (by exact fun _ _ _ h => h) (Or.inl ⟨by rfl, ?hy91075⟩) (by assumption) ?rest91075
                    case hy91075 => (intro w hSw; (try dsimp only at hSw); go_simp; try with_reducible rfl)
                    try simp only [Act.put, List.setIfInBounds_toArray, List.set_cons_zero, List.set_cons_succ]
                    refine wpAnyH_ready (rs := [20]) (by kernel_rfl) (by simp) ?_
                    refine AllReadyH.cons (o := _) (by simp only [List.getElem?_toArray, List.getElem?_cons_succ, List.getElem?_cons_zero]; rfl) (fun K hK => ?_) AllReadyH.nil
                    go_simp
                    obtain ⟨X32, hX32⟩ : ∃ X, X31.alloc (.cells #[.string ⟨#[]⟩, .string ⟨#[]⟩, .string ⟨#[]⟩, .string ⟨#[]⟩, .string ⟨#[]⟩, .string ⟨#[]⟩] 30) = X := ⟨_, rfl⟩
                    have hp32 := (P31.out).alloc (P31.out).size (.cells #[.string ⟨#[]⟩, .string ⟨#[]⟩, .string ⟨#[]⟩, .string ⟨#[]⟩, .string ⟨#[]⟩, .string ⟨#[]⟩] 30)
                    have hq32 := heap_alloc_last X31 (.cells #[.string ⟨#[]⟩, .string ⟨#[]⟩, .string ⟨#[]⟩, .string ⟨#[]⟩, .string ⟨#[]⟩, .string ⟨#[]⟩] 30)
                    rw [hX32] at hp32 hq32 ⊢
                    have P32 := Lib.hid hp32
                    have A32 := Lib.hid hq32
                    have LX := Lib.hid (P31.out).size
                    clear hX32 hp32 hq32
                    obtain ⟨⟨r0, r1, r2, r3, r4, r5⟩, f0, f1, f2, f3, f4, f5⟩ := cellsK6_of A32.out
                    refine hK.out _ _ (HCB.out _ P32.out) (fun hHeld => ?_)
                    clear hK K
                    try simp only [Act.put, List.setIfInBounds_toArray, List.set_cons_zero, List.set_cons_succ]
                    refine wpAnyH_ready (rs := [21]) (by kernel_rfl) (by simp) ?_
                    refine AllReadyH.cons (o := _) (by simp only [List.getElem?_toArray, List.getElem?_cons_succ, List.getElem?_cons_zero]; rfl) (fun K hK => ?_) AllReadyH.nil
                    go_simp
                    refine hK.out _ _ (HCB.out _ (setK6_below P32.out LX.out _ _ _ _ _ _)) (fun hHeld => ?_)
                    clear hK K
                    try simp only [Act.put, List.setIfInBounds_toArray, List.set_cons_zero, List.set_cons_succ]
                    refine wpAnyH_take (i := 22) (oi := _) (v := ?v91078) (by simp only [List.getElem?_toArray, List.getElem?_cons_succ, List.getElem?_cons_zero]; rfl) (by kernel_rfl) (by kernel_rfl) (by kernel_rfl) (by exact fun _ _ _ h => h) (Or.inl ⟨by rfl, ?hy91078⟩) (by assumption) ?rest91078
                    case hy91078 => (intro w hSw; (try dsimp only at hSw); go_simp; try with_reducible rfl)
                    try simp only [Act.put, List.setIfInBounds_toArray, List.set_cons_zero, List.set_cons_succ]
                    refine wpAnyH_take (i := 23) (oi := _) (v := ?v91079) (by simp only [List.getElem?_toArray, List.getElem?_cons_succ, List.getElem?_cons_zero]; rfl) (by kernel_rfl) (by kernel_rfl) (by kernel_rfl) (by exact fun _ _ _ h => h) (Or.inl ⟨by rfl, ?hy91079⟩) (by assumption) ?rest91079
                    case hy91079 => (intro w hSw; (try dsimp only at hSw); go_simp; try with_reducible rfl)
                    try simp only [Act.put, List.setIfInBounds_toArray, List.set_cons_zero, List.set_cons_succ]
                    refine wpAnyH_done (by kernel_rfl) ?_ _
                    go_wp2
                    go_meet
                    case rel => exact ⟨_, rfl, rfl, rfl, Lib.hid (gotT_at P32.out LX.out A32.out)⟩
                  · go_simp
                    obtain ⟨X34, hX34⟩ : ∃ X, X30.alloc (.cells #[.string ⟨#[]⟩, .string ⟨#[]⟩, .string ⟨#[]⟩, .string ⟨#[]⟩, .string ⟨#[]⟩, .string ⟨#[]⟩] 30) = X := ⟨_, rfl⟩
                    have hp34 := (P30.out).alloc (P30.out).size (.cells #[.string ⟨#[]⟩, .string ⟨#[]⟩, .string ⟨#[]⟩, .string ⟨#[]⟩, .string ⟨#[]⟩, .string ⟨#[]⟩] 30)
                    have hq34 := heap_alloc_last X30 (.cells #[.string ⟨#[]⟩, .string ⟨#[]⟩, .string ⟨#[]⟩, .string ⟨#[]⟩, .string ⟨#[]⟩, .string ⟨#[]⟩] 30)
                    rw [hX34] at hp34 hq34 ⊢
                    have P34 := Lib.hid hp34
                    have A34 := Lib.hid hq34
                    have LX := Lib.hid (P30.out).size
                    clear hX34 hp34 hq34
                    refine hK.out _ _ (HCB.out _ P34.out) (fun hHeld => ?_)
                    clear hK K
                    try simp only [Act.put, List.setIfInBounds_toArray, List.set_cons_zero, List.set_cons_succ]
                    refine wpAnyH_ready (rs := [15]) (by kernel_rfl) (by simp) ?_
                    refine AllReadyH.cons (o := _) (by simp only [List.getElem?_toArray, List.getElem?_cons_succ, List.getElem?_cons_zero]; rfl) (fun K hK => ?_) AllReadyH.nil
                    go_simp
                    go_at_call 8
                    (with_reducible refine (HC.out _ P34.out).mono ?_)
                    rintro e35 X35 ⟨rfl, hb35⟩
                    have P35 := Lib.hid ((P34.out).chain hb35)
                    have A35 := Lib.hid (blk_below A34.out hb35)
                    clear hb35
                    dsimp only
                    obtain ⟨⟨r0, r1, r2, r3, r4, r5⟩, f0, f1, f2, f3, f4, f5⟩ := cellsK6_of A35.out
                    refine hK.out _ _ (HCB.out _ P35.out) (fun hHeld => ?_)
                    clear hK K
                    try simp only [Act.put, List.setIfInBounds_toArray, List.set_cons_zero, List.set_cons_succ]
                    refine wpAnyH_take (i := 16) (oi := _) (v := ?v91082) (by simp only [List.getElem?_toArray, List.getElem?_cons_succ, List.getElem?_cons_zero]; rfl) (by kernel_rfl) (by kernel_rfl) (by kernel_rfl) (by exact fun _ _ _ h => h) (Or.inl ⟨by rfl, ?hy91082⟩) (by assumption) ?rest91082
                    case hy91082 => (intro w hSw; (try dsimp only at hSw); go_simp; try with_reducible rfl)
                    try simp only [Act.put, List.setIfInBounds_toArray, List.set_cons_zero, List.set_cons_succ]
                    refine wpAnyH_take (i := 17) (oi := _) (v := ?v91083) (by simp only [List.getElem?_toArray, List.getElem?_cons_succ, List.getElem?_cons_zero]; rfl) (by kernel_rfl) (by kernel_rfl) (by kernel_rfl) (by exact fun _ _ _ h => h) (Or.inl ⟨by rfl, ?hy91083⟩) (by assumption) ?rest91083
                    case hy91083 => (intro w hSw; (try dsimp only at hSw); go_simp; try with_reducible rfl)
                    try simp only [Act.put, List.setIfInBounds_toArray, List.set_cons_zero, List.set_cons_succ]
                    refine wpAnyH_take (i := 18) (oi := _) (v := ?v91084) (by simp only [List.getElem?_toArray, List.getElem?_cons_succ, List.getElem?_cons_zero]; rfl) (by kernel_rfl) (by kernel_rfl) (by kernel_rfl) (by exact fun _ _ _ h => h) (Or.inl ⟨by rfl, ?hy91084⟩) (by assumption) ?rest91084
                    case hy91084 => (intro w hSw; (try dsimp only at hSw); go_simp; try with_reducible rfl)
                    try simp only [Act.put, List.setIfInBounds_toArray, List.set_cons_zero, List.set_cons_succ]
                    refine wpAnyH_take (i := 19) (oi := _) (v := ?v91085) (by simp only [List.getElem?_toArray, List.getElem?_cons_succ, List.getElem?_cons_zero]; rfl) (by kernel_rfl) (by kernel_rfl) (by kernel_rfl) (by exact fun _ _ _ h => h) (Or.inl ⟨by rfl, ?hy91085⟩) (by assumption) ?rest91085
                    case hy91085 => (intro w hSw; (try dsimp only at hSw); go_simp; try with_reducible rfl)
                    try simp only [Act.put, List.setIfInBounds_toArray, List.set_cons_zero, List.set_cons_succ]
                    refine wpAnyH_ready (rs := [21]) (by kernel_rfl) (by simp) ?_
                    refine AllReadyH.cons (o := _) (by simp only [List.getElem?_toArray, List.getElem?_cons_succ, List.getElem?_cons_zero]; rfl) (fun K hK => ?_) AllReadyH.nil
                    go_simp
                    refine hK.out _ _ (HCB.out _ (setK6_below P35.out LX.out _ _ _ _ _ _)) (fun hHeld => ?_)
                    clear hK K
                    try simp only [Act.put, List.setIfInBounds_toArray, List.set_cons_zero, List.set_cons_succ]
                    refine wpAnyH_take (i := 22) (oi := _) (v := ?v91087) (by simp only [List.getElem?_toArray, List.getElem?_cons_succ, List.getElem?_cons_zero]; rfl) (by kernel_rfl) (by kernel_rfl) (by kernel_rfl) (by exact fun _ _ _ h => h) (Or.inl ⟨by rfl, ?hy91087⟩) (by assumption) ?rest91087
                    case hy91087 => (intro w hSw; (try dsimp only at hSw); go_simp; try with_reducible rfl)
                    try simp only [Act.put, List.setIfInBounds_toArray, List.set_cons_zero, List.set_cons_succ]
                    refine wpAnyH_take (i := 23) (oi := _) (v := ?v91088) (by simp only [List.getElem?_toArray, List.getElem?_cons_succ, List.getElem?_cons_zero]; rfl) (by kernel_rfl) (by kernel_rfl) (by kernel_rfl) (by exact fun _ _ _ h => h) (Or.inl ⟨by rfl, ?hy91088⟩) (by assumption) ?rest91088
                    case hy91088 => (intro w hSw; (try dsimp only at hSw); go_simp; try with_reducible rfl)
                    try simp only [Act.put, List.setIfInBounds_toArray, List.set_cons_zero, List.set_cons_succ]
                    refine wpAnyH_done (by kernel_rfl) ?_ _
                    go_wp2
                    go_meet
                    case rel => exact ⟨_, rfl, rfl, rfl, Lib.hid (gotT_at P35.out LX.out A35.out)⟩
                · go_simp
                  obtain ⟨X37, hX37⟩ : ∃ X, X29.alloc (.cells #[.string ⟨#[]⟩, .string ⟨#[]⟩, .string ⟨#[]⟩, .string ⟨#[]⟩, .string ⟨#[]⟩, .string ⟨#[]⟩] 30) = X := ⟨_, rfl⟩
                  have hp37 := (P29.out).alloc (P29.out).size (.cells #[.string ⟨#[]⟩, .string ⟨#[]⟩, .string ⟨#[]⟩, .string ⟨#[]⟩, .string ⟨#[]⟩, .string ⟨#[]⟩] 30)
                  have hq37 := heap_alloc_last X29 (.cells #[.string ⟨#[]⟩, .string ⟨#[]⟩, .string ⟨#[]⟩, .string ⟨#[]⟩, .string ⟨#[]⟩, .string ⟨#[]⟩] 30)
                  have ho37 := own_below O29.out ((Below.refl X29.heap.size X29).alloc (Nat.le_refl _) (.cells #[.string ⟨#[]⟩, .string ⟨#[]⟩, .string ⟨#[]⟩, .string ⟨#[]⟩, .string ⟨#[]⟩, .string ⟨#[]⟩] 30))
                  rw [hX37] at hp37 hq37 ho37 ⊢
                  have P37 := Lib.hid hp37
                  have O37 := Lib.hid ho37
                  have A37 := Lib.hid hq37
                  have LX := Lib.hid (P29.out).size
                  obtain ⟨A37z, c37z, ez37, hbz37⟩ := HBU.out _ _ (PRow.cut O37.out (by rw [HLL.out]) rfl)
                  cases ez37
                  have BU37 := Lib.hid hbz37
                  clear hbz37
                  clear hX37 hp37 hq37 ho37
                  refine hK.out _ _ (HCB.out _ P37.out) (fun hHeld => ?_)
                  clear hK K
                  try simp only [Act.put, List.setIfInBounds_toArray, List.set_cons_zero, List.set_cons_succ]
                  refine wpAnyH_ready (rs := [14]) (by kernel_rfl) (by simp) ?_
                  refine AllReadyH.cons (o := _) (by simp only [List.getElem?_toArray, List.getElem?_cons_succ, List.getElem?_cons_zero]; rfl) (fun K hK => ?_) AllReadyH.nil
                  go_simp
                  go_at_call 10
                  (with_reducible refine (BU37.out).mono ?_)
                  rintro e38 X38 ⟨rfl, hb38⟩
                  have P38 := Lib.hid ((P37.out).chain hb38)
                  have A38 := Lib.hid (blk_below A37.out hb38)
                  clear hb38
                  dsimp only
                  refine hK.out _ _ (HCB.out _ P38.out) (fun hHeld => ?_)
                  clear hK K
                  try simp only [Act.put, List.setIfInBounds_toArray, List.set_cons_zero, List.set_cons_succ]
                  refine wpAnyH_ready (rs := [15]) (by kernel_rfl) (by simp) ?_
                  refine AllReadyH.cons (o := _) (by simp only [List.getElem?_toArray, List.getElem?_cons_succ, List.getElem?_cons_zero]; rfl) (fun K hK => ?_) AllReadyH.nil
                  go_simp
                  go_at_call 8
                  (with_reducible refine (HC.out _ P38.out).mono ?_)
                  rintro e39 X39 ⟨rfl, hb39⟩
                  have P39 := Lib.hid ((P38.out).chain hb39)
                  have A39 := Lib.hid (blk_below A38.out hb39)
                  clear hb39
                  dsimp only
                  obtain ⟨⟨r0, r1, r2, r3, r4, r5⟩, f0, f1, f2, f3, f4, f5⟩ := cellsK6_of A39.out
                  refine hK.out _ _ (HCB.out _ P39.out) (fun hHeld => ?_)
                  clear hK K
                  try simp only [Act.put, List.setIfInBounds_toArray, List.set_cons_zero, List.set_cons_succ]
                  refine wpAnyH_take (i := 16) (oi := _) (v := ?v91092) (by simp only [List.getElem?_toArray, List.getElem?_cons_succ, List.getElem?_cons_zero]; rfl) (by kernel_rfl) (by kernel_rfl) (by kernel_rfl) (by exact fun _ _ _ h => h) (Or.inl ⟨by rfl, ?hy91092⟩) (by assumption) ?rest91092
                  case hy91092 => (intro w hSw; (try dsimp only at hSw); go_simp; try with_reducible rfl)
                  try simp only [Act.put, List.setIfInBounds_toArray, List.set_cons_zero, List.set_cons_succ]
                  refine wpAnyH_take (i := 17) (oi := _) (v := ?v91093) (by simp only [List.getElem?_toArray, List.getElem?_cons_succ, List.getElem?_cons_zero]; rfl) (by kernel_rfl) (by kernel_rfl) (by kernel_rfl) (by exact fun _ _ _ h => h) (Or.inl ⟨by rfl, ?hy91093⟩) (by assumption) ?rest91093
                  case hy91093 => (intro w hSw; (try dsimp only at hSw); go_simp; try with_reducible rfl)
                  try simp only [Act.put, List.setIfInBounds_toArray, List.set_cons_zero, List.set_cons_succ]
                  refine wpAnyH_take (i := 18) (oi := _) (v := ?v91094) (by simp only [List.getElem?_toArray, List.getElem?_cons_succ, List.getElem?_cons_zero]; rfl) (by kernel_rfl) (by kernel_rfl) (by kernel_rfl) (by exact fun _ _ _ h => h) (Or.inl ⟨by rfl, ?hy91094⟩) (by assumption) ?rest91094
                  case hy91094 => (intro w hSw; (try dsimp only at hSw); go_simp; try with_reducible rfl)
                  try simp only [Act.put, List.setIfInBounds_toArray, List.set_cons_zero, List.set_cons_succ]
                  refine wpAnyH_take (i := 19) (oi := _) (v := ?v91095) (by simp only [List.getElem?_toArray, List.getElem?_cons_succ, List.getElem?_cons_zero]; rfl) (by kernel_rfl) (by kernel_rfl) (by kernel_rfl) (by exact fun _ _ _ h => h) (Or.inl ⟨by rfl, ?hy91095⟩) (by assumption) ?rest91095
                  case hy91095 => (intro w hSw; (try dsimp only at hSw); go_simp; try with_reducible rfl)
                  try simp only [Act.put, List.setIfInBounds_toArray, List.set_cons_zero, List.set_cons_succ]
                  refine wpAnyH_ready (rs := [21]) (by kernel_rfl) (by simp) ?_
                  refine AllReadyH.cons (o := _) (by simp only [List.getElem?_toArray, List.getElem?_cons_succ, List.getElem?_cons_zero]; rfl) (fun K hK => ?_) AllReadyH.nil
                  go_simp
                  refine hK.out _ _ (HCB.out _ (setK6_below P39.out LX.out _ _ _ _ _ _)) (fun hHeld => ?_)
                  clear hK K
                  try simp only [Act.put, List.setIfInBounds_toArray, List.set_cons_zero, List.set_cons_succ]
                  refine wpAnyH_take (i := 22) (oi := _) (v := ?v91097) (by simp only [List.getElem?_toArray, List.getElem?_cons_succ, List.getElem?_cons_zero]; rfl) (by kernel_rfl) (by kernel_rfl) (by kernel_rfl) (by exact fun _ _ _ h => h) (Or.inl ⟨by rfl, ?hy91097⟩) (by assumption) ?rest91097
                  case hy91097 => (intro w hSw; (try dsimp only at hSw); go_simp; try with_reducible rfl)
                  try simp only [Act.put, List.setIfInBounds_toArray, List.set_cons_zero, List.set_cons_succ]
                  refine wpAnyH_take (i := 23) (oi := _) (v := ?v91098) (by simp only [List.getElem?_toArray, List.getElem?_cons_succ, List.getElem?_cons_zero]; rfl) (by kernel_rfl) (by kernel_rfl) (by kernel_rfl) (by exact fun _ _ _ h => h) (Or.inl ⟨by rfl, ?hy91098⟩) (by assumption) ?rest91098
                  case hy91098 => (intro w hSw; (try dsimp only at hSw); go_simp; try with_reducible rfl)
                  try simp only [Act.put, List.setIfInBounds_toArray, List.set_cons_zero, List.set_cons_succ]
                  refine wpAnyH_done (by kernel_rfl) ?_ _
                  go_wp2
                  go_meet
                  case rel => exact ⟨_, rfl, rfl, rfl, Lib.hid (gotT_at P39.out LX.out A39.out)⟩
              · go_simp
                obtain ⟨X41, hX41⟩ : ∃ X, X28.alloc (.cells #[.string ⟨#[]⟩, .string ⟨#[]⟩, .string ⟨#[]⟩, .string ⟨#[]⟩, .string ⟨#[]⟩, .string ⟨#[]⟩] 30) = X := ⟨_, rfl⟩
                have hp41 := (P28.out).alloc (P28.out).size (.cells #[.string ⟨#[]⟩, .string ⟨#[]⟩, .string ⟨#[]⟩, .string ⟨#[]⟩, .string ⟨#[]⟩, .string ⟨#[]⟩] 30)
                have hq41 := heap_alloc_last X28 (.cells #[.string ⟨#[]⟩, .string ⟨#[]⟩, .string ⟨#[]⟩, .string ⟨#[]⟩, .string ⟨#[]⟩, .string ⟨#[]⟩] 30)
                have ho41 := own_below O28.out ((Below.refl X28.heap.size X28).alloc (Nat.le_refl _) (.cells #[.string ⟨#[]⟩, .string ⟨#[]⟩, .string ⟨#[]⟩, .string ⟨#[]⟩, .string ⟨#[]⟩, .string ⟨#[]⟩] 30))
                have hr41 := alloc_block (x := .cells #[.string ⟨#[]⟩, .string ⟨#[]⟩, .string ⟨#[]⟩, .string ⟨#[]⟩, .string ⟨#[]⟩, .string ⟨#[]⟩] 30) R28.out
                rw [hX41] at hp41 hq41 ho41 hr41 ⊢
                have P41 := Lib.hid hp41
                have O41 := Lib.hid ho41
                have R41 := Lib.hid hr41
                have A41 := Lib.hid hq41
                have LX := Lib.hid (P28.out).size
                clear hX41 hp41 hq41 ho41 hr41
                refine hK.out _ _ (HCB.out _ P41.out) (fun hHeld => ?_)
                clear hK K
                try simp only [Act.put, List.setIfInBounds_toArray, List.set_cons_zero, List.set_cons_succ]
                refine wpAnyH_ready (rs := [13]) (by kernel_rfl) (by simp) ?_
                refine AllReadyH.cons (o := _) (by simp only [List.getElem?_toArray, List.getElem?_cons_succ, List.getElem?_cons_zero]; rfl) (fun K hK => ?_) AllReadyH.nil
                refine step_append_opt rfl (.tmp 51) (.tmp 60) 37 rfl wr.heap.size 39 i0 _ 2 32 Tryd.underlying37 HII.out.1 HII.out.2.1 HII.out.2.2.1 HII.out.2.2.2 rfl (by decide) (.slice A28w j c28w) j (pcells l) rfl O41.out (some ⟨X1.heap.size, 0, none⟩) 1 1 [.string K0, .string V0] rfl rfl (.inr ⟨_, rfl, two_at R41.out⟩) (by simp [Value.oneCell']) (by unfold maxLen; omega) (by omega) P41.out.size ?_
                intro v42 X42 hw42 hg42 ht42
                rw [HPLL.out] at hw42
                obtain ⟨A42w, c42w, rfl, hbu42⟩ := HBU.out _ _ (PRow.cut hw42 (by rw [HLL.out]) rfl)
                have BU42 := Lib.hid hbu42
                clear hbu42
                have P42 := Lib.hid ((P41.out).grown hg42 P41.out.size (fun k hk => (O41.out.lt k hk).1))
                have O42 := Lib.hid hw42
                have A42 := Lib.hid (grown_block hg42 A41.out (own_not O41.out A41.out (by decide)))
                clear hg42 ht42 hw42
                refine hK.out _ _ (HCB.out _ P42.out) (fun hHeld => ?_)
                clear hK K
                try simp only [Act.put, List.setIfInBounds_toArray, List.set_cons_zero, List.set_cons_succ]
                refine wpAnyH_ready (rs := [14]) (by kernel_rfl) (by simp) ?_
                refine AllReadyH.cons (o := _) (by simp only [List.getElem?_toArray, List.getElem?_cons_succ, List.getElem?_cons_zero]; rfl) (fun K hK => ?_) AllReadyH.nil
                go_simp
                go_at_call 10
                (with_reducible refine (BU42.out).mono ?_)
                rintro e43 X43 ⟨rfl, hb43⟩
                have P43 := Lib.hid ((P42.out).chain hb43)
                have A43 := Lib.hid (blk_below A42.out hb43)
                clear hb43
                dsimp only
                refine hK.out _ _ (HCB.out _ P43.out) (fun hHeld => ?_)
                clear hK K
                try simp only [Act.put, List.setIfInBounds_toArray, List.set_cons_zero, List.set_cons_succ]
                refine wpAnyH_ready (rs := [15]) (by kernel_rfl) (by simp) ?_
                refine AllReadyH.cons (o := _) (by simp only [List.getElem?_toArray, List.getElem?_cons_succ, List.getElem?_cons_zero]; rfl) (fun K hK => ?_) AllReadyH.nil
                go_simp
                go_at_call 8
                (with_reducible refine (HC.out _ P43.out).mono ?_)
                rintro e44 X44 ⟨rfl, hb44⟩
                have P44 := Lib.hid ((P43.out).chain hb44)
                have A44 := Lib.hid (blk_below A43.out hb44)
                clear hb44
                dsimp only
                obtain ⟨⟨r0, r1, r2, r3, r4, r5⟩, f0, f1, f2, f3, f4, f5⟩ := cellsK6_of A44.out
                refine hK.out _ _ (HCB.out _ P44.out) (fun hHeld => ?_)
                clear hK K
                try simp only [Act.put, List.setIfInBounds_toArray, List.set_cons_zero, List.set_cons_succ]
                refine wpAnyH_take (i := 16) (oi := _) (v := ?v91103) (by simp only [List.getElem?_toArray, List.getElem?_cons_succ, List.getElem?_cons_zero]; rfl) (by kernel_rfl) (by kernel_rfl) (by kernel_rfl) (by exact fun _ _ _ h => h) (Or.inl ⟨by rfl, ?hy91103⟩) (by assumption) ?rest91103
                case hy91103 => (intro w hSw; (try dsimp only at hSw); go_simp; try with_reducible rfl)
                try simp only [Act.put, List.setIfInBounds_toArray, List.set_cons_zero, List.set_cons_succ]
                refine wpAnyH_take (i := 17) (oi := _) (v := ?v91104) (by simp only [List.getElem?_toArray, List.getElem?_cons_succ, List.getElem?_cons_zero]; rfl) (by kernel_rfl) (by kernel_rfl) (by kernel_rfl) (by exact fun _ _ _ h => h) (Or.inl ⟨by rfl, ?hy91104⟩) (by assumption) ?rest91104
                case hy91104 => (intro w hSw; (try dsimp only at hSw); go_simp; try with_reducible rfl)
                try simp only [Act.put, List.setIfInBounds_toArray, List.set_cons_zero, List.set_cons_succ]
                refine wpAnyH_take (i := 18) (oi := _) (v := ?v91105) (by simp only [List.getElem?_toArray, List.getElem?_cons_succ, List.getElem?_cons_zero]; rfl) (by kernel_rfl) (by kernel_rfl) (by kernel_rfl) (by exact fun _ _ _ h => h) (Or.inl ⟨by rfl, ?hy91105⟩) (by assumption) ?rest91105
                case hy91105 => (intro w hSw; (try dsimp only at hSw); go_simp; try with_reducible rfl)
                try simp only [Act.put, List.setIfInBounds_toArray, List.set_cons_zero, List.set_cons_succ]
                refine wpAnyH_take (i := 19) (oi := _) (v := ?v91106) (by simp only [List.getElem?_toArray, List.getElem?_cons_succ, List.getElem?_cons_zero]; rfl) (by kernel_rfl) (by kernel_rfl) (by kernel_rfl) (by exact fun _ _ _ h => h) (Or.inl ⟨by rfl, ?hy91106⟩) (by assumption) ?rest91106
                case hy91106 => (intro w hSw; (try dsimp only at hSw); go_simp; try with_reducible rfl)
                try simp only [Act.put, List.setIfInBounds_toArray, List.set_cons_zero, List.set_cons_succ]
                refine wpAnyH_ready (rs := [21]) (by kernel_rfl) (by simp) ?_
                refine AllReadyH.cons (o := _) (by simp only [List.getElem?_toArray, List.getElem?_cons_succ, List.getElem?_cons_zero]; rfl) (fun K hK => ?_) AllReadyH.nil
                go_simp
                refine hK.out _ _ (HCB.out _ (setK6_below P44.out LX.out _ _ _ _ _ _)) (fun hHeld => ?_)
                clear hK K
                try simp only [Act.put, List.setIfInBounds_toArray, List.set_cons_zero, List.set_cons_succ]
                refine wpAnyH_take (i := 22) (oi := _) (v := ?v91108) (by simp only [List.getElem?_toArray, List.getElem?_cons_succ, List.getElem?_cons_zero]; rfl) (by kernel_rfl) (by kernel_rfl) (by kernel_rfl) (by exact fun _ _ _ h => h) (Or.inl ⟨by rfl, ?hy91108⟩) (by assumption) ?rest91108
                case hy91108 => (intro w hSw; (try dsimp only at hSw); go_simp; try with_reducible rfl)
                try simp only [Act.put, List.setIfInBounds_toArray, List.set_cons_zero, List.set_cons_succ]
                refine wpAnyH_take (i := 23) (oi := _) (v := ?v91109) (by simp only [List.getElem?_toArray, List.getElem?_cons_succ, List.getElem?_cons_zero]; rfl) (by kernel_rfl) (by kernel_rfl) (by kernel_rfl) (by exact fun _ _ _ h => h) (Or.inl ⟨by rfl, ?hy91109⟩) (by assumption) ?rest91109
                case hy91109 => (intro w hSw; (try dsimp only at hSw); go_simp; try with_reducible rfl)
                try simp only [Act.put, List.setIfInBounds_toArray, List.set_cons_zero, List.set_cons_succ]
                refine wpAnyH_done (by kernel_rfl) ?_ _
                go_wp2
                go_meet
                case rel => exact ⟨_, rfl, rfl, rfl, Lib.hid (gotT_at P44.out LX.out A44.out)⟩
            · go_simp
              obtain ⟨X46, hX46⟩ : ∃ X, X27.alloc (.cells #[.string ⟨#[]⟩, .string ⟨#[]⟩, .string ⟨#[]⟩, .string ⟨#[]⟩, .string ⟨#[]⟩, .string ⟨#[]⟩] 30) = X := ⟨_, rfl⟩
              have hp46 := (P27.out).alloc (P27.out).size (.cells #[.string ⟨#[]⟩, .string ⟨#[]⟩, .string ⟨#[]⟩, .string ⟨#[]⟩, .string ⟨#[]⟩, .string ⟨#[]⟩] 30)
              have hq46 := heap_alloc_last X27 (.cells #[.string ⟨#[]⟩, .string ⟨#[]⟩, .string ⟨#[]⟩, .string ⟨#[]⟩, .string ⟨#[]⟩, .string ⟨#[]⟩] 30)
              have ho46 := own_below O27.out ((Below.refl X27.heap.size X27).alloc (Nat.le_refl _) (.cells #[.string ⟨#[]⟩, .string ⟨#[]⟩, .string ⟨#[]⟩, .string ⟨#[]⟩, .string ⟨#[]⟩, .string ⟨#[]⟩] 30))
              have hr46 := alloc_block (x := .cells #[.string ⟨#[]⟩, .string ⟨#[]⟩, .string ⟨#[]⟩, .string ⟨#[]⟩, .string ⟨#[]⟩, .string ⟨#[]⟩] 30) R27.out
              rw [hX46] at hp46 hq46 ho46 hr46 ⊢
              have P46 := Lib.hid hp46
              have O46 := Lib.hid ho46
              have R46 := Lib.hid hr46
              have A46 := Lib.hid hq46
              have LX := Lib.hid (P27.out).size
              clear hX46 hp46 hq46 ho46 hr46
              refine hK.out _ _ (HCB.out _ P46.out) (fun hHeld => ?_)
              clear hK K
              try simp only [Act.put, List.setIfInBounds_toArray, List.set_cons_zero, List.set_cons_succ]
              refine wpAnyH_ready (rs := [3]) (by kernel_rfl) (by simp) ?_
              refine AllReadyH.cons (o := _) (by simp only [List.getElem?_toArray, List.getElem?_cons_succ, List.getElem?_cons_zero]; rfl) (fun K hK => ?_) AllReadyH.nil
              refine step_append_opt rfl (.tmp 49) (.tmp 50) 37 rfl wr.heap.size 39 i0 _ 2 32 Tryd.underlying37 HII.out.1 HII.out.2.1 HII.out.2.2.1 HII.out.2.2.2 rfl (by decide) (.slice (some ⟨wd.heap.size, 0, none⟩) 0 0) 0 [] rfl O46.out (some ad) j cl (pcells l) rfl HP2.out (.inr ⟨_, rfl, HPC.out _ P46.out⟩) (pcells_allone l) (by unfold maxLen; omega) (by omega) P46.out.size ?_
              intro v47 X47 hw47 hg47 ht47
              simp only [Nat.zero_add, List.nil_append] at hw47
              obtain ⟨A47w, c47w, rfl⟩ := own_form hw47
              have P47 := Lib.hid ((P46.out).grown hg47 P46.out.size (fun k hk => (O46.out.lt k hk).1))
              have O47 := Lib.hid hw47
              have R47 := Lib.hid (grown_block hg47 R46.out NE27.out)
              have NE47 := Lib.hid (show (Value.ownBlock (.slice A47w j c47w)) ≠ some (X1.heap.size) from fun e => by
                rcases ht47 with h | h
                · rw [h] at e; exact NE27.out e
                · rw [h] at e; injection e with e; have e : X46.heap.size = X1.heap.size := e; have := (Array.getElem?_eq_some_iff.1 R46.out).1; omega)
              have A47 := Lib.hid (grown_block hg47 A46.out (own_not O46.out A46.out (by decide)))
              clear hg47 ht47 hw47
              refine hK.out _ _ (HCB.out _ P47.out) (fun hHeld => ?_)
              clear hK K
              try simp only [Act.put, List.setIfInBounds_toArray, List.set_cons_zero, List.set_cons_succ]
              refine wpAnyH_ready (rs := [13]) (by kernel_rfl) (by simp) ?_
              refine AllReadyH.cons (o := _) (by simp only [List.getElem?_toArray, List.getElem?_cons_succ, List.getElem?_cons_zero]; rfl) (fun K hK => ?_) AllReadyH.nil
              refine step_append_opt rfl (.tmp 51) (.tmp 60) 37 rfl wr.heap.size 39 i0 _ 2 32 Tryd.underlying37 HII.out.1 HII.out.2.1 HII.out.2.2.1 HII.out.2.2.2 rfl (by decide) (.slice A47w j c47w) j (pcells l) rfl O47.out (some ⟨X1.heap.size, 0, none⟩) 1 1 [.string K0, .string V0] rfl rfl (.inr ⟨_, rfl, two_at R47.out⟩) (by simp [Value.oneCell']) (by unfold maxLen; omega) (by omega) P47.out.size ?_
              intro v48 X48 hw48 hg48 ht48
              rw [HPLL.out] at hw48
              obtain ⟨A48w, c48w, rfl, hbu48⟩ := HBU.out _ _ (PRow.cut hw48 (by rw [HLL.out]) rfl)
              have BU48 := Lib.hid hbu48
              clear hbu48
              have P48 := Lib.hid ((P47.out).grown hg48 P47.out.size (fun k hk => (O47.out.lt k hk).1))
              have O48 := Lib.hid hw48
              have A48 := Lib.hid (grown_block hg48 A47.out (own_not O47.out A47.out (by decide)))
              clear hg48 ht48 hw48
              refine hK.out _ _ (HCB.out _ P48.out) (fun hHeld => ?_)
              clear hK K
              try simp only [Act.put, List.setIfInBounds_toArray, List.set_cons_zero, List.set_cons_succ]
              refine wpAnyH_ready (rs := [14]) (by kernel_rfl) (by simp) ?_
              refine AllReadyH.cons (o := _) (by simp only [List.getElem?_toArray, List.getElem?_cons_succ, List.getElem?_cons_zero]; rfl) (fun K hK => ?_) AllReadyH.nil
              go_simp
              go_at_call 10
              (with_reducible refine (BU48.out).mono ?_)
              rintro e49 X49 ⟨rfl, hb49⟩
              have P49 := Lib.hid ((P48.out).chain hb49)
              have A49 := Lib.hid (blk_below A48.out hb49)
              clear hb49
              dsimp only
              refine hK.out _ _ (HCB.out _ P49.out) (fun hHeld => ?_)
              clear hK K
              try simp only [Act.put, List.setIfInBounds_toArray, List.set_cons_zero, List.set_cons_succ]
              refine wpAnyH_ready (rs := [15]) (by kernel_rfl) (by simp) ?_
              refine AllReadyH.cons (o := _) (by simp only [List.getElem?_toArray, List.getElem?_cons_succ, List.getElem?_cons_zero]; rfl) (fun K hK => ?_) AllReadyH.nil
              go_simp
              go_at_call 8
              (with_reducible refine (HC.out _ P49.out).mono ?_)
              rintro e50 X50 ⟨rfl, hb50⟩
              have P50 := Lib.hid ((P49.out).chain hb50)
              have A50 := Lib.hid (blk_below A49.out hb50)
              clear hb50
              dsimp only
              obtain ⟨⟨r0, r1, r2, r3, r4, r5⟩, f0, f1, f2, f3, f4, f5⟩ := cellsK6_of A50.out
              refine hK.out _ _ (HCB.out _ P50.out) (fun hHeld => ?_)
              clear hK K
              try simp only [Act.put, List.setIfInBounds_toArray, List.set_cons_zero, List.set_cons_succ]
              refine wpAnyH_take (i := 16) (oi := _) (v := ?v91115) (by simp only [List.getElem?_toArray, List.getElem?_cons_succ, List.getElem?_cons_zero]; rfl) (by kernel_rfl) (by kernel_rfl) (by kernel_rfl) (by exact fun _ _ _ h => h) (Or.inl ⟨by rfl, ?hy91115⟩) (by assumption) ?rest91115
              case hy91115 => (intro w hSw; (try dsimp only at hSw); go_simp; try with_reducible rfl)
              try simp only [Act.put, List.setIfInBounds_toArray, List.set_cons_zero, List.set_cons_succ]
              refine wpAnyH_take (i := 17) (oi := _) (v := ?v91116) (by simp only [List.getElem?_toArray, List.getElem?_cons_succ, List.getElem?_cons_zero]; rfl) (by kernel_rfl) (by kernel_rfl) (by kernel_rfl) (by exact fun _ _ _ h => h) (Or.inl ⟨by rfl, ?hy91116⟩) (by assumption) ?rest91116
              case hy91116 => (intro w hSw; (try dsimp only at hSw); go_simp; try with_reducible rfl)
              try simp only [Act.put, List.setIfInBounds_toArray, List.set_cons_zero, List.set_cons_succ]
              refine wpAnyH_take (i := 18) (oi := _) (v := ?v91117) (by simp only [List.getElem?_toArray, List.getElem?_cons_succ, List.getElem?_cons_zero]; rfl) (by kernel_rfl) (by kernel_rfl) (by kernel_rfl) (by exact fun _ _ _ h => h) (Or.inl ⟨by rfl, ?hy91117⟩) (by assumption) ?rest91117
              case hy91117 => (intro w hSw; (try dsimp only at hSw); go_simp; try with_reducible rfl)
              try simp only [Act.put, List.setIfInBounds_toArray, List.set_cons_zero, List.set_cons_succ]
              refine wpAnyH_take (i := 19) (oi := _) (v := ?v91118) (by simp only [List.getElem?_toArray, List.getElem?_cons_succ, List.getElem?_cons_zero]; rfl) (by kernel_rfl) (by kernel_rfl) (by kernel_rfl) (by exact fun _ _ _ h => h) (Or.inl ⟨by rfl, ?hy91118⟩) (by assumption) ?rest91118
              case hy91118 => (intro w hSw; (try dsimp only at hSw); go_simp; try with_reducible rfl)
              try simp only [Act.put, List.setIfInBounds_toArray, List.set_cons_zero, List.set_cons_succ]
              refine wpAnyH_ready (rs := [21]) (by kernel_rfl) (by simp) ?_
              refine AllReadyH.cons (o := _) (by simp only [List.getElem?_toArray, List.getElem?_cons_succ, List.getElem?_cons_zero]; rfl) (fun K hK => ?_) AllReadyH.nil
              go_simp
              refine hK.out _ _ (HCB.out _ (setK6_below P50.out LX.out _ _ _ _ _ _)) (fun hHeld => ?_)
              clear hK K
              try simp only [Act.put, List.setIfInBounds_toArray, List.set_cons_zero, List.set_cons_succ]
              refine wpAnyH_take (i := 22) (oi := _) (v := ?v91120) (by simp only [List.getElem?_toArray, List.getElem?_cons_succ, List.getElem?_cons_zero]; rfl) (by kernel_rfl) (by kernel_rfl) (by kernel_rfl) (by exact fun _ _ _ h => h) (Or.inl ⟨by rfl, ?hy91120⟩) (by assumption) ?rest91120
              case hy91120 => (intro w hSw; (try dsimp only at hSw); go_simp; try with_reducible rfl)
              try simp only [Act.put, List.setIfInBounds_toArray, List.set_cons_zero, List.set_cons_succ]
              refine wpAnyH_take (i := 23) (oi := _) (v := ?v91121) (by simp only [List.getElem?_toArray, List.getElem?_cons_succ, List.getElem?_cons_zero]; rfl) (by kernel_rfl) (by kernel_rfl) (by kernel_rfl) (by exact fun _ _ _ h => h) (Or.inl ⟨by rfl, ?hy91121⟩) (by assumption) ?rest91121
              case hy91121 => (intro w hSw; (try dsimp only at hSw); go_simp; try with_reducible rfl)
              try simp only [Act.put, List.setIfInBounds_toArray, List.set_cons_zero, List.set_cons_succ]
              refine wpAnyH_done (by kernel_rfl) ?_ _
              go_wp2
              go_meet
              case rel => exact ⟨_, rfl, rfl, rfl, Lib.hid (gotT_at P50.out LX.out A50.out)⟩
          · go_simp
            obtain ⟨X52, hX52⟩ : ∃ X, X1.alloc (.cells #[.string ⟨#[]⟩, .string ⟨#[]⟩, .string ⟨#[]⟩, .string ⟨#[]⟩, .string ⟨#[]⟩, .string ⟨#[]⟩] 30) = X := ⟨_, rfl⟩
            have hp52 := (P1.out).alloc (P1.out).size (.cells #[.string ⟨#[]⟩, .string ⟨#[]⟩, .string ⟨#[]⟩, .string ⟨#[]⟩, .string ⟨#[]⟩, .string ⟨#[]⟩] 30)
            have hq52 := heap_alloc_last X1 (.cells #[.string ⟨#[]⟩, .string ⟨#[]⟩, .string ⟨#[]⟩, .string ⟨#[]⟩, .string ⟨#[]⟩, .string ⟨#[]⟩] 30)
            have ho52 := own_below O1.out ((Below.refl X1.heap.size X1).alloc (Nat.le_refl _) (.cells #[.string ⟨#[]⟩, .string ⟨#[]⟩, .string ⟨#[]⟩, .string ⟨#[]⟩, .string ⟨#[]⟩, .string ⟨#[]⟩] 30))
            rw [hX52] at hp52 hq52 ho52 ⊢
            have P52 := Lib.hid hp52
            have O52 := Lib.hid ho52
            have A52 := Lib.hid hq52
            have LX := Lib.hid (P1.out).size
            clear hX52 hp52 hq52 ho52
            refine hK.out _ _ (HCB.out _ P52.out) (fun hHeld => ?_)
            clear hK K
            try simp only [Act.put, List.setIfInBounds_toArray, List.set_cons_zero, List.set_cons_succ]
            refine wpAnyH_ready (rs := [3, 12]) (by kernel_rfl) (by simp) ?_
            refine AllReadyH.cons (o := _) (by simp only [List.getElem?_toArray, List.getElem?_cons_succ, List.getElem?_cons_zero]; rfl) (fun K hK => ?_) (AllReadyH.cons (o := _) (by simp only [List.getElem?_toArray, List.getElem?_cons_succ, List.getElem?_cons_zero]; rfl) (fun K hK => ?_) AllReadyH.nil)
            · refine step_append_opt rfl (.tmp 49) (.tmp 50) 37 rfl wr.heap.size 39 i0 _ 2 32 Tryd.underlying37 HII.out.1 HII.out.2.1 HII.out.2.2.1 HII.out.2.2.2 rfl (by decide) (.slice (some ⟨wd.heap.size, 0, none⟩) 0 0) 0 [] rfl O52.out (some ad) j cl (pcells l) rfl HP2.out (.inr ⟨_, rfl, HPC.out _ P52.out⟩) (pcells_allone l) (by unfold maxLen; omega) (by omega) P52.out.size ?_
              intro v53 X53 hw53 hg53 ht53
              simp only [Nat.zero_add, List.nil_append] at hw53
              obtain ⟨A53w, c53w, rfl⟩ := own_form hw53
              have P53 := Lib.hid ((P52.out).grown hg53 P52.out.size (fun k hk => (O52.out.lt k hk).1))
              have O53 := Lib.hid hw53
              have A53 := Lib.hid (grown_block hg53 A52.out (own_not O52.out A52.out (by decide)))
              clear hg53 ht53 hw53
              refine hK.out _ _ (HCB.out _ P53.out) (fun hHeld => ?_)
              clear hK K
              try simp only [Act.put, List.setIfInBounds_toArray, List.set_cons_zero, List.set_cons_succ]
              refine wpAnyH_ready (rs := [12]) (by kernel_rfl) (by simp) ?_
              refine AllReadyH.cons (o := _) (by simp only [List.getElem?_toArray, List.getElem?_cons_succ, List.getElem?_cons_zero]; rfl) (fun K hK => ?_) AllReadyH.nil
              go_simp
              obtain ⟨X54, hX54⟩ : ∃ X, X53.alloc (.cells #[.string K0, .string V0] 39) = X := ⟨_, rfl⟩
              have hp54 := (P53.out).alloc (P53.out).size (.cells #[.string K0, .string V0] 39)
              have hq54 := heap_alloc_last X53 (.cells #[.string K0, .string V0] 39)
              have ho54 := own_below O53.out ((Below.refl X53.heap.size X53).alloc (Nat.le_refl _) (.cells #[.string K0, .string V0] 39))
              have ha54 := alloc_block (x := .cells #[.string K0, .string V0] 39) A53.out
              rw [hX54] at hp54 hq54 ho54 ha54 ⊢
              have P54 := Lib.hid hp54
              have O54 := Lib.hid ho54
              have A54 := Lib.hid ha54
              have R54 := Lib.hid hq54
              have NE54 := Lib.hid (show (Value.ownBlock (.slice A53w j c53w)) ≠ some X53.heap.size from fun e => absurd (O53.out.lt _ e).2 (Nat.lt_irrefl _))
              clear hX54 hp54 hq54 ho54 ha54
              refine hK.out _ _ (HCB.out _ P54.out) (fun hHeld => ?_)
              clear hK K
              try simp only [Act.put, List.setIfInBounds_toArray, List.set_cons_zero, List.set_cons_succ]
              refine wpAnyH_ready (rs := [13]) (by kernel_rfl) (by simp) ?_
              refine AllReadyH.cons (o := _) (by simp only [List.getElem?_toArray, List.getElem?_cons_succ, List.getElem?_cons_zero]; rfl) (fun K hK => ?_) AllReadyH.nil
              refine step_append_opt rfl (.tmp 51) (.tmp 60) 37 rfl wr.heap.size 39 i0 _ 2 32 Tryd.underlying37 HII.out.1 HII.out.2.1 HII.out.2.2.1 HII.out.2.2.2 rfl (by decide) (.slice A53w j c53w) j (pcells l) rfl O54.out (some ⟨X53.heap.size, 0, none⟩) 1 1 [.string K0, .string V0] rfl rfl (.inr ⟨_, rfl, two_at R54.out⟩) (by simp [Value.oneCell']) (by unfold maxLen; omega) (by omega) P54.out.size ?_
              intro v55 X55 hw55 hg55 ht55
              rw [HPLL.out] at hw55
              obtain ⟨A55w, c55w, rfl, hbu55⟩ := HBU.out _ _ (PRow.cut hw55 (by rw [HLL.out]) rfl)
              have BU55 := Lib.hid hbu55
              clear hbu55
              have P55 := Lib.hid ((P54.out).grown hg55 P54.out.size (fun k hk => (O54.out.lt k hk).1))
              have O55 := Lib.hid hw55
              have A55 := Lib.hid (grown_block hg55 A54.out (own_not O54.out A54.out (by decide)))
              clear hg55 ht55 hw55
              refine hK.out _ _ (HCB.out _ P55.out) (fun hHeld => ?_)
              clear hK K
              try simp only [Act.put, List.setIfInBounds_toArray, List.set_cons_zero, List.set_cons_succ]
              refine wpAnyH_ready (rs := [14]) (by kernel_rfl) (by simp) ?_
              refine AllReadyH.cons (o := _) (by simp only [List.getElem?_toArray, List.getElem?_cons_succ, List.getElem?_cons_zero]; rfl) (fun K hK => ?_) AllReadyH.nil
              go_simp
              go_at_call 10
              (with_reducible refine (BU55.out).mono ?_)
              rintro e56 X56 ⟨rfl, hb56⟩
              have P56 := Lib.hid ((P55.out).chain hb56)
              have A56 := Lib.hid (blk_below A55.out hb56)
              clear hb56
              dsimp only
              refine hK.out _ _ (HCB.out _ P56.out) (fun hHeld => ?_)
              clear hK K
              try simp only [Act.put, List.setIfInBounds_toArray, List.set_cons_zero, List.set_cons_succ]
              refine wpAnyH_ready (rs := [15]) (by kernel_rfl) (by simp) ?_
              refine AllReadyH.cons (o := _) (by simp only [List.getElem?_toArray, List.getElem?_cons_succ, List.getElem?_cons_zero]; rfl) (fun K hK => ?_) AllReadyH.nil
              go_simp
              go_at_call 8
              (with_reducible refine (HC.out _ P56.out).mono ?_)
              rintro e57 X57 ⟨rfl, hb57⟩
              have P57 := Lib.hid ((P56.out).chain hb57)
              have A57 := Lib.hid (blk_below A56.out hb57)
              clear hb57
              dsimp only
              obtain ⟨⟨r0, r1, r2, r3, r4, r5⟩, f0, f1, f2, f3, f4, f5⟩ := cellsK6_of A57.out
              refine hK.out _ _ (HCB.out _ P57.out) (fun hHeld => ?_)
              clear hK K
              try simp only [Act.put, List.setIfInBounds_toArray, List.set_cons_zero, List.set_cons_succ]
              refine wpAnyH_take (i := 16) (oi := _) (v := ?v91128) (by simp only [List.getElem?_toArray, List.getElem?_cons_succ, List.getElem?_cons_zero]; rfl) (by kernel_rfl) (by kernel_rfl) (by kernel_rfl) (by exact fun _ _ _ h => h) (Or.inl ⟨by rfl, ?hy91128⟩) (by assumption) ?rest91128
              case hy91128 => (intro w hSw; (try dsimp only at hSw); go_simp; try with_reducible rfl)
              try simp only [Act.put, List.setIfInBounds_toArray, List.set_cons_zero, List.set_cons_succ]
              refine wpAnyH_take (i := 17) (oi := _) (v := ?v91129) (by simp only [List.getElem?_toArray, List.getElem?_cons_succ, List.getElem?_cons_zero]; rfl) (by kernel_rfl) (by kernel_rfl) (by kernel_rfl) (by exact fun _ _ _ h => h) (Or.inl ⟨by rfl, ?hy91129⟩) (by assumption) ?rest91129
              case hy91129 => (intro w hSw; (try dsimp only at hSw); go_simp; try with_reducible rfl)
              try simp only [Act.put, List.setIfInBounds_toArray, List.set_cons_zero, List.set_cons_succ]
              refine wpAnyH_take (i := 18) (oi := _) (v := ?v91130) (by simp only [List.getElem?_toArray, List.getElem?_cons_succ, List.getElem?_cons_zero]; rfl) (by kernel_rfl) (by kernel_rfl) (by kernel_rfl) (by exact fun _ _ _ h => h) (Or.inl ⟨by rfl, ?hy91130⟩) (by assumption) ?rest91130
              case hy91130 => (intro w hSw; (try dsimp only at hSw); go_simp; try with_reducible rfl)
              try simp only [Act.put, List.setIfInBounds_toArray, List.set_cons_zero, List.set_cons_succ]
              refine wpAnyH_take (i := 19) (oi := _) (v := ?v91131) (by simp only [List.getElem?_toArray, List.getElem?_cons_succ, List.getElem?_cons_zero]; rfl) (by kernel_rfl) (by kernel_rfl) (by kernel_rfl) (by exact fun _ _ _ h => h) (Or.inl ⟨by rfl, ?hy91131⟩) (by assumption) ?rest91131
              case hy91131 => (intro w hSw; (try dsimp only at hSw); go_simp; try with_reducible rfl)
              try simp only [Act.put, List.setIfInBounds_toArray, List.set_cons_zero, List.set_cons_succ]
              refine wpAnyH_ready (rs := [21]) (by kernel_rfl) (by simp) ?_
              refine AllReadyH.cons (o := _) (by simp only [List.getElem?_toArray, List.getElem?_cons_succ, List.getElem?_cons_zero]; rfl) (fun K hK => ?_) AllReadyH.nil
              go_simp
              refine hK.out _ _ (HCB.out _ (setK6_below P57.out LX.out _ _ _ _ _ _)) (fun hHeld => ?_)
              clear hK K
              try simp only [Act.put, List.setIfInBounds_toArray, List.set_cons_zero, List.set_cons_succ]
              refine wpAnyH_take (i := 22) (oi := _) (v := ?v91133) (by simp only [List.getElem?_toArray, List.getElem?_cons_succ, List.getElem?_cons_zero]; rfl) (by kernel_rfl) (by kernel_rfl) (by kernel_rfl) (by exact fun _ _ _ h => h) (Or.inl ⟨by rfl, ?hy91133⟩) (by assumption) ?rest91133
              case hy91133 => (intro w hSw; (try dsimp only at hSw); go_simp; try with_reducible rfl)
              try simp only [Act.put, List.setIfInBounds_toArray, List.set_cons_zero, List.set_cons_succ]
              refine wpAnyH_take (i := 23) (oi := _) (v := ?v91134) (by simp only [List.getElem?_toArray, List.getElem?_cons_succ, List.getElem?_cons_zero]; rfl) (by kernel_rfl) (by kernel_rfl) (by kernel_rfl) (by exact fun _ _ _ h => h) (Or.inl ⟨by rfl, ?hy91134⟩) (by assumption) ?rest91134
              case hy91134 => (intro w hSw; (try dsimp only at hSw); go_simp; try with_reducible rfl)
              try simp only [Act.put, List.setIfInBounds_toArray, List.set_cons_zero, List.set_cons_succ]
              refine wpAnyH_done (by kernel_rfl) ?_ _
              go_wp2
              go_meet
              case rel => exact ⟨_, rfl, rfl, rfl, Lib.hid (gotT_at P57.out LX.out A57.out)⟩
            · go_simp
              obtain ⟨X59, hX59⟩ : ∃ X, X52.alloc (.cells #[.string K0, .string V0] 39) = X := ⟨_, rfl⟩
              have hp59 := (P52.out).alloc (P52.out).size (.cells #[.string K0, .string V0] 39)
              have hq59 := heap_alloc_last X52 (.cells #[.string K0, .string V0] 39)
              have ho59 := own_below O52.out ((Below.refl X52.heap.size X52).alloc (Nat.le_refl _) (.cells #[.string K0, .string V0] 39))
              have ha59 := alloc_block (x := .cells #[.string K0, .string V0] 39) A52.out
              rw [hX59] at hp59 hq59 ho59 ha59 ⊢
              have P59 := Lib.hid hp59
              have O59 := Lib.hid ho59
              have A59 := Lib.hid ha59
              have R59 := Lib.hid hq59
              have NE59 := Lib.hid (show (Value.ownBlock (.slice (some ⟨wd.heap.size, 0, none⟩) 0 0)) ≠ some X52.heap.size from fun e => absurd (O52.out.lt _ e).2 (Nat.lt_irrefl _))
              clear hX59 hp59 hq59 ho59 ha59
              refine hK.out _ _ (HCB.out _ P59.out) (fun hHeld => ?_)
              clear hK K
              try simp only [Act.put, List.setIfInBounds_toArray, List.set_cons_zero, List.set_cons_succ]
              refine wpAnyH_ready (rs := [3]) (by kernel_rfl) (by simp) ?_
              refine AllReadyH.cons (o := _) (by simp only [List.getElem?_toArray, List.getElem?_cons_succ, List.getElem?_cons_zero]; rfl) (fun K hK => ?_) AllReadyH.nil
              refine step_append_opt rfl (.tmp 49) (.tmp 50) 37 rfl wr.heap.size 39 i0 _ 2 32 Tryd.underlying37 HII.out.1 HII.out.2.1 HII.out.2.2.1 HII.out.2.2.2 rfl (by decide) (.slice (some ⟨wd.heap.size, 0, none⟩) 0 0) 0 [] rfl O59.out (some ad) j cl (pcells l) rfl HP2.out (.inr ⟨_, rfl, HPC.out _ P59.out⟩) (pcells_allone l) (by unfold maxLen; omega) (by omega) P59.out.size ?_
              intro v60 X60 hw60 hg60 ht60
              simp only [Nat.zero_add, List.nil_append] at hw60
              obtain ⟨A60w, c60w, rfl⟩ := own_form hw60
              have P60 := Lib.hid ((P59.out).grown hg60 P59.out.size (fun k hk => (O59.out.lt k hk).1))
              have O60 := Lib.hid hw60
              have R60 := Lib.hid (grown_block hg60 R59.out NE59.out)
              have NE60 := Lib.hid (show (Value.ownBlock (.slice A60w j c60w)) ≠ some (X52.heap.size) from fun e => by
                rcases ht60 with h | h
                · rw [h] at e; exact NE59.out e
                · rw [h] at e; injection e with e; have e : X59.heap.size = X52.heap.size := e; have := (Array.getElem?_eq_some_iff.1 R59.out).1; omega)
              have A60 := Lib.hid (grown_block hg60 A59.out (own_not O59.out A59.out (by decide)))
              clear hg60 ht60 hw60
              refine hK.out _ _ (HCB.out _ P60.out) (fun hHeld => ?_)
              clear hK K
              try simp only [Act.put, List.setIfInBounds_toArray, List.set_cons_zero, List.set_cons_succ]
              refine wpAnyH_ready (rs := [13]) (by kernel_rfl) (by simp) ?_
              refine AllReadyH.cons (o := _) (by simp only [List.getElem?_toArray, List.getElem?_cons_succ, List.getElem?_cons_zero]; rfl) (fun K hK => ?_) AllReadyH.nil
              refine step_append_opt rfl (.tmp 51) (.tmp 60) 37 rfl wr.heap.size 39 i0 _ 2 32 Tryd.underlying37 HII.out.1 HII.out.2.1 HII.out.2.2.1 HII.out.2.2.2 rfl (by decide) (.slice A60w j c60w) j (pcells l) rfl O60.out (some ⟨X52.heap.size, 0, none⟩) 1 1 [.string K0, .string V0] rfl rfl (.inr ⟨_, rfl, two_at R60.out⟩) (by simp [Value.oneCell']) (by unfold maxLen; omega) (by omega) P60.out.size ?_
              intro v61 X61 hw61 hg61 ht61
              rw [HPLL.out] at hw61
              obtain ⟨A61w, c61w, rfl, hbu61⟩ := HBU.out _ _ (PRow.cut hw61 (by rw [HLL.out]) rfl)
              have BU61 := Lib.hid hbu61
              clear hbu61
              have P61 := Lib.hid ((P60.out).grown hg61 P60.out.size (fun k hk => (O60.out.lt k hk).1))
              have O61 := Lib.hid hw61
              have A61 := Lib.hid (grown_block hg61 A60.out (own_not O60.out A60.out (by decide)))
              clear hg61 ht61 hw61
              refine hK.out _ _ (HCB.out _ P61.out) (fun hHeld => ?_)
              clear hK K
              try simp only [Act.put, List.setIfInBounds_toArray, List.set_cons_zero, List.set_cons_succ]
              refine wpAnyH_ready (rs := [14]) (by kernel_rfl) (by simp) ?_
              refine AllReadyH.cons (o := _) (by simp only [List.getElem?_toArray, List.getElem?_cons_succ, List.getElem?_cons_zero]; rfl) (fun K hK => ?_) AllReadyH.nil
              go_simp
              go_at_call 10
              (with_reducible refine (BU61.out).mono ?_)
              rintro e62 X62 ⟨rfl, hb62⟩
              have P62 := Lib.hid ((P61.out).chain hb62)
              have A62 := Lib.hid (blk_below A61.out hb62)
              clear hb62
              dsimp only
              refine hK.out _ _ (HCB.out _ P62.out) (fun hHeld => ?_)
              clear hK K
              try simp only [Act.put, List.setIfInBounds_toArray, List.set_cons_zero, List.set_cons_succ]
              refine wpAnyH_ready (rs := [15]) (by kernel_rfl) (by simp) ?_
              refine AllReadyH.cons (o := _) (by simp only [List.getElem?_toArray, List.getElem?_cons_succ, List.getElem?_cons_zero]; rfl) (fun K hK => ?_) AllReadyH.nil
              go_simp
              go_at_call 8
              (with_reducible refine (HC.out _ P62.out).mono ?_)
              rintro e63 X63 ⟨rfl, hb63⟩
              have P63 := Lib.hid ((P62.out).chain hb63)
              have A63 := Lib.hid (blk_below A62.out hb63)
              clear hb63
              dsimp only
              obtain ⟨⟨r0, r1, r2, r3, r4, r5⟩, f0, f1, f2, f3, f4, f5⟩ := cellsK6_of A63.out
              refine hK.out _ _ (HCB.out _ P63.out) (fun hHeld => ?_)
              clear hK K
              try simp only [Act.put, List.setIfInBounds_toArray, List.set_cons_zero, List.set_cons_succ]
              refine wpAnyH_take (i := 16) (oi := _) (v := ?v91140) (by simp only [List.getElem?_toArray, List.getElem?_cons_succ, List.getElem?_cons_zero]; rfl) (by kernel_rfl) (by kernel_rfl) (by kernel_rfl) (by exact fun _ _ _ h => h) (Or.inl ⟨by rfl, ?hy91140⟩) (by assumption) ?rest91140
              case hy91140 => (intro w hSw; (try dsimp only at hSw); go_simp; try with_reducible rfl)
              try simp only [Act.put, List.setIfInBounds_toArray, List.set_cons_zero, List.set_cons_succ]
              refine wpAnyH_take (i := 17) (oi := _) (v := ?v91141) (by simp only [List.getElem?_toArray, List.getElem?_cons_succ, List.getElem?_cons_zero]; rfl) (by kernel_rfl) (by kernel_rfl) (by kernel_rfl) (by exact fun _ _ _ h => h) (Or.inl ⟨by rfl, ?hy91141⟩) (by assumption) ?rest91141
              case hy91141 => (intro w hSw; (try dsimp only at hSw); go_simp; try with_reducible rfl)
              try simp only [Act.put, List.setIfInBounds_toArray, List.set_cons_zero, List.set_cons_succ]
              refine wpAnyH_take (i := 18) (oi := _) (v := ?v91142) (by simp only [List.getElem?_toArray, List.getElem?_cons_succ, List.getElem?_cons_zero]; rfl) (by kernel_rfl) (by kernel_rfl) (by kernel_rfl) (by exact fun _ _ _ h => h) (Or.inl ⟨by rfl, ?hy91142⟩) (by assumption) ?rest91142
              case hy91142 => (intro w hSw; (try dsimp only at hSw); go_simp; try with_reducible rfl)
              try simp only [Act.put, List.setIfInBounds_toArray, List.set_cons_zero, List.set_cons_succ]
              refine wpAnyH_take (i := 19) (oi := _) (v := ?v91143) (by simp only [List.getElem?_toArray, List.getElem?_cons_succ, List.getElem?_cons_zero]; rfl) (by kernel_rfl) (by kernel_rfl) (by kernel_rfl) (by exact fun _ _ _ h => h) (Or.inl ⟨by rfl, ?hy91143⟩) (by assumption) ?rest91143
              case hy91143 => (intro w hSw; (try dsimp only at hSw); go_simp; try with_reducible rfl)
              try simp only [Act.put, List.setIfInBounds_toArray, List.set_cons_zero, List.set_cons_succ]
              refine wpAnyH_ready (rs := [21]) (by kernel_rfl) (by simp) ?_
              refine AllReadyH.cons (o := _) (by simp only [List.getElem?_toArray, List.getElem?_cons_succ, List.getElem?_cons_zero]; rfl) (fun K hK => ?_) AllReadyH.nil
              go_simp
              refine hK.out _ _ (HCB.out _ (setK6_below P63.out LX.out _ _ _ _ _ _)) (fun hHeld => ?_)
              clear hK K
              try simp only [Act.put, List.setIfInBounds_toArray, List.set_cons_zero, List.set_cons_succ]
              refine wpAnyH_take (i := 22) (oi := _) (v := ?v91145) (by simp only [List.getElem?_toArray, List.getElem?_cons_succ, List.getElem?_cons_zero]; rfl) (by kernel_rfl) (by kernel_rfl) (by kernel_rfl) (by exact fun _ _ _ h => h) (Or.inl ⟨by rfl, ?hy91145⟩) (by assumption) ?rest91145
              case hy91145 => (intro w hSw; (try dsimp only at hSw); go_simp; try with_reducible rfl)
              try simp only [Act.put, List.setIfInBounds_toArray, List.set_cons_zero, List.set_cons_succ]
              refine wpAnyH_take (i := 23) (oi := _) (v := ?v91146) (by simp only [List.getElem?_toArray, List.getElem?_cons_succ, List.getElem?_cons_zero]; rfl) (by kernel_rfl) (by kernel_rfl) (by kernel_rfl) (by exact fun _ _ _ h => h) (Or.inl ⟨by rfl, ?hy91146⟩) (by assumption) ?rest91146
              case hy91146 => (intro w hSw; (try dsimp only at hSw); go_simp; try with_reducible rfl)
              try simp only [Act.put, List.setIfInBounds_toArray, List.set_cons_zero, List.set_cons_succ]
              refine wpAnyH_done (by kernel_rfl) ?_ _
              go_wp2
              go_meet
              case rel => exact ⟨_, rfl, rfl, rfl, Lib.hid (gotT_at P63.out LX.out A63.out)⟩
        · go_simp
          obtain ⟨X65, hX65⟩ : ∃ X, wd.alloc (.cells #[.string K0, .string V0] 39) = X := ⟨_, rfl⟩
          have hp65 := (PD.out).alloc (PD.out).size (.cells #[.string K0, .string V0] 39)
          have hq65 := heap_alloc_last wd (.cells #[.string K0, .string V0] 39)
          rw [hX65] at hp65 hq65 ⊢
          have P65 := Lib.hid hp65
          have R65 := Lib.hid hq65
          clear hX65 hp65 hq65
          refine hK.out _ _ (HCB.out _ P65.out) (fun hHeld => ?_)
          clear hK K
          try simp only [Act.put, List.setIfInBounds_toArray, List.set_cons_zero, List.set_cons_succ]
          refine wpAnyH_ready (rs := [1, 20]) (by kernel_rfl) (by simp) ?_
          refine AllReadyH.cons (o := _) (by simp only [List.getElem?_toArray, List.getElem?_cons_succ, List.getElem?_cons_zero]; rfl) (fun K hK => ?_) (AllReadyH.cons (o := _) (by simp only [List.getElem?_toArray, List.getElem?_cons_succ, List.getElem?_cons_zero]; rfl) (fun K hK => ?_) AllReadyH.nil)
          · go_simp
            obtain ⟨X66, hX66⟩ : ∃ X, X65.alloc (.cells #[] 39) = X := ⟨_, rfl⟩
            have hp66 := (P65.out).alloc (P65.out).size (.cells #[] 39)
            have hq66 := heap_alloc_last X65 (.cells #[] 39)
            have hr66 := alloc_block (x := .cells #[] 39) R65.out
            have hw66 := own_fresh X65 wr.heap.size 39 2 P65.out.size
            rw [hX66] at hp66 hq66 hr66 hw66 ⊢
            have P66 := Lib.hid hp66
            have R66 := Lib.hid hr66
            have O66 := Lib.hid hw66
            have NE66 := Lib.hid (show (Value.slice (some ⟨X65.heap.size, 0, none⟩) 0 0).ownBlock ≠ some wd.heap.size from fun e => by injection e with e; have e : X65.heap.size = wd.heap.size := e; have := (Array.getElem?_eq_some_iff.1 R65.out).1; omega)
            clear hX66 hp66 hq66 hr66 hw66
            refine hK.out _ _ (HCB.out _ P66.out) (fun hHeld => ?_)
            clear hK K
            try simp only [Act.put, List.setIfInBounds_toArray, List.set_cons_zero, List.set_cons_succ]
            refine wpAnyH_ready (rs := [3, 20]) (by kernel_rfl) (by simp) ?_
            refine AllReadyH.cons (o := _) (by simp only [List.getElem?_toArray, List.getElem?_cons_succ, List.getElem?_cons_zero]; rfl) (fun K hK => ?_) (AllReadyH.cons (o := _) (by simp only [List.getElem?_toArray, List.getElem?_cons_succ, List.getElem?_cons_zero]; rfl) (fun K hK => ?_) AllReadyH.nil)
            · refine step_append_opt rfl (.tmp 49) (.tmp 50) 37 rfl wr.heap.size 39 i0 _ 2 32 Tryd.underlying37 HII.out.1 HII.out.2.1 HII.out.2.2.1 HII.out.2.2.2 rfl (by decide) (.slice (some ⟨X65.heap.size, 0, none⟩) 0 0) 0 [] rfl O66.out (some ad) j cl (pcells l) rfl HP2.out (.inr ⟨_, rfl, HPC.out _ P66.out⟩) (pcells_allone l) (by unfold maxLen; omega) (by omega) P66.out.size ?_
              intro v67 X67 hw67 hg67 ht67
              simp only [Nat.zero_add, List.nil_append] at hw67
              obtain ⟨A67w, c67w, rfl⟩ := own_form hw67
              have P67 := Lib.hid ((P66.out).grown hg67 P66.out.size (fun k hk => (O66.out.lt k hk).1))
              have O67 := Lib.hid hw67
              have R67 := Lib.hid (grown_block hg67 R66.out NE66.out)
              have NE67 := Lib.hid (show (Value.ownBlock (.slice A67w j c67w)) ≠ some (wd.heap.size) from fun e => by
                rcases ht67 with h | h
                · rw [h] at e; exact NE66.out e
                · rw [h] at e; injection e with e; have e : X66.heap.size = wd.heap.size := e; have := (Array.getElem?_eq_some_iff.1 R66.out).1; omega)
              clear hg67 ht67 hw67
              refine hK.out _ _ (HCB.out _ P67.out) (fun hHeld => ?_)
              clear hK K
              try simp only [Act.put, List.setIfInBounds_toArray, List.set_cons_zero, List.set_cons_succ]
              refine wpAnyH_ready (rs := [13, 20]) (by kernel_rfl) (by simp) ?_
              refine AllReadyH.cons (o := _) (by simp only [List.getElem?_toArray, List.getElem?_cons_succ, List.getElem?_cons_zero]; rfl) (fun K hK => ?_) (AllReadyH.cons (o := _) (by simp only [List.getElem?_toArray, List.getElem?_cons_succ, List.getElem?_cons_zero]; rfl) (fun K hK => ?_) AllReadyH.nil)
              · refine step_append_opt rfl (.tmp 51) (.tmp 60) 37 rfl wr.heap.size 39 i0 _ 2 32 Tryd.underlying37 HII.out.1 HII.out.2.1 HII.out.2.2.1 HII.out.2.2.2 rfl (by decide) (.slice A67w j c67w) j (pcells l) rfl O67.out (some ⟨wd.heap.size, 0, none⟩) 1 1 [.string K0, .string V0] rfl rfl (.inr ⟨_, rfl, two_at R67.out⟩) (by simp [Value.oneCell']) (by unfold maxLen; omega) (by omega) P67.out.size ?_
                intro v68 X68 hw68 hg68 ht68
                rw [HPLL.out] at hw68
                obtain ⟨A68w, c68w, rfl, hbu68⟩ := HBU.out _ _ (PRow.cut hw68 (by rw [HLL.out]) rfl)
                have BU68 := Lib.hid hbu68
                clear hbu68
                have P68 := Lib.hid ((P67.out).grown hg68 P67.out.size (fun k hk => (O67.out.lt k hk).1))
                have O68 := Lib.hid hw68
                clear hg68 ht68 hw68
                refine hK.out _ _ (HCB.out _ P68.out) (fun hHeld => ?_)
                clear hK K
                try simp only [Act.put, List.setIfInBounds_toArray, List.set_cons_zero, List.set_cons_succ]
                refine wpAnyH_ready (rs := [14, 20]) (by kernel_rfl) (by simp) ?_
                refine AllReadyH.cons (o := _) (by simp only [List.getElem?_toArray, List.getElem?_cons_succ, List.getElem?_cons_zero]; rfl) (fun K hK => ?_) (AllReadyH.cons (o := _) (by simp only [List.getElem?_toArray, List.getElem?_cons_succ, List.getElem?_cons_zero]; rfl) (fun K hK => ?_) AllReadyH.nil)
                · go_simp
                  go_at_call 10
                  (with_reducible refine (BU68.out).mono ?_)
                  rintro e69 X69 ⟨rfl, hb69⟩
                  have P69 := Lib.hid ((P68.out).chain hb69)
                  clear hb69
                  dsimp only
                  refine hK.out _ _ (HCB.out _ P69.out) (fun hHeld => ?_)
                  clear hK K
                  try simp only [Act.put, List.setIfInBounds_toArray, List.set_cons_zero, List.set_cons_succ]
                  refine wpAnyH_ready (rs := [15, 20]) (by kernel_rfl) (by simp) ?_
                  refine AllReadyH.cons (o := _) (by simp only [List.getElem?_toArray, List.getElem?_cons_succ, List.getElem?_cons_zero]; rfl) (fun K hK => ?_) (AllReadyH.cons (o := _) (by simp only [List.getElem?_toArray, List.getElem?_cons_succ, List.getElem?_cons_zero]; rfl) (fun K hK => ?_) AllReadyH.nil)
                  · go_simp
                    go_at_call 8
                    (with_reducible refine (HC.out _ P69.out).mono ?_)
                    rintro e70 X70 ⟨rfl, hb70⟩
                    have P70 := Lib.hid ((P69.out).chain hb70)
                    clear hb70
                    dsimp only
                    refine hK.out _ _ (HCB.out _ P70.out) (fun hHeld => ?_)
                    clear hK K
                    try simp only [Act.put, List.setIfInBounds_toArray, List.set_cons_zero, List.set_cons_succ]
                    refine wpAnyH_take (i := 16) (oi := _) (v := ?v91153) (by simp only [List.getElem?_toArray, List.getElem?_cons_succ, List.getElem?_cons_zero]; rfl) (by kernel_rfl) (by kernel_rfl) (by kernel_rfl) (by exact fun _ _ _ h => h) (Or.inl ⟨by rfl, ?hy91153⟩) (by assumption) ?rest91153
                    case hy91153 => (intro w hSw; (try dsimp only at hSw); go_simp; try with_reducible rfl)
                    try simp only [Act.put, List.setIfInBounds_toArray, List.set_cons_zero, List.set_cons_succ]
                    refine wpAnyH_take (i := 17) (oi := _) (v := ?v91154) (by simp only [List.getElem?_toArray, List.getElem?_cons_succ, List.getElem?_cons_zero]; rfl) (by kernel_rfl) (by kernel_rfl) (by kernel_rfl) (by exact fun _ _ _ h => h) (Or.inl ⟨by rfl, ?hy91154⟩) (by assumption) ?rest91154
                    case hy91154 => (intro w hSw; (try dsimp only at hSw); go_simp; try with_reducible rfl)
                    try simp only [Act.put, List.setIfInBounds_toArray, List.set_cons_zero, List.set_cons_succ]
                    refine wpAnyH_take (i := 18) (oi := _) (v := ?v91155) (by simp only [List.getElem?_toArray, List.getElem?_cons_succ, List.getElem?_cons_zero]; rfl) (by kernel_rfl) (by kernel_rfl) (by kernel_rfl) (by exact fun _ _ _ h => h) (Or.inl ⟨by rfl, ?hy91155⟩) (by assumption) ?rest91155
                    case hy91155 => (intro w hSw; (try dsimp only at hSw); go_simp; try with_reducible rfl)
                    try simp only [Act.put, List.setIfInBounds_toArray, List.set_cons_zero, List.set_cons_succ]
                    refine wpAnyH_take (i := 19) (oi := _) (v := ?v91156) (by simp only [List.getElem?_toArray, List.getElem?_cons_succ, List.getElem?_cons_zero]; rfl) (by kernel_rfl) (by kernel_rfl) (by kernel_rfl) (by exact fun _ _ _ h => h) (Or.inl ⟨by rfl, ?hy91156⟩) (by assumption) ?rest91156
                    case hy91156 => (intro w hSw; (try dsimp only at hSw); go_simp; try with_reducible rfl)
                    try simp only [Act.put, List.setIfInBounds_toArray, List.set_cons_zero, List.set_cons_succ]
                    refine wpAnyH_ready (rs := [20]) (by kernel_rfl) (by simp) ?_
                    refine AllReadyH.cons (o := _) (by simp only [List.getElem?_toArray, List.getElem?_cons_succ, List.getElem?_cons_zero]; rfl) (fun K hK => ?_) AllReadyH.nil
                    go_simp
                    obtain ⟨X71, hX71⟩ : ∃ X, X70.alloc (.cells #[.string ⟨#[]⟩, .string ⟨#[]⟩, .string ⟨#[]⟩, .string ⟨#[]⟩, .string ⟨#[]⟩, .string ⟨#[]⟩] 30) = X := ⟨_, rfl⟩
                    have hp71 := (P70.out).alloc (P70.out).size (.cells #[.string ⟨#[]⟩, .string ⟨#[]⟩, .string ⟨#[]⟩, .string ⟨#[]⟩, .string ⟨#[]⟩, .string ⟨#[]⟩] 30)
                    have hq71 := heap_alloc_last X70 (.cells #[.string ⟨#[]⟩, .string ⟨#[]⟩, .string ⟨#[]⟩, .string ⟨#[]⟩, .string ⟨#[]⟩, .string ⟨#[]⟩] 30)
                    rw [hX71] at hp71 hq71 ⊢
                    have P71 := Lib.hid hp71
                    have A71 := Lib.hid hq71
                    have LX := Lib.hid (P70.out).size
                    clear hX71 hp71 hq71
                    obtain ⟨⟨r0, r1, r2, r3, r4, r5⟩, f0, f1, f2, f3, f4, f5⟩ := cellsK6_of A71.out
                    refine hK.out _ _ (HCB.out _ P71.out) (fun hHeld => ?_)
                    clear hK K
                    try simp only [Act.put, List.setIfInBounds_toArray, List.set_cons_zero, List.set_cons_succ]
                    refine wpAnyH_ready (rs := [21]) (by kernel_rfl) (by simp) ?_
                    refine AllReadyH.cons (o := _) (by simp only [List.getElem?_toArray, List.getElem?_cons_succ, List.getElem?_cons_zero]; rfl) (fun K hK => ?_) AllReadyH.nil
                    go_simp
                    refine hK.out _ _ (HCB.out _ (setK6_below P71.out LX.out _ _ _ _ _ _)) (fun hHeld => ?_)
                    clear hK K
                    try simp only [Act.put, List.setIfInBounds_toArray, List.set_cons_zero, List.set_cons_succ]
                    refine wpAnyH_take (i := 22) (oi := _) (v := ?v91159) (by simp only [List.getElem?_toArray, List.getElem?_cons_succ, List.getElem?_cons_zero]; rfl) (by kernel_rfl) (by kernel_rfl) (by kernel_rfl) (by exact fun _ _ _ h => h) (Or.inl ⟨by rfl, ?hy91159⟩) (by assumption) ?rest91159
                    case hy91159 => (intro w hSw; (try dsimp only at hSw); go_simp; try with_reducible rfl)
                    try simp only [Act.put, List.setIfInBounds_toArray, List.set_cons_zero, List.set_cons_succ]
                    refine wpAnyH_take (i := 23) (oi := _) (v := ?v91160) (by simp only [List.getElem?_toArray, List.getElem?_cons_succ, List.getElem?_cons_zero]; rfl) (by kernel_rfl) (by kernel_rfl) (by kernel_rfl) (by exact fun _ _ _ h => h) (Or.inl ⟨by rfl, ?hy91160⟩) (by assumption) ?rest91160
                    case hy91160 => (intro w hSw; (try dsimp only at hSw); go_simp; try with_reducible rfl)
                    try simp only [Act.put, List.setIfInBounds_toArray, List.set_cons_zero, List.set_cons_succ]
                    refine wpAnyH_done (by kernel_rfl) ?_ _
                    go_wp2
                    go_meet
                    case rel => exact ⟨_, rfl, rfl, rfl, Lib.hid (gotT_at P71.out LX.out A71.out)⟩
                  · go_simp
                    obtain ⟨X73, hX73⟩ : ∃ X, X69.alloc (.cells #[.string ⟨#[]⟩, .string ⟨#[]⟩, .string ⟨#[]⟩, .string ⟨#[]⟩, .string ⟨#[]⟩, .string ⟨#[]⟩] 30) = X := ⟨_, rfl⟩
                    have hp73 := (P69.out).alloc (P69.out).size (.cells #[.string ⟨#[]⟩, .string ⟨#[]⟩, .string ⟨#[]⟩, .string ⟨#[]⟩, .string ⟨#[]⟩, .string ⟨#[]⟩] 30)
                    have hq73 := heap_alloc_last X69 (.cells #[.string ⟨#[]⟩, .string ⟨#[]⟩, .string ⟨#[]⟩, .string ⟨#[]⟩, .string ⟨#[]⟩, .string ⟨#[]⟩] 30)
                    rw [hX73] at hp73 hq73 ⊢
                    have P73 := Lib.hid hp73
                    have A73 := Lib.hid hq73
                    have LX := Lib.hid (P69.out).size
                    clear hX73 hp73 hq73
                    refine hK.out _ _ (HCB.out _ P73.out) (fun hHeld => ?_)
                    clear hK K
                    try simp only [Act.put, List.setIfInBounds_toArray, List.set_cons_zero, List.set_cons_succ]
                    refine wpAnyH_ready (rs := [15]) (by kernel_rfl) (by simp) ?_
                    refine AllReadyH.cons (o := _) (by simp only [List.getElem?_toArray, List.getElem?_cons_succ, List.getElem?_cons_zero]; rfl) (fun K hK => ?_) AllReadyH.nil
                    go_simp
                    go_at_call 8
                    (with_reducible refine (HC.out _ P73.out).mono ?_)
                    rintro e74 X74 ⟨rfl, hb74⟩
                    have P74 := Lib.hid ((P73.out).chain hb74)
                    have A74 := Lib.hid (blk_below A73.out hb74)
                    clear hb74
                    dsimp only
                    obtain ⟨⟨r0, r1, r2, r3, r4, r5⟩, f0, f1, f2, f3, f4, f5⟩ := cellsK6_of A74.out
                    refine hK.out _ _ (HCB.out _ P74.out) (fun hHeld => ?_)
                    clear hK K
                    try simp only [Act.put, List.setIfInBounds_toArray, List.set_cons_zero, List.set_cons_succ]
                    refine wpAnyH_take (i := 16) (oi := _) (v := ?v91163) (by simp only [List.getElem?_toArray, List.getElem?_cons_succ, List.getElem?_cons_zero]; rfl) (by kernel_rfl) (by kernel_rfl) (by kernel_rfl) (by exact fun _ _ _ h => h) (Or.inl ⟨by rfl, ?hy91163⟩) (by assumption) ?rest91163
                    case hy91163 => (intro w hSw; (try dsimp only at hSw); go_simp; try with_reducible rfl)
                    try simp only [Act.put, List.setIfInBounds_toArray, List.set_cons_zero, List.set_cons_succ]
                    refine wpAnyH_take (i := 17) (oi := _) (v := ?v91164) (by simp only [List.getElem?_toArray, List.getElem?_cons_succ, List.getElem?_cons_zero]; rfl) (by kernel_rfl) (by kernel_rfl) (by kernel_rfl) (by exact fun _ _ _ h => h) (Or.inl ⟨by rfl, ?hy91164⟩) (by assumption) ?rest91164
                    case hy91164 => (intro w hSw; (try dsimp only at hSw); go_simp; try with_reducible rfl)
                    try simp only [Act.put, List.setIfInBounds_toArray, List.set_cons_zero, List.set_cons_succ]
                    refine wpAnyH_take (i := 18) (oi := _) (v := ?v91165) (by simp only [List.getElem?_toArray, List.getElem?_cons_succ, List.getElem?_cons_zero]; rfl) (by kernel_rfl) (by kernel_rfl) (by kernel_rfl) (by exact fun _ _ _ h => h) (Or.inl ⟨by rfl, ?hy91165⟩) (by assumption) ?rest91165
                    case hy91165 => (intro w hSw; (try dsimp only at hSw); go_simp; try with_reducible rfl)
                    try simp only [Act.put, List.setIfInBounds_toArray, List.set_cons_zero, List.set_cons_succ]
                    refine wpAnyH_take (i := 19) (oi := _) (v := ?v91166) (by simp only [List.getElem?_toArray, List.getElem?_cons_succ, List.getElem?_cons_zero]; rfl) (by kernel_rfl) (by kernel_rfl) (by kernel_rfl) (by exact fun _ _ _ h => h) (Or.inl ⟨by rfl, ?hy91166⟩) (by assumption) ?rest91166
                    case hy91166 => (intro w hSw; (try dsimp only at hSw); go_simp; try with_reducible rfl)
                    try simp only [Act.put, List.setIfInBounds_toArray, List.set_cons_zero, List.set_cons_succ]
                    refine wpAnyH_ready (rs := [21]) (by kernel_rfl) (by simp) ?_
                    refine AllReadyH.cons (o := _) (by simp only [List.getElem?_toArray, List.getElem?_cons_succ, List.getElem?_cons_zero]; rfl) (fun K hK => ?_) AllReadyH.nil
                    go_simp
                    refine hK.out _ _ (HCB.out _ (setK6_below P74.out LX.out _ _ _ _ _ _)) (fun hHeld => ?_)
                    clear hK K
                    try simp only [Act.put, List.setIfInBounds_toArray, List.set_cons_zero, List.set_cons_succ]
                    refine wpAnyH_take (i := 22) (oi := _) (v := ?v91168) (by simp only [List.getElem?_toArray, List.getElem?_cons_succ, List.getElem?_cons_zero]; rfl) (by kernel_rfl) (by kernel_rfl) (by kernel_rfl) (by exact fun _ _ _ h => h) (Or.inl ⟨by rfl, ?hy91168⟩) (by assumption) ?rest91168
                    case hy91168 => (intro w hSw; (try dsimp only at hSw); go_simp; try with_reducible rfl)
                    try simp only [Act.put, List.setIfInBounds_toArray, List.set_cons_zero, List.set_cons_succ]
                    refine wpAnyH_take (i := 23) (oi := _) (v := ?v91169) (by simp only [List.getElem?_toArray, List.getElem?_cons_succ, List.getElem?_cons_zero]; rfl) (by kernel_rfl) (by kernel_rfl) (by kernel_rfl) (by exact fun _ _ _ h => h) (Or.inl ⟨by rfl, ?hy91169⟩) (by assumption) ?rest91169
                    case hy91169 => (intro w hSw; (try dsimp only at hSw); go_simp; try with_reducible rfl)
                    try simp only [Act.put, List.setIfInBounds_toArray, List.set_cons_zero, List.set_cons_succ]
                    refine wpAnyH_done (by kernel_rfl) ?_ _
                    go_wp2
                    go_meet
                    case rel => exact ⟨_, rfl, rfl, rfl, Lib.hid (gotT_at P74.out LX.out A74.out)⟩
                · go_simp
                  obtain ⟨X76, hX76⟩ : ∃ X, X68.alloc (.cells #[.string ⟨#[]⟩, .string ⟨#[]⟩, .string ⟨#[]⟩, .string ⟨#[]⟩, .string ⟨#[]⟩, .string ⟨#[]⟩] 30) = X := ⟨_, rfl⟩
                  have hp76 := (P68.out).alloc (P68.out).size (.cells #[.string ⟨#[]⟩, .string ⟨#[]⟩, .string ⟨#[]⟩, .string ⟨#[]⟩, .string ⟨#[]⟩, .string ⟨#[]⟩] 30)
                  have hq76 := heap_alloc_last X68 (.cells #[.string ⟨#[]⟩, .string ⟨#[]⟩, .string ⟨#[]⟩, .string ⟨#[]⟩, .string ⟨#[]⟩, .string ⟨#[]⟩] 30)
                  have ho76 := own_below O68.out ((Below.refl X68.heap.size X68).alloc (Nat.le_refl _) (.cells #[.string ⟨#[]⟩, .string ⟨#[]⟩, .string ⟨#[]⟩, .string ⟨#[]⟩, .string ⟨#[]⟩, .string ⟨#[]⟩] 30))
                  rw [hX76] at hp76 hq76 ho76 ⊢
                  have P76 := Lib.hid hp76
                  have O76 := Lib.hid ho76
                  have A76 := Lib.hid hq76
                  have LX := Lib.hid (P68.out).size
                  obtain ⟨A76z, c76z, ez76, hbz76⟩ := HBU.out _ _ (PRow.cut O76.out (by rw [HLL.out]) rfl)
                  cases ez76
                  have BU76 := Lib.hid hbz76
                  clear hbz76
                  clear hX76 hp76 hq76 ho76
                  refine hK.out _ _ (HCB.out _ P76.out) (fun hHeld => ?_)
                  clear hK K
                  try simp only [Act.put, List.setIfInBounds_toArray, List.set_cons_zero, List.set_cons_succ]
                  refine wpAnyH_ready (rs := [14]) (by kernel_rfl) (by simp) ?_
                  refine AllReadyH.cons (o := _) (by simp only [List.getElem?_toArray, List.getElem?_cons_succ, List.getElem?_cons_zero]; rfl) (fun K hK => ?_) AllReadyH.nil
                  go_simp
                  go_at_call 10
                  (with_reducible refine (BU76.out).mono ?_)
                  rintro e77 X77 ⟨rfl, hb77⟩
                  have P77 := Lib.hid ((P76.out).chain hb77)
                  have A77 := Lib.hid (blk_below A76.out hb77)
                  clear hb77
                  dsimp only
                  refine hK.out _ _ (HCB.out _ P77.out) (fun hHeld => ?_)
                  clear hK K
                  try simp only [Act.put, List.setIfInBounds_toArray, List.set_cons_zero, List.set_cons_succ]
                  refine wpAnyH_ready (rs := [15]) (by kernel_rfl) (by simp) ?_
                  refine AllReadyH.cons (o := _) (by simp only [List.getElem?_toArray, List.getElem?_cons_succ, List.getElem?_cons_zero]; rfl) (fun K hK => ?_) AllReadyH.nil
                  go_simp
                  go_at_call 8
                  (with_reducible refine (HC.out _ P77.out).mono ?_)
                  rintro e78 X78 ⟨rfl, hb78⟩
                  have P78 := Lib.hid ((P77.out).chain hb78)
                  have A78 := Lib.hid (blk_below A77.out hb78)
                  clear hb78
                  dsimp only
                  obtain ⟨⟨r0, r1, r2, r3, r4, r5⟩, f0, f1, f2, f3, f4, f5⟩ := cellsK6_of A78.out
                  refine hK.out _ _ (HCB.out _ P78.out) (fun hHeld => ?_)
                  clear hK K
                  try simp only [Act.put, List.setIfInBounds_toArray, List.set_cons_zero, List.set_cons_succ]
                  refine wpAnyH_take (i := 16) (oi := _) (v := ?v91173) (by simp only [List.getElem?_toArray, List.getElem?_cons_succ, List.getElem?_cons_zero]; rfl) (by kernel_rfl) (by kernel_rfl) (by kernel_rfl) (by exact fun _ _ _ h => h) (Or.inl ⟨by rfl, ?hy91173⟩) (by assumption) ?rest91173
                  case hy91173 => (intro w hSw; (try dsimp only at hSw); go_simp; try with_reducible rfl)
                  try simp only [Act.put, List.setIfInBounds_toArray, List.set_cons_zero, List.set_cons_succ]
                  refine wpAnyH_take (i := 17) (oi := _) (v := ?v91174) (by simp only [List.getElem?_toArray, List.getElem?_cons_succ, List.getElem?_cons_zero]; rfl) (by kernel_rfl) (by kernel_rfl) (by kernel_rfl) (by exact fun _ _ _ h => h) (Or.inl ⟨by rfl, ?hy91174⟩) (by assumption) ?rest91174
                  case hy91174 => (intro w hSw; (try dsimp only at hSw); go_simp; try with_reducible rfl)
                  try simp only [Act.put, List.setIfInBounds_toArray, List.set_cons_zero, List.set_cons_succ]
                  refine wpAnyH_take (i := 18) (oi := _) (v := ?v91175) (by simp only [List.getElem?_toArray, List.getElem?_cons_succ, List.getElem?_cons_zero]; rfl) (by kernel_rfl) (by kernel_rfl) (by kernel_rfl) (by exact fun _ _ _ h => h) (Or.inl ⟨by rfl, ?hy91175⟩) (by assumption) ?rest91175
                  case hy91175 => (intro w hSw; (try dsimp only at hSw); go_simp; try with_reducible rfl)
                  try simp only [Act.put, List.setIfInBounds_toArray, List.set_cons_zero, List.set_cons_succ]
                  refine wpAnyH_take (i := 19) (oi := _) (v := ?v91176) (by simp only [List.getElem?_toArray, List.getElem?_cons_succ, List.getElem?_cons_zero]; rfl) (by kernel_rfl) (by kernel_rfl) (by kernel_rfl) (by exact fun _ _ _ h => h) (Or.inl ⟨by rfl, ?hy91176⟩) (by assumption) ?rest91176
                  case hy91176 => (intro w hSw; (try dsimp only at hSw); go_simp; try with_reducible rfl)
                  try simp only [Act.put, List.setIfInBounds_toArray, List.set_cons_zero, List.set_cons_succ]
                  refine wpAnyH_ready (rs := [21]) (by kernel_rfl) (by simp) ?_
                  refine AllReadyH.cons (o := _) (by simp only [List.getElem?_toArray, List.getElem?_cons_succ, List.getElem?_cons_zero]; rfl) (fun K hK => ?_) AllReadyH.nil
                  go_simp
                  refine hK.out _ _ (HCB.out _ (setK6_below P78.out LX.out _ _ _ _ _ _)) (fun hHeld => ?_)
                  clear hK K
                  try simp only [Act.put, List.setIfInBounds_toArray, List.set_cons_zero, List.set_cons_succ]
                  refine wpAnyH_take (i := 22) (oi := _) (v := ?v91178) (by simp only [List.getElem?_toArray, List.getElem?_cons_succ, List.getElem?_cons_zero]; rfl) (by kernel_rfl) (by kernel_rfl) (by kernel_rfl) (by exact fun _ _ _ h => h) (Or.inl ⟨by rfl, ?hy91178⟩) (by assumption) ?rest91178
                  case hy91178 => (intro w hSw; (try dsimp only at hSw); go_simp; try with_reducible rfl)
                  try simp only [Act.put, List.setIfInBounds_toArray, List.set_cons_zero, List.set_cons_succ]
                  refine wpAnyH_take (i := 23) (oi := _) (v := ?v91179) (by simp only [List.getElem?_toArray, List.getElem?_cons_succ, List.getElem?_cons_zero]; rfl) (by kernel_rfl) (by kernel_rfl) (by kernel_rfl) (by exact fun _ _ _ h => h) (Or.inl ⟨by rfl, ?hy91179⟩) (by assumption) ?rest91179
                  case hy91179 => (intro w hSw; (try dsimp only at hSw); go_simp; try with_reducible rfl)
                  try simp only [Act.put, List.setIfInBounds_toArray, List.set_cons_zero, List.set_cons_succ]
                  refine wpAnyH_done (by kernel_rfl) ?_ _
                  go_wp2
                  go_meet
                  case rel => exact ⟨_, rfl, rfl, rfl, Lib.hid (gotT_at P78.out LX.out A78.out)⟩
              · go_simp
                obtain ⟨X80, hX80⟩ : ∃ X, X67.alloc (.cells #[.string ⟨#[]⟩, .string ⟨#[]⟩, .string ⟨#[]⟩, .string ⟨#[]⟩, .string ⟨#[]⟩, .string ⟨#[]⟩] 30) = X := ⟨_, rfl⟩
                have hp80 := (P67.out).alloc (P67.out).size (.cells #[.string ⟨#[]⟩, .string ⟨#[]⟩, .string ⟨#[]⟩, .string ⟨#[]⟩, .string ⟨#[]⟩, .string ⟨#[]⟩] 30)
                have hq80 := heap_alloc_last X67 (.cells #[.string ⟨#[]⟩, .string ⟨#[]⟩, .string ⟨#[]⟩, .string ⟨#[]⟩, .string ⟨#[]⟩, .string ⟨#[]⟩] 30)
                have ho80 := own_below O67.out ((Below.refl X67.heap.size X67).alloc (Nat.le_refl _) (.cells #[.string ⟨#[]⟩, .string ⟨#[]⟩, .string ⟨#[]⟩, .string ⟨#[]⟩, .string ⟨#[]⟩, .string ⟨#[]⟩] 30))
                have hr80 := alloc_block (x := .cells #[.string ⟨#[]⟩, .string ⟨#[]⟩, .string ⟨#[]⟩, .string ⟨#[]⟩, .string ⟨#[]⟩, .string ⟨#[]⟩] 30) R67.out
                rw [hX80] at hp80 hq80 ho80 hr80 ⊢
                have P80 := Lib.hid hp80
                have O80 := Lib.hid ho80
                have R80 := Lib.hid hr80
                have A80 := Lib.hid hq80
                have LX := Lib.hid (P67.out).size
                clear hX80 hp80 hq80 ho80 hr80
                refine hK.out _ _ (HCB.out _ P80.out) (fun hHeld => ?_)
                clear hK K
                try simp only [Act.put, List.setIfInBounds_toArray, List.set_cons_zero, List.set_cons_succ]
                refine wpAnyH_ready (rs := [13]) (by kernel_rfl) (by simp) ?_
                refine AllReadyH.cons (o := _) (by simp only [List.getElem?_toArray, List.getElem?_cons_succ, List.getElem?_cons_zero]; rfl) (fun K hK => ?_) AllReadyH.nil
                refine step_append_opt rfl (.tmp 51) (.tmp 60) 37 rfl wr.heap.size 39 i0 _ 2 32 Tryd.underlying37 HII.out.1 HII.out.2.1 HII.out.2.2.1 HII.out.2.2.2 rfl (by decide) (.slice A67w j c67w) j (pcells l) rfl O80.out (some ⟨wd.heap.size, 0, none⟩) 1 1 [.string K0, .string V0] rfl rfl (.inr ⟨_, rfl, two_at R80.out⟩) (by simp [Value.oneCell']) (by unfold maxLen; omega) (by omega) P80.out.size ?_
                intro v81 X81 hw81 hg81 ht81
                rw [HPLL.out] at hw81
                obtain ⟨A81w, c81w, rfl, hbu81⟩ := HBU.out _ _ (PRow.cut hw81 (by rw [HLL.out]) rfl)
                have BU81 := Lib.hid hbu81
                clear hbu81
                have P81 := Lib.hid ((P80.out).grown hg81 P80.out.size (fun k hk => (O80.out.lt k hk).1))
                have O81 := Lib.hid hw81
                have A81 := Lib.hid (grown_block hg81 A80.out (own_not O80.out A80.out (by decide)))
                clear hg81 ht81 hw81
                refine hK.out _ _ (HCB.out _ P81.out) (fun hHeld => ?_)
                clear hK K
                try simp only [Act.put, List.setIfInBounds_toArray, List.set_cons_zero, List.set_cons_succ]
                refine wpAnyH_ready (rs := [14]) (by kernel_rfl) (by simp) ?_
                refine AllReadyH.cons (o := _) (by simp only [List.getElem?_toArray, List.getElem?_cons_succ, List.getElem?_cons_zero]; rfl) (fun K hK => ?_) AllReadyH.nil
                go_simp
                go_at_call 10
                (with_reducible refine (BU81.out).mono ?_)
                rintro e82 X82 ⟨rfl, hb82⟩
                have P82 := Lib.hid ((P81.out).chain hb82)
                have A82 := Lib.hid (blk_below A81.out hb82)
                clear hb82
                dsimp only
                refine hK.out _ _ (HCB.out _ P82.out) (fun hHeld => ?_)
                clear hK K
                try simp only [Act.put, List.setIfInBounds_toArray, List.set_cons_zero, List.set_cons_succ]
                refine wpAnyH_ready (rs := [15]) (by kernel_rfl) (by simp) ?_
                refine AllReadyH.cons (o := _) (by simp only [List.getElem?_toArray, List.getElem?_cons_succ, List.getElem?_cons_zero]; rfl) (fun K hK => ?_) AllReadyH.nil
                go_simp
                go_at_call 8
                (with_reducible refine (HC.out _ P82.out).mono ?_)
                rintro e83 X83 ⟨rfl, hb83⟩
                have P83 := Lib.hid ((P82.out).chain hb83)
                have A83 := Lib.hid (blk_below A82.out hb83)
                clear hb83
                dsimp only
                obtain ⟨⟨r0, r1, r2, r3, r4, r5⟩, f0, f1, f2, f3, f4, f5⟩ := cellsK6_of A83.out
                refine hK.out _ _ (HCB.out _ P83.out) (fun hHeld => ?_)
                clear hK K
                try simp only [Act.put, List.setIfInBounds_toArray, List.set_cons_zero, List.set_cons_succ]
                refine wpAnyH_take (i := 16) (oi := _) (v := ?v91184) (by simp only [List.getElem?_toArray, List.getElem?_cons_succ, List.getElem?_cons_zero]; rfl) (by kernel_rfl) (by kernel_rfl) (by kernel_rfl) (by exact fun _ _ _ h => h) (Or.inl ⟨by rfl, ?hy91184⟩) (by assumption) ?rest91184
                case hy91184 => (intro w hSw; (try dsimp only at hSw); go_simp; try with_reducible rfl)
                try simp only [Act.put, List.setIfInBounds_toArray, List.set_cons_zero, List.set_cons_succ]
                refine wpAnyH_take (i := 17) (oi := _) (v := ?v91185) (by simp only [List.getElem?_toArray, List.getElem?_cons_succ, List.getElem?_cons_zero]; rfl) (by kernel_rfl) (by kernel_rfl) (by kernel_rfl) (by exact fun _ _ _ h => h) (Or.inl ⟨by rfl, ?hy91185⟩) (by assumption) ?rest91185
                case hy91185 => (intro w hSw; (try dsimp only at hSw); go_simp; try with_reducible rfl)
                try simp only [Act.put, List.setIfInBounds_toArray, List.set_cons_zero, List.set_cons_succ]
                refine wpAnyH_take (i := 18) (oi := _) (v := ?v91186) (by simp only [List.getElem?_toArray, List.getElem?_cons_succ, List.getElem?_cons_zero]; rfl) (by kernel_rfl) (by kernel_rfl) (by kernel_rfl) (by exact fun _ _ _ h => h) (Or.inl ⟨by rfl, ?hy91186⟩) (by assumption) ?rest91186
                case hy91186 => (intro w hSw; (try dsimp only at hSw); go_simp; try with_reducible rfl)
                try simp only [Act.put, List.setIfInBounds_toArray, List.set_cons_zero, List.set_cons_succ]
                refine wpAnyH_take (i := 19) (oi := _) (v := ?v91187) (by simp only [List.getElem?_toArray, List.getElem?_cons_succ, List.getElem?_cons_zero]; rfl) (by kernel_rfl) (by kernel_rfl) (by kernel_rfl) (by exact fun _ _ _ h => h) (Or.inl ⟨by rfl, ?hy91187⟩) (by assumption) ?rest91187
                case hy91187 => (intro w hSw; (try dsimp only at hSw); go_simp; try with_reducible rfl)
                try simp only [Act.put, List.setIfInBounds_toArray, List.set_cons_zero, List.set_cons_succ]
                refine wpAnyH_ready (rs := [21]) (by kernel_rfl) (by simp) ?_
                refine AllReadyH.cons (o := _) (by simp only [List.getElem?_toArray, List.getElem?_cons_succ, List.getElem?_cons_zero]; rfl) (fun K hK => ?_) AllReadyH.nil
                go_simp
                refine hK.out _ _ (HCB.out _ (setK6_below P83.out LX.out _ _ _ _ _ _)) (fun hHeld => ?_)
                clear hK K
                try simp only [Act.put, List.setIfInBounds_toArray, List.set_cons_zero, List.set_cons_succ]
                refine wpAnyH_take (i := 22) (oi := _) (v := ?v91189) (by simp only [List.getElem?_toArray, List.getElem?_cons_succ, List.getElem?_cons_zero]; rfl) (by kernel_rfl) (by kernel_rfl) (by kernel_rfl) (by exact fun _ _ _ h => h) (Or.inl ⟨by rfl, ?hy91189⟩) (by assumption) ?rest91189
                case hy91189 => (intro w hSw; (try dsimp only at hSw); go_simp; try with_reducible rfl)
                try simp only [Act.put, List.setIfInBounds_toArray, List.set_cons_zero, List.set_cons_succ]
                refine wpAnyH_take (i := 23) (oi := _) (v := ?v91190) (by simp only [List.getElem?_toArray, List.getElem?_cons_succ, List.getElem?_cons_zero]; rfl) (by kernel_rfl) (by kernel_rfl) (by kernel_rfl) (by exact fun _ _ _ h => h) (Or.inl ⟨by rfl, ?hy91190⟩) (by assumption) ?rest91190
                case hy91190 => (intro w hSw; (try dsimp only at hSw); go_simp; try with_reducible rfl)
                try simp only [Act.put, List.setIfInBounds_toArray, List.set_cons_zero, List.set_cons_succ]
                refine wpAnyH_done (by kernel_rfl) ?_ _
                go_wp2
                go_meet
                case rel => exact ⟨_, rfl, rfl, rfl, Lib.hid (gotT_at P83.out LX.out A83.out)⟩
            · go_simp
              obtain ⟨X85, hX85⟩ : ∃ X, X66.alloc (.cells #[.string ⟨#[]⟩, .string ⟨#[]⟩, .string ⟨#[]⟩, .string ⟨#[]⟩, .string ⟨#[]⟩, .string ⟨#[]⟩] 30) = X := ⟨_, rfl⟩
              have hp85 := (P66.out).alloc (P66.out).size (.cells #[.string ⟨#[]⟩, .string ⟨#[]⟩, .string ⟨#[]⟩, .string ⟨#[]⟩, .string ⟨#[]⟩, .string ⟨#[]⟩] 30)
              have hq85 := heap_alloc_last X66 (.cells #[.string ⟨#[]⟩, .string ⟨#[]⟩, .string ⟨#[]⟩, .string ⟨#[]⟩, .string ⟨#[]⟩, .string ⟨#[]⟩] 30)
              have ho85 := own_below O66.out ((Below.refl X66.heap.size X66).alloc (Nat.le_refl _) (.cells #[.string ⟨#[]⟩, .string ⟨#[]⟩, .string ⟨#[]⟩, .string ⟨#[]⟩, .string ⟨#[]⟩, .string ⟨#[]⟩] 30))
              have hr85 := alloc_block (x := .cells #[.string ⟨#[]⟩, .string ⟨#[]⟩, .string ⟨#[]⟩, .string ⟨#[]⟩, .string ⟨#[]⟩, .string ⟨#[]⟩] 30) R66.out
              rw [hX85] at hp85 hq85 ho85 hr85 ⊢
              have P85 := Lib.hid hp85
              have O85 := Lib.hid ho85
              have R85 := Lib.hid hr85
              have A85 := Lib.hid hq85
              have LX := Lib.hid (P66.out).size
              clear hX85 hp85 hq85 ho85 hr85
              refine hK.out _ _ (HCB.out _ P85.out) (fun hHeld => ?_)
              clear hK K
              try simp only [Act.put, List.setIfInBounds_toArray, List.set_cons_zero, List.set_cons_succ]
              refine wpAnyH_ready (rs := [3]) (by kernel_rfl) (by simp) ?_
              refine AllReadyH.cons (o := _) (by simp only [List.getElem?_toArray, List.getElem?_cons_succ, List.getElem?_cons_zero]; rfl) (fun K hK => ?_) AllReadyH.nil
              refine step_append_opt rfl (.tmp 49) (.tmp 50) 37 rfl wr.heap.size 39 i0 _ 2 32 Tryd.underlying37 HII.out.1 HII.out.2.1 HII.out.2.2.1 HII.out.2.2.2 rfl (by decide) (.slice (some ⟨X65.heap.size, 0, none⟩) 0 0) 0 [] rfl O85.out (some ad) j cl (pcells l) rfl HP2.out (.inr ⟨_, rfl, HPC.out _ P85.out⟩) (pcells_allone l) (by unfold maxLen; omega) (by omega) P85.out.size ?_
              intro v86 X86 hw86 hg86 ht86
              simp only [Nat.zero_add, List.nil_append] at hw86
              obtain ⟨A86w, c86w, rfl⟩ := own_form hw86
              have P86 := Lib.hid ((P85.out).grown hg86 P85.out.size (fun k hk => (O85.out.lt k hk).1))
              have O86 := Lib.hid hw86
              have R86 := Lib.hid (grown_block hg86 R85.out NE66.out)
              have NE86 := Lib.hid (show (Value.ownBlock (.slice A86w j c86w)) ≠ some (wd.heap.size) from fun e => by
                rcases ht86 with h | h
                · rw [h] at e; exact NE66.out e
                · rw [h] at e; injection e with e; have e : X85.heap.size = wd.heap.size := e; have := (Array.getElem?_eq_some_iff.1 R85.out).1; omega)
              have A86 := Lib.hid (grown_block hg86 A85.out (own_not O85.out A85.out (by decide)))
              clear hg86 ht86 hw86
              refine hK.out _ _ (HCB.out _ P86.out) (fun hHeld => ?_)
              clear hK K
              try simp only [Act.put, List.setIfInBounds_toArray, List.set_cons_zero, List.set_cons_succ]
              refine wpAnyH_ready (rs := [13]) (by kernel_rfl) (by simp) ?_
              refine AllReadyH.cons (o := _) (by simp only [List.getElem?_toArray, List.getElem?_cons_succ, List.getElem?_cons_zero]; rfl) (fun K hK => ?_) AllReadyH.nil
              refine step_append_opt rfl (.tmp 51) (.tmp 60) 37 rfl wr.heap.size 39 i0 _ 2 32 Tryd.underlying37 HII.out.1 HII.out.2.1 HII.out.2.2.1 HII.out.2.2.2 rfl (by decide) (.slice A86w j c86w) j (pcells l) rfl O86.out (some ⟨wd.heap.size, 0, none⟩) 1 1 [.string K0, .string V0] rfl rfl (.inr ⟨_, rfl, two_at R86.out⟩) (by simp [Value.oneCell']) (by unfold maxLen; omega) (by omega) P86.out.size ?_
              intro v87 X87 hw87 hg87 ht87
              rw [HPLL.out] at hw87
              obtain ⟨A87w, c87w, rfl, hbu87⟩ := HBU.out _ _ (PRow.cut hw87 (by rw [HLL.out]) rfl)
              have BU87 := Lib.hid hbu87
              clear hbu87
              have P87 := Lib.hid ((P86.out).grown hg87 P86.out.size (fun k hk => (O86.out.lt k hk).1))
              have O87 := Lib.hid hw87
              have A87 := Lib.hid (grown_block hg87 A86.out (own_not O86.out A86.out (by decide)))
              clear hg87 ht87 hw87
              refine hK.out _ _ (HCB.out _ P87.out) (fun hHeld => ?_)
              clear hK K
              try simp only [Act.put, List.setIfInBounds_toArray, List.set_cons_zero, List.set_cons_succ]
              refine wpAnyH_ready (rs := [14]) (by kernel_rfl) (by simp) ?_
              refine AllReadyH.cons (o := _) (by simp only [List.getElem?_toArray, List.getElem?_cons_succ, List.getElem?_cons_zero]; rfl) (fun K hK => ?_) AllReadyH.nil
              go_simp
              go_at_call 10
              (with_reducible refine (BU87.out).mono ?_)
              rintro e88 X88 ⟨rfl, hb88⟩
              have P88 := Lib.hid ((P87.out).chain hb88)
              have A88 := Lib.hid (blk_below A87.out hb88)
              clear hb88
              dsimp only
              refine hK.out _ _ (HCB.out _ P88.out) (fun hHeld => ?_)
              clear hK K
              try simp only [Act.put, List.setIfInBounds_toArray, List.set_cons_zero, List.set_cons_succ]
              refine wpAnyH_ready (rs := [15]) (by kernel_rfl) (by simp) ?_
              refine AllReadyH.cons (o := _) (by simp only [List.getElem?_toArray, List.getElem?_cons_succ, List.getElem?_cons_zero]; rfl) (fun K hK => ?_) AllReadyH.nil
              go_simp
              go_at_call 8
              (with_reducible refine (HC.out _ P88.out).mono ?_)
              rintro e89 X89 ⟨rfl, hb89⟩
              have P89 := Lib.hid ((P88.out).chain hb89)
              have A89 := Lib.hid (blk_below A88.out hb89)
              clear hb89
              dsimp only
              obtain ⟨⟨r0, r1, r2, r3, r4, r5⟩, f0, f1, f2, f3, f4, f5⟩ := cellsK6_of A89.out
              refine hK.out _ _ (HCB.out _ P89.out) (fun hHeld => ?_)
              clear hK K
              try simp only [Act.put, List.setIfInBounds_toArray, List.set_cons_zero, List.set_cons_succ]
              refine wpAnyH_take (i := 16) (oi := _) (v := ?v91196) (by simp only [List.getElem?_toArray, List.getElem?_cons_succ, List.getElem?_cons_zero]; rfl) (by kernel_rfl) (by kernel_rfl) (by kernel_rfl) (by exact fun _ _ _ h => h) (Or.inl ⟨by rfl, ?hy91196⟩) (by assumption) ?rest91196
              case hy91196 => (intro w hSw; (try dsimp only at hSw); go_simp; try with_reducible rfl)
              try simp only [Act.put, List.setIfInBounds_toArray, List.set_cons_zero, List.set_cons_succ]
              refine wpAnyH_take (i := 17) (oi := _) (v := ?v91197) (by simp only [List.getElem?_toArray, List.getElem?_cons_succ, List.getElem?_cons_zero]; rfl) (by kernel_rfl) (by kernel_rfl) (by kernel_rfl) (by exact fun _ _ _ h => h) (Or.inl ⟨by rfl, ?hy91197⟩) (by assumption) ?rest91197
              case hy91197 => (intro w hSw; (try dsimp only at hSw); go_simp; try with_reducible rfl)
              try simp only [Act.put, List.setIfInBounds_toArray, List.set_cons_zero, List.set_cons_succ]
              refine wpAnyH_take (i := 18) (oi := _) (v := ?v91198) (by simp only [List.getElem?_toArray, List.getElem?_cons_succ, List.getElem?_cons_zero]; rfl) (by kernel_rfl) (by kernel_rfl) (by kernel_rfl) (by exact fun _ _ _ h => h) (Or.inl ⟨by rfl, ?hy91198⟩) (by assumption) ?rest91198
              case hy91198 => (intro w hSw; (try dsimp only at hSw); go_simp; try with_reducible rfl)
              try simp only [Act.put, List.setIfInBounds_toArray, List.set_cons_zero, List.set_cons_succ]
              refine wpAnyH_take (i := 19) (oi := _) (v := ?v91199) (by simp only [List.getElem?_toArray, List.getElem?_cons_succ, List.getElem?_cons_zero]; rfl) (by kernel_rfl) (by kernel_rfl) (by kernel_rfl) (by exact fun _ _ _ h => h) (Or.inl ⟨by rfl, ?hy91199⟩) (by assumption) ?rest91199
              case hy91199 => (intro w hSw; (try dsimp only at hSw); go_simp; try with_reducible rfl)
              try simp only [Act.put, List.setIfInBounds_toArray, List.set_cons_zero, List.set_cons_succ]
              refine wpAnyH_ready (rs := [21]) (by kernel_rfl) (by simp) ?_
              refine AllReadyH.cons (o := _) (by simp only [List.getElem?_toArray, List.getElem?_cons_succ, List.getElem?_cons_zero]; rfl) (fun K hK => ?_) AllReadyH.nil
              go_simp
              refine hK.out _ _ (HCB.out _ (setK6_below P89.out LX.out _ _ _ _ _ _)) (fun hHeld => ?_)
              clear hK K
              try simp only [Act.put, List.setIfInBounds_toArray, List.set_cons_zero, List.set_cons_succ]
              refine wpAnyH_take (i := 22) (oi := _) (v := ?v91201) (by simp only [List.getElem?_toArray, List.getElem?_cons_succ, List.getElem?_cons_zero]; rfl) (by kernel_rfl) (by kernel_rfl) (by kernel_rfl) (by exact fun _ _ _ h => h) (Or.inl ⟨by rfl, ?hy91201⟩) (by assumption) ?rest91201
              case hy91201 => (intro w hSw; (try dsimp only at hSw); go_simp; try with_reducible rfl)
              try simp only [Act.put, List.setIfInBounds_toArray, List.set_cons_zero, List.set_cons_succ]
              refine wpAnyH_take (i := 23) (oi := _) (v := ?v91202) (by simp only [List.getElem?_toArray, List.getElem?_cons_succ, List.getElem?_cons_zero]; rfl) (by kernel_rfl) (by kernel_rfl) (by kernel_rfl) (by exact fun _ _ _ h => h) (Or.inl ⟨by rfl, ?hy91202⟩) (by assumption) ?rest91202
              case hy91202 => (intro w hSw; (try dsimp only at hSw); go_simp; try with_reducible rfl)
              try simp only [Act.put, List.setIfInBounds_toArray, List.set_cons_zero, List.set_cons_succ]
              refine wpAnyH_done (by kernel_rfl) ?_ _
              go_wp2
              go_meet
              case rel => exact ⟨_, rfl, rfl, rfl, Lib.hid (gotT_at P89.out LX.out A89.out)⟩
          · go_simp
            obtain ⟨X91, hX91⟩ : ∃ X, X65.alloc (.cells #[.string ⟨#[]⟩, .string ⟨#[]⟩, .string ⟨#[]⟩, .string ⟨#[]⟩, .string ⟨#[]⟩, .string ⟨#[]⟩] 30) = X := ⟨_, rfl⟩
            have hp91 := (P65.out).alloc (P65.out).size (.cells #[.string ⟨#[]⟩, .string ⟨#[]⟩, .string ⟨#[]⟩, .string ⟨#[]⟩, .string ⟨#[]⟩, .string ⟨#[]⟩] 30)
            have hq91 := heap_alloc_last X65 (.cells #[.string ⟨#[]⟩, .string ⟨#[]⟩, .string ⟨#[]⟩, .string ⟨#[]⟩, .string ⟨#[]⟩, .string ⟨#[]⟩] 30)
            have hr91 := alloc_block (x := .cells #[.string ⟨#[]⟩, .string ⟨#[]⟩, .string ⟨#[]⟩, .string ⟨#[]⟩, .string ⟨#[]⟩, .string ⟨#[]⟩] 30) R65.out
            rw [hX91] at hp91 hq91 hr91 ⊢
            have P91 := Lib.hid hp91
            have R91 := Lib.hid hr91
            have A91 := Lib.hid hq91
            have LX := Lib.hid (P65.out).size
            clear hX91 hp91 hq91 hr91
            refine hK.out _ _ (HCB.out _ P91.out) (fun hHeld => ?_)
            clear hK K
            try simp only [Act.put, List.setIfInBounds_toArray, List.set_cons_zero, List.set_cons_succ]
            refine wpAnyH_ready (rs := [1]) (by kernel_rfl) (by simp) ?_
            refine AllReadyH.cons (o := _) (by simp only [List.getElem?_toArray, List.getElem?_cons_succ, List.getElem?_cons_zero]; rfl) (fun K hK => ?_) AllReadyH.nil
            go_simp
            obtain ⟨X92, hX92⟩ : ∃ X, X91.alloc (.cells #[] 39) = X := ⟨_, rfl⟩
            have hp92 := (P91.out).alloc (P91.out).size (.cells #[] 39)
            have hq92 := heap_alloc_last X91 (.cells #[] 39)
            have hr92 := alloc_block (x := .cells #[] 39) R91.out
            have ha92 := alloc_block (x := .cells #[] 39) A91.out
            have hw92 := own_fresh X91 wr.heap.size 39 2 P91.out.size
            rw [hX92] at hp92 hq92 hr92 ha92 hw92 ⊢
            have P92 := Lib.hid hp92
            have R92 := Lib.hid hr92
            have A92 := Lib.hid ha92
            have O92 := Lib.hid hw92
            have NE92 := Lib.hid (show (Value.slice (some ⟨X91.heap.size, 0, none⟩) 0 0).ownBlock ≠ some wd.heap.size from fun e => by injection e with e; have e : X91.heap.size = wd.heap.size := e; have := (Array.getElem?_eq_some_iff.1 R91.out).1; omega)
            clear hX92 hp92 hq92 hr92 ha92 hw92
            refine hK.out _ _ (HCB.out _ P92.out) (fun hHeld => ?_)
            clear hK K
            try simp only [Act.put, List.setIfInBounds_toArray, List.set_cons_zero, List.set_cons_succ]
            refine wpAnyH_ready (rs := [3]) (by kernel_rfl) (by simp) ?_
            refine AllReadyH.cons (o := _) (by simp only [List.getElem?_toArray, List.getElem?_cons_succ, List.getElem?_cons_zero]; rfl) (fun K hK => ?_) AllReadyH.nil
            refine step_append_opt rfl (.tmp 49) (.tmp 50) 37 rfl wr.heap.size 39 i0 _ 2 32 Tryd.underlying37 HII.out.1 HII.out.2.1 HII.out.2.2.1 HII.out.2.2.2 rfl (by decide) (.slice (some ⟨X91.heap.size, 0, none⟩) 0 0) 0 [] rfl O92.out (some ad) j cl (pcells l) rfl HP2.out (.inr ⟨_, rfl, HPC.out _ P92.out⟩) (pcells_allone l) (by unfold maxLen; omega) (by omega) P92.out.size ?_
            intro v93 X93 hw93 hg93 ht93
            simp only [Nat.zero_add, List.nil_append] at hw93
            obtain ⟨A93w, c93w, rfl⟩ := own_form hw93
            have P93 := Lib.hid ((P92.out).grown hg93 P92.out.size (fun k hk => (O92.out.lt k hk).1))
            have O93 := Lib.hid hw93
            have R93 := Lib.hid (grown_block hg93 R92.out NE92.out)
            have NE93 := Lib.hid (show (Value.ownBlock (.slice A93w j c93w)) ≠ some (wd.heap.size) from fun e => by
              rcases ht93 with h | h
              · rw [h] at e; exact NE92.out e
              · rw [h] at e; injection e with e; have e : X92.heap.size = wd.heap.size := e; have := (Array.getElem?_eq_some_iff.1 R92.out).1; omega)
            have A93 := Lib.hid (grown_block hg93 A92.out (own_not O92.out A92.out (by decide)))
            clear hg93 ht93 hw93
            refine hK.out _ _ (HCB.out _ P93.out) (fun hHeld => ?_)
            clear hK K
            try simp only [Act.put, List.setIfInBounds_toArray, List.set_cons_zero, List.set_cons_succ]
            refine wpAnyH_ready (rs := [13]) (by kernel_rfl) (by simp) ?_
            refine AllReadyH.cons (o := _) (by simp only [List.getElem?_toArray, List.getElem?_cons_succ, List.getElem?_cons_zero]; rfl) (fun K hK => ?_) AllReadyH.nil
            refine step_append_opt rfl (.tmp 51) (.tmp 60) 37 rfl wr.heap.size 39 i0 _ 2 32 Tryd.underlying37 HII.out.1 HII.out.2.1 HII.out.2.2.1 HII.out.2.2.2 rfl (by decide) (.slice A93w j c93w) j (pcells l) rfl O93.out (some ⟨wd.heap.size, 0, none⟩) 1 1 [.string K0, .string V0] rfl rfl (.inr ⟨_, rfl, two_at R93.out⟩) (by simp [Value.oneCell']) (by unfold maxLen; omega) (by omega) P93.out.size ?_
            intro v94 X94 hw94 hg94 ht94
            rw [HPLL.out] at hw94
            obtain ⟨A94w, c94w, rfl, hbu94⟩ := HBU.out _ _ (PRow.cut hw94 (by rw [HLL.out]) rfl)
            have BU94 := Lib.hid hbu94
            clear hbu94
            have P94 := Lib.hid ((P93.out).grown hg94 P93.out.size (fun k hk => (O93.out.lt k hk).1))
            have O94 := Lib.hid hw94
            have A94 := Lib.hid (grown_block hg94 A93.out (own_not O93.out A93.out (by decide)))
            clear hg94 ht94 hw94
            refine hK.out _ _ (HCB.out _ P94.out) (fun hHeld => ?_)
            clear hK K
            try simp only [Act.put, List.setIfInBounds_toArray, List.set_cons_zero, List.set_cons_succ]
            refine wpAnyH_ready (rs := [14]) (by kernel_rfl) (by simp) ?_
            refine AllReadyH.cons (o := _) (by simp only [List.getElem?_toArray, List.getElem?_cons_succ, List.getElem?_cons_zero]; rfl) (fun K hK => ?_) AllReadyH.nil
            go_simp
            go_at_call 10
            (with_reducible refine (BU94.out).mono ?_)
            rintro e95 X95 ⟨rfl, hb95⟩
            have P95 := Lib.hid ((P94.out).chain hb95)
            have A95 := Lib.hid (blk_below A94.out hb95)
            clear hb95
            dsimp only
            refine hK.out _ _ (HCB.out _ P95.out) (fun hHeld => ?_)
            clear hK K
            try simp only [Act.put, List.setIfInBounds_toArray, List.set_cons_zero, List.set_cons_succ]
            refine wpAnyH_ready (rs := [15]) (by kernel_rfl) (by simp) ?_
            refine AllReadyH.cons (o := _) (by simp only [List.getElem?_toArray, List.getElem?_cons_succ, List.getElem?_cons_zero]; rfl) (fun K hK => ?_) AllReadyH.nil
            go_simp
            go_at_call 8
            (with_reducible refine (HC.out _ P95.out).mono ?_)
            rintro e96 X96 ⟨rfl, hb96⟩
            have P96 := Lib.hid ((P95.out).chain hb96)
            have A96 := Lib.hid (blk_below A95.out hb96)
            clear hb96
            dsimp only
            obtain ⟨⟨r0, r1, r2, r3, r4, r5⟩, f0, f1, f2, f3, f4, f5⟩ := cellsK6_of A96.out
            refine hK.out _ _ (HCB.out _ P96.out) (fun hHeld => ?_)
            clear hK K
            try simp only [Act.put, List.setIfInBounds_toArray, List.set_cons_zero, List.set_cons_succ]
            refine wpAnyH_take (i := 16) (oi := _) (v := ?v91209) (by simp only [List.getElem?_toArray, List.getElem?_cons_succ, List.getElem?_cons_zero]; rfl) (by kernel_rfl) (by kernel_rfl) (by kernel_rfl) (by exact fun _ _ _ h => h) (Or.inl ⟨by rfl, ?hy91209⟩) (by assumption) ?rest91209
            case hy91209 => (intro w hSw; (try dsimp only at hSw); go_simp; try with_reducible rfl)
            try simp only [Act.put, List.setIfInBounds_toArray, List.set_cons_zero, List.set_cons_succ]
            refine wpAnyH_take (i := 17) (oi := _) (v := ?v91210) (by simp only [List.getElem?_toArray, List.getElem?_cons_succ, List.getElem?_cons_zero]; rfl) (by kernel_rfl) (by kernel_rfl) (by kernel_rfl) (by exact fun _ _ _ h => h) (Or.inl ⟨by rfl, ?hy91210⟩) (by assumption) ?rest91210
            case hy91210 => (intro w hSw; (try dsimp only at hSw); go_simp; try with_reducible rfl)
            try simp only [Act.put, List.setIfInBounds_toArray, List.set_cons_zero, List.set_cons_succ]
            refine wpAnyH_take (i := 18) (oi := _) (v := ?v91211) (by simp only [List.getElem?_toArray, List.getElem?_cons_succ, List.getElem?_cons_zero]; rfl) (by kernel_rfl) (by kernel_rfl) (by kernel_rfl) (by exact fun _ _ _ h => h) (Or.inl ⟨by rfl, ?hy91211⟩) (by assumption) ?rest91211
            case hy91211 => (intro w hSw; (try dsimp only at hSw); go_simp; try with_reducible rfl)
            try simp only [Act.put, List.setIfInBounds_toArray, List.set_cons_zero, List.set_cons_succ]
            refine wpAnyH_take (i := 19) (oi := _) (v := ?v91212) (by simp only [List.getElem?_toArray, List.getElem?_cons_succ, List.getElem?_cons_zero]; rfl) (by kernel_rfl) (by kernel_rfl) (by kernel_rfl) (by exact fun _ _ _ h => h) (Or.inl ⟨by rfl, ?hy91212⟩) (by assumption) ?rest91212
            case hy91212 => (intro w hSw; (try dsimp only at hSw); go_simp; try with_reducible rfl)
            try simp only [Act.put, List.setIfInBounds_toArray, List.set_cons_zero, List.set_cons_succ]
            refine wpAnyH_ready (rs := [21]) (by kernel_rfl) (by simp) ?_
            refine AllReadyH.cons (o := _) (by simp only [List.getElem?_toArray, List.getElem?_cons_succ, List.getElem?_cons_zero]; rfl) (fun K hK => ?_) AllReadyH.nil
            go_simp
            refine hK.out _ _ (HCB.out _ (setK6_below P96.out LX.out _ _ _ _ _ _)) (fun hHeld => ?_)
            clear hK K
            try simp only [Act.put, List.setIfInBounds_toArray, List.set_cons_zero, List.set_cons_succ]
            refine wpAnyH_take (i := 22) (oi := _) (v := ?v91214) (by simp only [List.getElem?_toArray, List.getElem?_cons_succ, List.getElem?_cons_zero]; rfl) (by kernel_rfl) (by kernel_rfl) (by kernel_rfl) (by exact fun _ _ _ h => h) (Or.inl ⟨by rfl, ?hy91214⟩) (by assumption) ?rest91214
            case hy91214 => (intro w hSw; (try dsimp only at hSw); go_simp; try with_reducible rfl)
            try simp only [Act.put, List.setIfInBounds_toArray, List.set_cons_zero, List.set_cons_succ]
            refine wpAnyH_take (i := 23) (oi := _) (v := ?v91215) (by simp only [List.getElem?_toArray, List.getElem?_cons_succ, List.getElem?_cons_zero]; rfl) (by kernel_rfl) (by kernel_rfl) (by kernel_rfl) (by exact fun _ _ _ h => h) (Or.inl ⟨by rfl, ?hy91215⟩) (by assumption) ?rest91215
            case hy91215 => (intro w hSw; (try dsimp only at hSw); go_simp; try with_reducible rfl)
            try simp only [Act.put, List.setIfInBounds_toArray, List.set_cons_zero, List.set_cons_succ]
            refine wpAnyH_done (by kernel_rfl) ?_ _
            go_wp2
            go_meet
            case rel => exact ⟨_, rfl, rfl, rfl, Lib.hid (gotT_at P96.out LX.out A96.out)⟩
        · go_simp
          obtain ⟨X98, hX98⟩ : ∃ X, wd.alloc (.cells #[.string ⟨#[]⟩, .string ⟨#[]⟩, .string ⟨#[]⟩, .string ⟨#[]⟩, .string ⟨#[]⟩, .string ⟨#[]⟩] 30) = X := ⟨_, rfl⟩
          have hp98 := (PD.out).alloc (PD.out).size (.cells #[.string ⟨#[]⟩, .string ⟨#[]⟩, .string ⟨#[]⟩, .string ⟨#[]⟩, .string ⟨#[]⟩, .string ⟨#[]⟩] 30)
          have hq98 := heap_alloc_last wd (.cells #[.string ⟨#[]⟩, .string ⟨#[]⟩, .string ⟨#[]⟩, .string ⟨#[]⟩, .string ⟨#[]⟩, .string ⟨#[]⟩] 30)
          rw [hX98] at hp98 hq98 ⊢
          have P98 := Lib.hid hp98
          have A98 := Lib.hid hq98
          have LX := Lib.hid (PD.out).size
          clear hX98 hp98 hq98
          refine hK.out _ _ (HCB.out _ P98.out) (fun hHeld => ?_)
          clear hK K
          try simp only [Act.put, List.setIfInBounds_toArray, List.set_cons_zero, List.set_cons_succ]
          refine wpAnyH_ready (rs := [1, 12]) (by kernel_rfl) (by simp) ?_
          refine AllReadyH.cons (o := _) (by simp only [List.getElem?_toArray, List.getElem?_cons_succ, List.getElem?_cons_zero]; rfl) (fun K hK => ?_) (AllReadyH.cons (o := _) (by simp only [List.getElem?_toArray, List.getElem?_cons_succ, List.getElem?_cons_zero]; rfl) (fun K hK => ?_) AllReadyH.nil)
          · go_simp
            obtain ⟨X99, hX99⟩ : ∃ X, X98.alloc (.cells #[] 39) = X := ⟨_, rfl⟩
            have hp99 := (P98.out).alloc (P98.out).size (.cells #[] 39)
            have hq99 := heap_alloc_last X98 (.cells #[] 39)
            have ha99 := alloc_block (x := .cells #[] 39) A98.out
            have hw99 := own_fresh X98 wr.heap.size 39 2 P98.out.size
            rw [hX99] at hp99 hq99 ha99 hw99 ⊢
            have P99 := Lib.hid hp99
            have A99 := Lib.hid ha99
            have O99 := Lib.hid hw99
            clear hX99 hp99 hq99 ha99 hw99
            refine hK.out _ _ (HCB.out _ P99.out) (fun hHeld => ?_)
            clear hK K
            try simp only [Act.put, List.setIfInBounds_toArray, List.set_cons_zero, List.set_cons_succ]
            refine wpAnyH_ready (rs := [3, 12]) (by kernel_rfl) (by simp) ?_
            refine AllReadyH.cons (o := _) (by simp only [List.getElem?_toArray, List.getElem?_cons_succ, List.getElem?_cons_zero]; rfl) (fun K hK => ?_) (AllReadyH.cons (o := _) (by simp only [List.getElem?_toArray, List.getElem?_cons_succ, List.getElem?_cons_zero]; rfl) (fun K hK => ?_) AllReadyH.nil)
            · refine step_append_opt rfl (.tmp 49) (.tmp 50) 37 rfl wr.heap.size 39 i0 _ 2 32 Tryd.underlying37 HII.out.1 HII.out.2.1 HII.out.2.2.1 HII.out.2.2.2 rfl (by decide) (.slice (some ⟨X98.heap.size, 0, none⟩) 0 0) 0 [] rfl O99.out (some ad) j cl (pcells l) rfl HP2.out (.inr ⟨_, rfl, HPC.out _ P99.out⟩) (pcells_allone l) (by unfold maxLen; omega) (by omega) P99.out.size ?_
              intro v100 X100 hw100 hg100 ht100
              simp only [Nat.zero_add, List.nil_append] at hw100
              obtain ⟨A100w, c100w, rfl⟩ := own_form hw100
              have P100 := Lib.hid ((P99.out).grown hg100 P99.out.size (fun k hk => (O99.out.lt k hk).1))
              have O100 := Lib.hid hw100
              have A100 := Lib.hid (grown_block hg100 A99.out (own_not O99.out A99.out (by decide)))
              clear hg100 ht100 hw100
              refine hK.out _ _ (HCB.out _ P100.out) (fun hHeld => ?_)
              clear hK K
              try simp only [Act.put, List.setIfInBounds_toArray, List.set_cons_zero, List.set_cons_succ]
              refine wpAnyH_ready (rs := [12]) (by kernel_rfl) (by simp) ?_
              refine AllReadyH.cons (o := _) (by simp only [List.getElem?_toArray, List.getElem?_cons_succ, List.getElem?_cons_zero]; rfl) (fun K hK => ?_) AllReadyH.nil
              go_simp
              obtain ⟨X101, hX101⟩ : ∃ X, X100.alloc (.cells #[.string K0, .string V0] 39) = X := ⟨_, rfl⟩
              have hp101 := (P100.out).alloc (P100.out).size (.cells #[.string K0, .string V0] 39)
              have hq101 := heap_alloc_last X100 (.cells #[.string K0, .string V0] 39)
              have ho101 := own_below O100.out ((Below.refl X100.heap.size X100).alloc (Nat.le_refl _) (.cells #[.string K0, .string V0] 39))
              have ha101 := alloc_block (x := .cells #[.string K0, .string V0] 39) A100.out
              rw [hX101] at hp101 hq101 ho101 ha101 ⊢
              have P101 := Lib.hid hp101
              have O101 := Lib.hid ho101
              have A101 := Lib.hid ha101
              have R101 := Lib.hid hq101
              have NE101 := Lib.hid (show (Value.ownBlock (.slice A100w j c100w)) ≠ some X100.heap.size from fun e => absurd (O100.out.lt _ e).2 (Nat.lt_irrefl _))
              clear hX101 hp101 hq101 ho101 ha101
              refine hK.out _ _ (HCB.out _ P101.out) (fun hHeld => ?_)
              clear hK K
              try simp only [Act.put, List.setIfInBounds_toArray, List.set_cons_zero, List.set_cons_succ]
              refine wpAnyH_ready (rs := [13]) (by kernel_rfl) (by simp) ?_
              refine AllReadyH.cons (o := _) (by simp only [List.getElem?_toArray, List.getElem?_cons_succ, List.getElem?_cons_zero]; rfl) (fun K hK => ?_) AllReadyH.nil
              refine step_append_opt rfl (.tmp 51) (.tmp 60) 37 rfl wr.heap.size 39 i0 _ 2 32 Tryd.underlying37 HII.out.1 HII.out.2.1 HII.out.2.2.1 HII.out.2.2.2 rfl (by decide) (.slice A100w j c100w) j (pcells l) rfl O101.out (some ⟨X100.heap.size, 0, none⟩) 1 1 [.string K0, .string V0] rfl rfl (.inr ⟨_, rfl, two_at R101.out⟩) (by simp [Value.oneCell']) (by unfold maxLen; omega) (by omega) P101.out.size ?_
              intro v102 X102 hw102 hg102 ht102
              rw [HPLL.out] at hw102
              obtain ⟨A102w, c102w, rfl, hbu102⟩ := HBU.out _ _ (PRow.cut hw102 (by rw [HLL.out]) rfl)
              have BU102 := Lib.hid hbu102
              clear hbu102
              have P102 := Lib.hid ((P101.out).grown hg102 P101.out.size (fun k hk => (O101.out.lt k hk).1))
              have O102 := Lib.hid hw102
              have A102 := Lib.hid (grown_block hg102 A101.out (own_not O101.out A101.out (by decide)))
              clear hg102 ht102 hw102
              refine hK.out _ _ (HCB.out _ P102.out) (fun hHeld => ?_)
              clear hK K
              try simp only [Act.put, List.setIfInBounds_toArray, List.set_cons_zero, List.set_cons_succ]
              refine wpAnyH_ready (rs := [14]) (by kernel_rfl) (by simp) ?_
              refine AllReadyH.cons (o := _) (by simp only [List.getElem?_toArray, List.getElem?_cons_succ, List.getElem?_cons_zero]; rfl) (fun K hK => ?_) AllReadyH.nil
              go_simp
              go_at_call 10
              (with_reducible refine (BU102.out).mono ?_)
              rintro e103 X103 ⟨rfl, hb103⟩
              have P103 := Lib.hid ((P102.out).chain hb103)
              have A103 := Lib.hid (blk_below A102.out hb103)
              clear hb103
              dsimp only
              refine hK.out _ _ (HCB.out _ P103.out) (fun hHeld => ?_)
              clear hK K
              try simp only [Act.put, List.setIfInBounds_toArray, List.set_cons_zero, List.set_cons_succ]
              refine wpAnyH_ready (rs := [15]) (by kernel_rfl) (by simp) ?_
              refine AllReadyH.cons (o := _) (by simp only [List.getElem?_toArray, List.getElem?_cons_succ, List.getElem?_cons_zero]; rfl) (fun K hK => ?_) AllReadyH.nil
              go_simp
              go_at_call 8
              (with_reducible refine (HC.out _ P103.out).mono ?_)
              rintro e104 X104 ⟨rfl, hb104⟩
              have P104 := Lib.hid ((P103.out).chain hb104)
              have A104 := Lib.hid (blk_below A103.out hb104)
              clear hb104
              dsimp only
              obtain ⟨⟨r0, r1, r2, r3, r4, r5⟩, f0, f1, f2, f3, f4, f5⟩ := cellsK6_of A104.out
              refine hK.out _ _ (HCB.out _ P104.out) (fun hHeld => ?_)
              clear hK K
              try simp only [Act.put, List.setIfInBounds_toArray, List.set_cons_zero, List.set_cons_succ]
              refine wpAnyH_take (i := 16) (oi := _) (v := ?v91223) (by simp only [List.getElem?_toArray, List.getElem?_cons_succ, List.getElem?_cons_zero]; rfl) (by kernel_rfl) (by kernel_rfl) (by kernel_rfl) (by exact fun _ _ _ h => h) (Or.inl ⟨by rfl, ?hy91223⟩) (by assumption) ?rest91223
              case hy91223 => (intro w hSw; (try dsimp only at hSw); go_simp; try with_reducible rfl)
              try simp only [Act.put, List.setIfInBounds_toArray, List.set_cons_zero, List.set_cons_succ]
              refine wpAnyH_take (i := 17) (oi := _) (v := ?v91224) (by simp only [List.getElem?_toArray, List.getElem?_cons_succ, List.getElem?_cons_zero]; rfl) (by kernel_rfl) (by kernel_rfl) (by kernel_rfl) (by exact fun _ _ _ h => h) (Or.inl ⟨by rfl, ?hy91224⟩) (by assumption) ?rest91224
              case hy91224 => (intro w hSw; (try dsimp only at hSw); go_simp; try with_reducible rfl)
              try simp only [Act.put, List.setIfInBounds_toArray, List.set_cons_zero, List.set_cons_succ]
              refine wpAnyH_take (i := 18) (oi := _) (v := ?v91225) (by simp only [List.getElem?_toArray, List.getElem?_cons_succ, List.getElem?_cons_zero]; rfl) (by kernel_rfl) (by kernel_rfl) (by kernel_rfl) (by exact fun _ _ _ h => h) (Or.inl ⟨by rfl, ?hy91225⟩) (by assumption) ?rest91225
              case hy91225 => (intro w hSw; (try dsimp only at hSw); go_simp; try with_reducible rfl)
              try simp only [Act.put, List.setIfInBounds_toArray, List.set_cons_zero, List.set_cons_succ]
              refine wpAnyH_take (i := 19) (oi := _) (v := ?v91226) (by simp only [List.getElem?_toArray, List.getElem?_cons_succ, List.getElem?_cons_zero]; rfl) (by kernel_rfl) (by kernel_rfl) (by kernel_rfl) (by exact fun _ _ _ h => h) (Or.inl ⟨by rfl, ?hy91226⟩) (by assumption) ?rest91226
              case hy91226 => (intro w hSw; (try dsimp only at hSw); go_simp; try with_reducible rfl)
              try simp only [Act.put, List.setIfInBounds_toArray, List.set_cons_zero, List.set_cons_succ]
              refine wpAnyH_ready (rs := [21]) (by kernel_rfl) (by simp) ?_
              refine AllReadyH.cons (o := _) (by simp only [List.getElem?_toArray, List.getElem?_cons_succ, List.getElem?_cons_zero]; rfl) (fun K hK => ?_) AllReadyH.nil
              go_simp
              refine hK.out _ _ (HCB.out _ (setK6_below P104.out LX.out _ _ _ _ _ _)) (fun hHeld => ?_)
              clear hK K
              try simp only [Act.put, List.setIfInBounds_toArray, List.set_cons_zero, List.set_cons_succ]
              refine wpAnyH_take (i := 22) (oi := _) (v := ?v91228) (by simp only [List.getElem?_toArray, List.getElem?_cons_succ, List.getElem?_cons_zero]; rfl) (by kernel_rfl) (by kernel_rfl) (by kernel_rfl) (by exact fun _ _ _ h => h) (Or.inl ⟨by rfl, ?hy91228⟩) (by assumption) ?rest91228
              case hy91228 => (intro w hSw; (try dsimp only at hSw); go_simp; try with_reducible rfl)
              try simp only [Act.put, List.setIfInBounds_toArray, List.set_cons_zero, List.set_cons_succ]
              refine wpAnyH_take (i := 23) (oi := _) (v := ?v91229) (by simp only [List.getElem?_toArray, List.getElem?_cons_succ, List.getElem?_cons_zero]; rfl) (by kernel_rfl) (by kernel_rfl) (by kernel_rfl) (by exact fun _ _ _ h => h) (Or.inl ⟨by rfl, ?hy91229⟩) (by assumption) ?rest91229
              case hy91229 => (intro w hSw; (try dsimp only at hSw); go_simp; try with_reducible rfl)
              try simp only [Act.put, List.setIfInBounds_toArray, List.set_cons_zero, List.set_cons_succ]
              refine wpAnyH_done (by kernel_rfl) ?_ _
              go_wp2
              go_meet
              case rel => exact ⟨_, rfl, rfl, rfl, Lib.hid (gotT_at P104.out LX.out A104.out)⟩
            · go_simp
              obtain ⟨X106, hX106⟩ : ∃ X, X99.alloc (.cells #[.string K0, .string V0] 39) = X := ⟨_, rfl⟩
              have hp106 := (P99.out).alloc (P99.out).size (.cells #[.string K0, .string V0] 39)
              have hq106 := heap_alloc_last X99 (.cells #[.string K0, .string V0] 39)
              have ho106 := own_below O99.out ((Below.refl X99.heap.size X99).alloc (Nat.le_refl _) (.cells #[.string K0, .string V0] 39))
              have ha106 := alloc_block (x := .cells #[.string K0, .string V0] 39) A99.out
              rw [hX106] at hp106 hq106 ho106 ha106 ⊢
              have P106 := Lib.hid hp106
              have O106 := Lib.hid ho106
              have A106 := Lib.hid ha106
              have R106 := Lib.hid hq106
              have NE106 := Lib.hid (show (Value.ownBlock (.slice (some ⟨X98.heap.size, 0, none⟩) 0 0)) ≠ some X99.heap.size from fun e => absurd (O99.out.lt _ e).2 (Nat.lt_irrefl _))
              clear hX106 hp106 hq106 ho106 ha106
              refine hK.out _ _ (HCB.out _ P106.out) (fun hHeld => ?_)
              clear hK K
              try simp only [Act.put, List.setIfInBounds_toArray, List.set_cons_zero, List.set_cons_succ]
              refine wpAnyH_ready (rs := [3]) (by kernel_rfl) (by simp) ?_
              refine AllReadyH.cons (o := _) (by simp only [List.getElem?_toArray, List.getElem?_cons_succ, List.getElem?_cons_zero]; rfl) (fun K hK => ?_) AllReadyH.nil
              refine step_append_opt rfl (.tmp 49) (.tmp 50) 37 rfl wr.heap.size 39 i0 _ 2 32 Tryd.underlying37 HII.out.1 HII.out.2.1 HII.out.2.2.1 HII.out.2.2.2 rfl (by decide) (.slice (some ⟨X98.heap.size, 0, none⟩) 0 0) 0 [] rfl O106.out (some ad) j cl (pcells l) rfl HP2.out (.inr ⟨_, rfl, HPC.out _ P106.out⟩) (pcells_allone l) (by unfold maxLen; omega) (by omega) P106.out.size ?_
              intro v107 X107 hw107 hg107 ht107
              simp only [Nat.zero_add, List.nil_append] at hw107
              obtain ⟨A107w, c107w, rfl⟩ := own_form hw107
              have P107 := Lib.hid ((P106.out).grown hg107 P106.out.size (fun k hk => (O106.out.lt k hk).1))
              have O107 := Lib.hid hw107
              have R107 := Lib.hid (grown_block hg107 R106.out NE106.out)
              have NE107 := Lib.hid (show (Value.ownBlock (.slice A107w j c107w)) ≠ some (X99.heap.size) from fun e => by
                rcases ht107 with h | h
                · rw [h] at e; exact NE106.out e
                · rw [h] at e; injection e with e; have e : X106.heap.size = X99.heap.size := e; have := (Array.getElem?_eq_some_iff.1 R106.out).1; omega)
              have A107 := Lib.hid (grown_block hg107 A106.out (own_not O106.out A106.out (by decide)))
              clear hg107 ht107 hw107
              refine hK.out _ _ (HCB.out _ P107.out) (fun hHeld => ?_)
              clear hK K
              try simp only [Act.put, List.setIfInBounds_toArray, List.set_cons_zero, List.set_cons_succ]
              refine wpAnyH_ready (rs := [13]) (by kernel_rfl) (by simp) ?_
              refine AllReadyH.cons (o := _) (by simp only [List.getElem?_toArray, List.getElem?_cons_succ, List.getElem?_cons_zero]; rfl) (fun K hK => ?_) AllReadyH.nil
              refine step_append_opt rfl (.tmp 51) (.tmp 60) 37 rfl wr.heap.size 39 i0 _ 2 32 Tryd.underlying37 HII.out.1 HII.out.2.1 HII.out.2.2.1 HII.out.2.2.2 rfl (by decide) (.slice A107w j c107w) j (pcells l) rfl O107.out (some ⟨X99.heap.size, 0, none⟩) 1 1 [.string K0, .string V0] rfl rfl (.inr ⟨_, rfl, two_at R107.out⟩) (by simp [Value.oneCell']) (by unfold maxLen; omega) (by omega) P107.out.size ?_
              intro v108 X108 hw108 hg108 ht108
              rw [HPLL.out] at hw108
              obtain ⟨A108w, c108w, rfl, hbu108⟩ := HBU.out _ _ (PRow.cut hw108 (by rw [HLL.out]) rfl)
              have BU108 := Lib.hid hbu108
              clear hbu108
              have P108 := Lib.hid ((P107.out).grown hg108 P107.out.size (fun k hk => (O107.out.lt k hk).1))
              have O108 := Lib.hid hw108
              have A108 := Lib.hid (grown_block hg108 A107.out (own_not O107.out A107.out (by decide)))
              clear hg108 ht108 hw108
              refine hK.out _ _ (HCB.out _ P108.out) (fun hHeld => ?_)
              clear hK K
              try simp only [Act.put, List.setIfInBounds_toArray, List.set_cons_zero, List.set_cons_succ]
              refine wpAnyH_ready (rs := [14]) (by kernel_rfl) (by simp) ?_
              refine AllReadyH.cons (o := _) (by simp only [List.getElem?_toArray, List.getElem?_cons_succ, List.getElem?_cons_zero]; rfl) (fun K hK => ?_) AllReadyH.nil
              go_simp
              go_at_call 10
              (with_reducible refine (BU108.out).mono ?_)
              rintro e109 X109 ⟨rfl, hb109⟩
              have P109 := Lib.hid ((P108.out).chain hb109)
              have A109 := Lib.hid (blk_below A108.out hb109)
              clear hb109
              dsimp only
              refine hK.out _ _ (HCB.out _ P109.out) (fun hHeld => ?_)
              clear hK K
              try simp only [Act.put, List.setIfInBounds_toArray, List.set_cons_zero, List.set_cons_succ]
              refine wpAnyH_ready (rs := [15]) (by kernel_rfl) (by simp) ?_
              refine AllReadyH.cons (o := _) (by simp only [List.getElem?_toArray, List.getElem?_cons_succ, List.getElem?_cons_zero]; rfl) (fun K hK => ?_) AllReadyH.nil
              go_simp
              go_at_call 8
              (with_reducible refine (HC.out _ P109.out).mono ?_)
              rintro e110 X110 ⟨rfl, hb110⟩
              have P110 := Lib.hid ((P109.out).chain hb110)
              have A110 := Lib.hid (blk_below A109.out hb110)
              clear hb110
              dsimp only
              obtain ⟨⟨r0, r1, r2, r3, r4, r5⟩, f0, f1, f2, f3, f4, f5⟩ := cellsK6_of A110.out
              refine hK.out _ _ (HCB.out _ P110.out) (fun hHeld => ?_)
              clear hK K
              try simp only [Act.put, List.setIfInBounds_toArray, List.set_cons_zero, List.set_cons_succ]
              refine wpAnyH_take (i := 16) (oi := _) (v := ?v91235) (by simp only [List.getElem?_toArray, List.getElem?_cons_succ, List.getElem?_cons_zero]; rfl) (by kernel_rfl) (by kernel_rfl) (by kernel_rfl) (by exact fun _ _ _ h => h) (Or.inl ⟨by rfl, ?hy91235⟩) (by assumption) ?rest91235
              case hy91235 => (intro w hSw; (try dsimp only at hSw); go_simp; try with_reducible rfl)
              try simp only [Act.put, List.setIfInBounds_toArray, List.set_cons_zero, List.set_cons_succ]
              refine wpAnyH_take (i := 17) (oi := _) (v := ?v91236) (by simp only [List.getElem?_toArray, List.getElem?_cons_succ, List.getElem?_cons_zero]; rfl) (by kernel_rfl) (by kernel_rfl) (by kernel_rfl) (by exact fun _ _ _ h => h) (Or.inl ⟨by rfl, ?hy91236⟩) (by assumption) ?rest91236
              case hy91236 => (intro w hSw; (try dsimp only at hSw); go_simp; try with_reducible rfl)
              try simp only [Act.put, List.setIfInBounds_toArray, List.set_cons_zero, List.set_cons_succ]
              refine wpAnyH_take (i := 18) (oi := _) (v := ?v91237) (by simp only [List.getElem?_toArray, List.getElem?_cons_succ, List.getElem?_cons_zero]; rfl) (by kernel_rfl) (by kernel_rfl) (by kernel_rfl) (by exact fun _ _ _ h => h) (Or.inl ⟨by rfl, ?hy91237⟩) (by assumption) ?rest91237
              case hy91237 => (intro w hSw; (try dsimp only at hSw); go_simp; try with_reducible rfl)
              try simp only [Act.put, List.setIfInBounds_toArray, List.set_cons_zero, List.set_cons_succ]
              refine wpAnyH_take (i := 19) (oi := _) (v := ?v91238) (by simp only [List.getElem?_toArray, List.getElem?_cons_succ, List.getElem?_cons_zero]; rfl) (by kernel_rfl) (by kernel_rfl) (by kernel_rfl) (by exact fun _ _ _ h => h) (Or.inl ⟨by rfl, ?hy91238⟩) (by assumption) ?rest91238
              case hy91238 => (intro w hSw; (try dsimp only at hSw); go_simp; try with_reducible rfl)
              try simp only [Act.put, List.setIfInBounds_toArray, List.set_cons_zero, List.set_cons_succ]
              refine wpAnyH_ready (rs := [21]) (by kernel_rfl) (by simp) ?_
              refine AllReadyH.cons (o := _) (by simp only [List.getElem?_toArray, List.getElem?_cons_succ, List.getElem?_cons_zero]; rfl) (fun K hK => ?_) AllReadyH.nil
              go_simp
              refine hK.out _ _ (HCB.out _ (setK6_below P110.out LX.out _ _ _ _ _ _)) (fun hHeld => ?_)
              clear hK K
              try simp only [Act.put, List.setIfInBounds_toArray, List.set_cons_zero, List.set_cons_succ]
              refine wpAnyH_take (i := 22) (oi := _) (v := ?v91240) (by simp only [List.getElem?_toArray, List.getElem?_cons_succ, List.getElem?_cons_zero]; rfl) (by kernel_rfl) (by kernel_rfl) (by kernel_rfl) (by exact fun _ _ _ h => h) (Or.inl ⟨by rfl, ?hy91240⟩) (by assumption) ?rest91240
              case hy91240 => (intro w hSw; (try dsimp only at hSw); go_simp; try with_reducible rfl)
              try simp only [Act.put, List.setIfInBounds_toArray, List.set_cons_zero, List.set_cons_succ]
              refine wpAnyH_take (i := 23) (oi := _) (v := ?v91241) (by simp only [List.getElem?_toArray, List.getElem?_cons_succ, List.getElem?_cons_zero]; rfl) (by kernel_rfl) (by kernel_rfl) (by kernel_rfl) (by exact fun _ _ _ h => h) (Or.inl ⟨by rfl, ?hy91241⟩) (by assumption) ?rest91241
              case hy91241 => (intro w hSw; (try dsimp only at hSw); go_simp; try with_reducible rfl)
              try simp only [Act.put, List.setIfInBounds_toArray, List.set_cons_zero, List.set_cons_succ]
              refine wpAnyH_done (by kernel_rfl) ?_ _
              go_wp2
              go_meet
              case rel => exact ⟨_, rfl, rfl, rfl, Lib.hid (gotT_at P110.out LX.out A110.out)⟩
          · go_simp
            obtain ⟨X112, hX112⟩ : ∃ X, X98.alloc (.cells #[.string K0, .string V0] 39) = X := ⟨_, rfl⟩
            have hp112 := (P98.out).alloc (P98.out).size (.cells #[.string K0, .string V0] 39)
            have hq112 := heap_alloc_last X98 (.cells #[.string K0, .string V0] 39)
            have ha112 := alloc_block (x := .cells #[.string K0, .string V0] 39) A98.out
            rw [hX112] at hp112 hq112 ha112 ⊢
            have P112 := Lib.hid hp112
            have A112 := Lib.hid ha112
            have R112 := Lib.hid hq112
            clear hX112 hp112 hq112 ha112
            refine hK.out _ _ (HCB.out _ P112.out) (fun hHeld => ?_)
            clear hK K
            try simp only [Act.put, List.setIfInBounds_toArray, List.set_cons_zero, List.set_cons_succ]
            refine wpAnyH_ready (rs := [1]) (by kernel_rfl) (by simp) ?_
            refine AllReadyH.cons (o := _) (by simp only [List.getElem?_toArray, List.getElem?_cons_succ, List.getElem?_cons_zero]; rfl) (fun K hK => ?_) AllReadyH.nil
            go_simp
            obtain ⟨X113, hX113⟩ : ∃ X, X112.alloc (.cells #[] 39) = X := ⟨_, rfl⟩
            have hp113 := (P112.out).alloc (P112.out).size (.cells #[] 39)
            have hq113 := heap_alloc_last X112 (.cells #[] 39)
            have hr113 := alloc_block (x := .cells #[] 39) R112.out
            have ha113 := alloc_block (x := .cells #[] 39) A112.out
            have hw113 := own_fresh X112 wr.heap.size 39 2 P112.out.size
            rw [hX113] at hp113 hq113 hr113 ha113 hw113 ⊢
            have P113 := Lib.hid hp113
            have R113 := Lib.hid hr113
            have A113 := Lib.hid ha113
            have O113 := Lib.hid hw113
            have NE113 := Lib.hid (show (Value.slice (some ⟨X112.heap.size, 0, none⟩) 0 0).ownBlock ≠ some X98.heap.size from fun e => by injection e with e; have e : X112.heap.size = X98.heap.size := e; have := (Array.getElem?_eq_some_iff.1 R112.out).1; omega)
            clear hX113 hp113 hq113 hr113 ha113 hw113
            refine hK.out _ _ (HCB.out _ P113.out) (fun hHeld => ?_)
            clear hK K
            try simp only [Act.put, List.setIfInBounds_toArray, List.set_cons_zero, List.set_cons_succ]
            refine wpAnyH_ready (rs := [3]) (by kernel_rfl) (by simp) ?_
            refine AllReadyH.cons (o := _) (by simp only [List.getElem?_toArray, List.getElem?_cons_succ, List.getElem?_cons_zero]; rfl) (fun K hK => ?_) AllReadyH.nil
            refine step_append_opt rfl (.tmp 49) (.tmp 50) 37 rfl wr.heap.size 39 i0 _ 2 32 Tryd.underlying37 HII.out.1 HII.out.2.1 HII.out.2.2.1 HII.out.2.2.2 rfl (by decide) (.slice (some ⟨X112.heap.size, 0, none⟩) 0 0) 0 [] rfl O113.out (some ad) j cl (pcells l) rfl HP2.out (.inr ⟨_, rfl, HPC.out _ P113.out⟩) (pcells_allone l) (by unfold maxLen; omega) (by omega) P113.out.size ?_
            intro v114 X114 hw114 hg114 ht114
            simp only [Nat.zero_add, List.nil_append] at hw114
            obtain ⟨A114w, c114w, rfl⟩ := own_form hw114
            have P114 := Lib.hid ((P113.out).grown hg114 P113.out.size (fun k hk => (O113.out.lt k hk).1))
            have O114 := Lib.hid hw114
            have R114 := Lib.hid (grown_block hg114 R113.out NE113.out)
            have NE114 := Lib.hid (show (Value.ownBlock (.slice A114w j c114w)) ≠ some (X98.heap.size) from fun e => by
              rcases ht114 with h | h
              · rw [h] at e; exact NE113.out e
              · rw [h] at e; injection e with e; have e : X113.heap.size = X98.heap.size := e; have := (Array.getElem?_eq_some_iff.1 R113.out).1; omega)
            have A114 := Lib.hid (grown_block hg114 A113.out (own_not O113.out A113.out (by decide)))
            clear hg114 ht114 hw114
            refine hK.out _ _ (HCB.out _ P114.out) (fun hHeld => ?_)
            clear hK K
            try simp only [Act.put, List.setIfInBounds_toArray, List.set_cons_zero, List.set_cons_succ]
            refine wpAnyH_ready (rs := [13]) (by kernel_rfl) (by simp) ?_
            refine AllReadyH.cons (o := _) (by simp only [List.getElem?_toArray, List.getElem?_cons_succ, List.getElem?_cons_zero]; rfl) (fun K hK => ?_) AllReadyH.nil
            refine step_append_opt rfl (.tmp 51) (.tmp 60) 37 rfl wr.heap.size 39 i0 _ 2 32 Tryd.underlying37 HII.out.1 HII.out.2.1 HII.out.2.2.1 HII.out.2.2.2 rfl (by decide) (.slice A114w j c114w) j (pcells l) rfl O114.out (some ⟨X98.heap.size, 0, none⟩) 1 1 [.string K0, .string V0] rfl rfl (.inr ⟨_, rfl, two_at R114.out⟩) (by simp [Value.oneCell']) (by unfold maxLen; omega) (by omega) P114.out.size ?_
            intro v115 X115 hw115 hg115 ht115
            rw [HPLL.out] at hw115
            obtain ⟨A115w, c115w, rfl, hbu115⟩ := HBU.out _ _ (PRow.cut hw115 (by rw [HLL.out]) rfl)
            have BU115 := Lib.hid hbu115
            clear hbu115
            have P115 := Lib.hid ((P114.out).grown hg115 P114.out.size (fun k hk => (O114.out.lt k hk).1))
            have O115 := Lib.hid hw115
            have A115 := Lib.hid (grown_block hg115 A114.out (own_not O114.out A114.out (by decide)))
            clear hg115 ht115 hw115
            refine hK.out _ _ (HCB.out _ P115.out) (fun hHeld => ?_)
            clear hK K
            try simp only [Act.put, List.setIfInBounds_toArray, List.set_cons_zero, List.set_cons_succ]
            refine wpAnyH_ready (rs := [14]) (by kernel_rfl) (by simp) ?_
            refine AllReadyH.cons (o := _) (by simp only [List.getElem?_toArray, List.getElem?_cons_succ, List.getElem?_cons_zero]; rfl) (fun K hK => ?_) AllReadyH.nil
            go_simp
            go_at_call 10
            (with_reducible refine (BU115.out).mono ?_)
            rintro e116 X116 ⟨rfl, hb116⟩
            have P116 := Lib.hid ((P115.out).chain hb116)
            have A116 := Lib.hid (blk_below A115.out hb116)
            clear hb116
            dsimp only
            refine hK.out _ _ (HCB.out _ P116.out) (fun hHeld => ?_)
            clear hK K
            try simp only [Act.put, List.setIfInBounds_toArray, List.set_cons_zero, List.set_cons_succ]
            refine wpAnyH_ready (rs := [15]) (by kernel_rfl) (by simp) ?_
            refine AllReadyH.cons (o := _) (by simp only [List.getElem?_toArray, List.getElem?_cons_succ, List.getElem?_cons_zero]; rfl) (fun K hK => ?_) AllReadyH.nil
            go_simp
            go_at_call 8
            (with_reducible refine (HC.out _ P116.out).mono ?_)
            rintro e117 X117 ⟨rfl, hb117⟩
            have P117 := Lib.hid ((P116.out).chain hb117)
            have A117 := Lib.hid (blk_below A116.out hb117)
            clear hb117
            dsimp only
            obtain ⟨⟨r0, r1, r2, r3, r4, r5⟩, f0, f1, f2, f3, f4, f5⟩ := cellsK6_of A117.out
            refine hK.out _ _ (HCB.out _ P117.out) (fun hHeld => ?_)
            clear hK K
            try simp only [Act.put, List.setIfInBounds_toArray, List.set_cons_zero, List.set_cons_succ]
            refine wpAnyH_take (i := 16) (oi := _) (v := ?v91248) (by simp only [List.getElem?_toArray, List.getElem?_cons_succ, List.getElem?_cons_zero]; rfl) (by kernel_rfl) (by kernel_rfl) (by kernel_rfl) (by exact fun _ _ _ h => h) (Or.inl ⟨by rfl, ?hy91248⟩) (by assumption) ?rest91248
            case hy91248 => (intro w hSw; (try dsimp only at hSw); go_simp; try with_reducible rfl)
            try simp only [Act.put, List.setIfInBounds_toArray, List.set_cons_zero, List.set_cons_succ]
            refine wpAnyH_take (i := 17) (oi := _) (v := ?v91249) (by simp only [List.getElem?_toArray, List.getElem?_cons_succ, List.getElem?_cons_zero]; rfl) (by kernel_rfl) (by kernel_rfl) (by kernel_rfl) (by exact fun _ _ _ h => h) (Or.inl ⟨by rfl, ?hy91249⟩) (by assumption) ?rest91249
            case hy91249 => (intro w hSw; (try dsimp only at hSw); go_simp; try with_reducible rfl)
            try simp only [Act.put, List.setIfInBounds_toArray, List.set_cons_zero, List.set_cons_succ]
            refine wpAnyH_take (i := 18) (oi := _) (v := ?v91250) (by simp only [List.getElem?_toArray, List.getElem?_cons_succ, List.getElem?_cons_zero]; rfl) (by kernel_rfl) (by kernel_rfl) (by kernel_rfl) (by exact fun _ _ _ h => h) (Or.inl ⟨by rfl, ?hy91250⟩) (by assumption) ?rest91250
            case hy91250 => (intro w hSw; (try dsimp only at hSw); go_simp; try with_reducible rfl)
            try simp only [Act.put, List.setIfInBounds_toArray, List.set_cons_zero, List.set_cons_succ]
            refine wpAnyH_take (i := 19) (oi := _) (v := ?v91251) (by simp only [List.getElem?_toArray, List.getElem?_cons_succ, List.getElem?_cons_zero]; rfl) (by kernel_rfl) (by kernel_rfl) (by kernel_rfl) (by exact fun _ _ _ h => h) (Or.inl ⟨by rfl, ?hy91251⟩) (by assumption) ?rest91251
            case hy91251 => (intro w hSw; (try dsimp only at hSw); go_simp; try with_reducible rfl)
            try simp only [Act.put, List.setIfInBounds_toArray, List.set_cons_zero, List.set_cons_succ]
            refine wpAnyH_ready (rs := [21]) (by kernel_rfl) (by simp) ?_
            refine AllReadyH.cons (o := _) (by simp only [List.getElem?_toArray, List.getElem?_cons_succ, List.getElem?_cons_zero]; rfl) (fun K hK => ?_) AllReadyH.nil
            go_simp
            refine hK.out _ _ (HCB.out _ (setK6_below P117.out LX.out _ _ _ _ _ _)) (fun hHeld => ?_)
            clear hK K
            try simp only [Act.put, List.setIfInBounds_toArray, List.set_cons_zero, List.set_cons_succ]
            refine wpAnyH_take (i := 22) (oi := _) (v := ?v91253) (by simp only [List.getElem?_toArray, List.getElem?_cons_succ, List.getElem?_cons_zero]; rfl) (by kernel_rfl) (by kernel_rfl) (by kernel_rfl) (by exact fun _ _ _ h => h) (Or.inl ⟨by rfl, ?hy91253⟩) (by assumption) ?rest91253
            case hy91253 => (intro w hSw; (try dsimp only at hSw); go_simp; try with_reducible rfl)
            try simp only [Act.put, List.setIfInBounds_toArray, List.set_cons_zero, List.set_cons_succ]
            refine wpAnyH_take (i := 23) (oi := _) (v := ?v91254) (by simp only [List.getElem?_toArray, List.getElem?_cons_succ, List.getElem?_cons_zero]; rfl) (by kernel_rfl) (by kernel_rfl) (by kernel_rfl) (by exact fun _ _ _ h => h) (Or.inl ⟨by rfl, ?hy91254⟩) (by assumption) ?rest91254
            case hy91254 => (intro w hSw; (try dsimp only at hSw); go_simp; try with_reducible rfl)
            try simp only [Act.put, List.setIfInBounds_toArray, List.set_cons_zero, List.set_cons_succ]
            refine wpAnyH_done (by kernel_rfl) ?_ _
            go_wp2
            go_meet
            case rel => exact ⟨_, rfl, rfl, rfl, Lib.hid (gotT_at P117.out LX.out A117.out)⟩
      case rest =>
        obtain ⟨p, rfl, rfl, rfl, HG⟩ := hcut
        obtain ⟨hg1, hg2, hg3⟩ := HG.out
        have BC := Lib.hid (BR.out.chain hg1); have KA := Lib.hid hg3
        clear HG hg1 hg2 hg3
        go_wp2_with fail
        refine (HA.out _ BC.out).mono ?_
        rintro e w5 ⟨rfl, hb5⟩
        have B5 := Lib.hid (BC.out.chain hb5)
        obtain ⟨⟨m0, m1, m2, m3, m4, m5⟩, -⟩ := cellsK6_of (blk_below KA.out hb5)
        clear hb5
        dsimp only
        go_wp2_with fail
        go_ret
        exact ⟨rfl, XW.out.chain B5.out⟩
end Go.Proofs.YtlcpehmdhnakpaaDoor
