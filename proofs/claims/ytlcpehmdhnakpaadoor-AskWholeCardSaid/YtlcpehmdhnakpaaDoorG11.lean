/- Texts merged by program, in build order: LawAskB. -/
import Derived.Test.YtlcpehmdhnakpaaDoorG10
import Derived.Test.YtlcpehmdhnakpaaDoorG05
import Derived.Deep.RegionLaw
import Derived.Deep.RegionWith
import Derived.Deep.Cut
set_option linter.unusedVariables false
set_option linter.unusedSimpArgs false
namespace Go.Proofs.YtlcpehmdhnakpaaDoor
open Go.RowKit
set_option linter.unusedVariables false
set_option linter.unusedSimpArgs false

/-- what is said of a form that was built: nobody is sent to what is not registered -/
theorem ask_back (x : CfgP) (l : PL) : ((askP x (buildL l)).2.1 ≠ [] ∧ (askP x (buildL l)).2.2 = false → (askP x (buildL l)).1 = noAsk) ∧
    (¬ ((askP x (buildL l)).2.1 ≠ [] ∧ (askP x (buildL l)).2.2 = false) → ∃ r, findCl x.gClients (askP x (buildL l)).1.vC = some r ∧ redirP r (askP x (buildL l)).1.vR = true ∧ (askP x (buildL l)).1.vR = gP l kRed) := by
  unfold askP
  by_cases h0 : parseE (buildL l) ≠ 0 ∨ twiceB (parseP (buildL l)) = true
  · rw [if_pos h0]
    exact ⟨fun _ => rfl, fun h => absurd ⟨(by decide : eReq ≠ []), rfl⟩ h⟩
  · rw [if_neg h0]
    have hp : parseP (buildL l) = l := by
      have hE : parseE (buildL l) = 0 := Decidable.byContradiction fun h => h0 (Or.inl h)
      have hf := formL_buildL l
      by_cases h1 : 4096 < (buildL l).length
      · rw [(parse_large h1).1] at hE; cases hE
      · by_cases h2 : 64 < l.length
        · rw [(parse_many (by omega) hf h2).1] at hE; cases hE
        · exact (parse_some (by omega) hf (by omega)).2
    rw [hp]
    cases hf : findCl x.gClients (gP l kCid) with
    | none => exact ⟨fun _ => rfl, fun h => absurd ⟨(by decide : eCli ≠ []), rfl⟩ h⟩
    | some r =>
      dsimp only
      cases hr : redirP r (gP l kRed) with
      | false =>
        rw [if_pos rfl]
        exact ⟨fun _ => rfl, fun h => absurd ⟨(by decide : eReq ≠ []), rfl⟩ h⟩
      | true =>
        rw [if_neg (by decide)]
        by_cases hw : wrongP l = []
        · rw [if_pos hw]
          exact ⟨fun h => absurd rfl h.1, fun _ => ⟨r, hf, hr, rfl⟩⟩
        · rw [if_neg hw]
          exact ⟨fun h => (by cases h.2), fun _ => ⟨r, hf, hr, rfl⟩⟩
/-- what was asked, in a variable -/
def GotT (w wx : World) (p : Nat) (c0 c1 c2 c3 c4 c5 : ByteArray) : Prop := Below w.heap.size w wx ∧ w.heap.size ≤ p ∧ wx.heap[p]? = some (.cells #[.string c0, .string c1, .string c2, .string c3, .string c4, .string c5] 30 (0, 0))
theorem gotT_at {w X : World} {p : Nat} {c0 c1 c2 c3 c4 c5 : ByteArray} (hx : Below w.heap.size w X) (hp : w.heap.size ≤ p) (hq : X.heap[p]? = some (.cells #[.string ⟨#[]⟩, .string ⟨#[]⟩, .string ⟨#[]⟩, .string ⟨#[]⟩, .string ⟨#[]⟩, .string ⟨#[]⟩] 30 (0, 0))) : GotT w (setK6 X p (.string c0) (.string c1) (.string c2) (.string c3) (.string c4) (.string c5)) p c0 c1 c2 c3 c4 c5 :=
  ⟨setK6_below hx hp _ _ _ _ _ _, hp, setK6_here hq⟩
set_option maxRecDepth 100000 in
set_option maxHeartbeats 8000000 in
theorem askBack_at {w : World} (K : CodeAsk w) (x : CfgP) (A : Option Addr) (n c : Nat) (A' : Option Addr) (n' c' : Nat) (AL : Option Addr) (cl : Nat) (l : PL) (h : CfgIs w x A n c A' n' c') (hfit : x.fit) (hl : l.length ≤ 200000000000000) (hlz : ∀ y ∈ l, y.1.length ≤ 200000000000000 ∧ y.2.length ≤ 200000000000000) (hp : Prs w w.heap.size AL l) :
    Calls Tryd.prog 4 #[x.val A n c A' n' c', .slice AL l.length cl] w fun e w' => e = .returned (.bool true) ∧ Below w.heap.size w w' := by
  obtain ⟨IS, hIS⟩ : ∃ z : ByteArray, (⟨x.gIssuer.toArray⟩ : ByteArray) = z := ⟨_, rfl⟩
  obtain ⟨KI, hKI⟩ : ∃ z : ByteArray, (⟨x.gKeyID.toArray⟩ : ByteArray) = z := ⟨_, rfl⟩
  obtain ⟨KS, hKS⟩ : ∃ z : ByteArray, (⟨x.gKeySecret.toArray⟩ : ByteArray) = z := ⟨_, rfl⟩
  have hv : x.val A n c A' n' c' = .agg #[.string IS, .string KI, .string KS, .slice A n c, .slice A' n' c'] := by unfold CfgP.val tv; rw [hIS, hKI, hKS]
  have hn : n = x.gClients.length := h.1
  have hnl : n ≤ 200000000000000 := by rw [hn]; exact hfit.2.2.2.1
  obtain ⟨b, hb⟩ : ∃ z, w.heap.size = z := ⟨_, rfl⟩
  obtain ⟨X, hX⟩ : ∃ X, w.alloc (.cells #[.string IS, .string KI, .string KS, .slice A n c, .slice A' n' c'] 27) = X := ⟨_, rfl⟩
  have bX : Below w.heap.size w X := by rw [← hX]; exact (Below.refl _ _).alloc (Nat.le_refl _) _
  have x1 : X.heap[b]? = some (.cells #[.string IS, .string KI, .string KS, .slice A n c, .slice A' n' c'] 27 (0, 0)) := by rw [← hX, ← hb]; exact heap_alloc_last w _
  have ha := fun W (hB : Below X.heap.size X W) => answers17_any (K.later (bX.chain hB))
  have hpl := fun W (hB : Below X.heap.size X W) => (hp.below (bX.chain hB)).more (bX.chain hB).size
  obtain ⟨nl, hnl2⟩ : ∃ z, l.length = z := ⟨_, rfl⟩
  have HA := Lib.hid ha; have HXE := Lib.hid hX; have XW := Lib.hid bX; have X1 := Lib.hid x1; have HB := Lib.hid hb; have HPL := Lib.hid hpl; have HNL := Lib.hid hnl2; have HLZ := Lib.hid hlz
  have HCFG := Lib.hid (fun W (hB : Below X.heap.size X W) => h.below (bX.chain hB)); have HFIT := Lib.hid hfit; have KK := Lib.hid K; have HN := Lib.hid hn; have HP0 := Lib.hid hp
  rw [hv, hnl2]
  rw [hnl2] at hl
  have HV := Lib.hid hv
  clear ha x1 bX hX hb hv hIS hKI hKS h hfit K hn hpl hlz hp hnl2
  by_cases hsm : n ≤ 20 ∧ nl ≤ 70
  rotate_left
  · go_enter Tryd.func4, Tryd.ntmps4
    go_upto_region 1 with fail
    rw [HXE.out, HB.out]
    obtain ⟨⟨e0, e1, e2, e3, e4⟩, -⟩ := cellsK5_of X1.out
    by_cases h1 : n ≤ 20
    · have t1 : ¬ (20 : Int) < (n : Int) := by omega
      have t2 : (70 : Int) < (nl : Int) := by omega
      go_wp2_with fail
      refine (HA.out _ (Below.refl _ _)).mono ?_
      rintro e w1 ⟨rfl, hb1⟩
      have Q1 := Lib.hid hb1
      clear hb1
      dsimp only
      go_wp2_with fail
      go_ret
      exact ⟨rfl, XW.out.chain Q1.out⟩
    · have t1 : (20 : Int) < (n : Int) := by omega
      go_wp2_with fail
      refine (HA.out _ (Below.refl _ _)).mono ?_
      rintro e w1 ⟨rfl, hb1⟩
      have Q1 := Lib.hid hb1
      clear hb1
      dsimp only
      go_wp2_with fail
      go_ret
      exact ⟨rfl, XW.out.chain Q1.out⟩
  obtain ⟨h1, h2⟩ := hsm
  have t1 : ¬ (20 : Int) < (n : Int) := by omega
  have t2 : ¬ (70 : Int) < (nl : Int) := by omega
  go_enter Tryd.func4, Tryd.ntmps4
  go_upto_region 1 with fail
  rw [HXE.out, HB.out]
  obtain ⟨⟨e0, e1, e2, e3, e4⟩, -⟩ := cellsK5_of X1.out
  go_wp2_with fail
  clear e0 e1 e2 e3 e4
  go_loopw [5] (fun i W => ∃ j : Nat, j ≤ nl ∧ i = .int .i64 j ∧ Hid (Below X.heap.size X W ∧ ∀ k (hk : k < l.length), k < j → l[k].1.length + l[k].2.length ≤ 400)) (fun i _ => nl - (intOf i).toNat)
  case atStart => exact ⟨0, Nat.zero_le _, rfl, Lib.hid ⟨Below.refl _ _, fun k hk h => absurd h (Nat.not_lt_zero _)⟩⟩
  case round =>
    obtain ⟨j, hj, rfl, HR⟩ := hrel
    by_cases hlt : j < nl
    · have hjl : j < l.length := by have := HNL.out; omega
      have hjr : decide ((j : Int) < nl) = true := by simp; omega
      obtain ⟨a, ha, hab, d0, d1⟩ := HPL.out wr HR.out.1 j hjl
      obtain ⟨K0, hK0⟩ : ∃ z : ByteArray, (⟨l[j].1.toArray⟩ : ByteArray) = z := ⟨_, rfl⟩
      obtain ⟨V0, hV0⟩ : ∃ z : ByteArray, (⟨l[j].2.toArray⟩ : ByteArray) = z := ⟨_, rfl⟩
      have zK : K0.size = l[j].1.length := by rw [← hK0]; show l[j].1.toArray.size = _; simp
      have zV : V0.size = l[j].2.length := by rw [← hV0]; show l[j].2.toArray.size = _; simp
      have hzz := HLZ.out l[j] (List.getElem_mem hjl)
      rw [hK0] at d0
      rw [hV0] at d1
      subst ha
      have hj0 : (0 : Int) ≤ j := by omega
      have hj1 : (j : Int) < nl := by omega
      have hsum : IntKind.i64.wrap ((K0.size : Int) + (V0.size : Int)) = (K0.size : Int) + (V0.size : Int) := wraps_i64 _ (by omega) (by omega)
      have ZK := Lib.hid zK; have ZV := Lib.hid zV
      by_cases hbig : K0.size + V0.size ≤ 400
      · have t3 : ¬ (400 : Int) < (K0.size : Int) + (V0.size : Int) := by omega
        have hnx : ∀ k (hk : k < l.length), k < j + 1 → l[k].1.length + l[k].2.length ≤ 400 := fun k hk h => by
          by_cases e : k = j
          · subst e; have := ZK.out; have := ZV.out; omega
          · exact HR.out.2 k hk (by omega)
        have NX := Lib.hid hnx; have BR := Lib.hid HR.out.1
        clear hnx HR hzz zK zV hK0 hV0
        go_upto_region 6 with fail
        go_quiet (fail)
        go_wp2_with fail
        go_roundw
        case rel => exact ⟨j + 1, by omega, by go_num, Lib.hid ⟨belowDrewN BR.out _, NX.out⟩⟩
        case measure => simp [intOf]; omega
      · have t3 : (400 : Int) < (K0.size : Int) + (V0.size : Int) := by omega
        have BR := Lib.hid HR.out.1
        clear HR hzz zK zV hK0 hV0
        go_upto_region 6 with fail
        go_quiet (fail)
        go_wp2_with fail
        refine (HA.out _ (belowDrewN BR.out _)).mono ?_
        rintro e w1 ⟨rfl, hb1⟩
        have Q1 := Lib.hid ((belowDrewN BR.out _).chain hb1)
        clear hb1
        dsimp only
        go_wp2_with fail
        go_ret
        exact ⟨rfl, XW.out.chain Q1.out⟩
    · obtain rfl : j = nl := by omega
      have hjr : decide ((j : Int) < j) = false := by simp
      have BR := Lib.hid HR.out.1
      have hsml : ∀ y ∈ l, y.1.length + y.2.length ≤ 400 := fun y hy => by
        obtain ⟨k, hk, rfl⟩ := List.mem_iff_getElem.1 hy
        exact HR.out.2 k hk (by have := HNL.out; omega)
      have hbl : (buildL l).length ≤ 1000000 := by
        have h3 := buildL_len l 400 hsml
        have h4 := HNL.out
        have h5 : l.length * (3 * 400 + 2) ≤ 70 * (3 * 400 + 2) := Nat.mul_le_mul_right _ (by omega)
        omega
      obtain ⟨Q, hQ⟩ : ∃ z : ByteArray, (⟨(buildL l).toArray⟩ : ByteArray) = z := ⟨_, rfl⟩
      have hbu := fun W (hB : Below wr.heap.size wr W) => refBuild_any AL cl W.heap.size 400 l (by have := HNL.out; omega) (by decide) hsml W (Nat.le_refl _) (HPL.out W (BR.out.chain hB))
      rw [hQ, HNL.out] at hbu
      obtain ⟨T, hT⟩ : ∃ T, askP x (buildL l) = T := ⟨_, rfl⟩
      have hback := ask_back x l
      rw [hT] at hback
      obtain ⟨⟨v0, v1, v2, v3, v4, v5⟩, tt, bb⟩ := T
      dsimp only at hback
      obtain ⟨c0, h0⟩ : ∃ z : ByteArray, (⟨v0.toArray⟩ : ByteArray) = z := ⟨_, rfl⟩
      obtain ⟨c1, h1'⟩ : ∃ z : ByteArray, (⟨v1.toArray⟩ : ByteArray) = z := ⟨_, rfl⟩
      obtain ⟨c2, h2'⟩ : ∃ z : ByteArray, (⟨v2.toArray⟩ : ByteArray) = z := ⟨_, rfl⟩
      obtain ⟨c3, h3'⟩ : ∃ z : ByteArray, (⟨v3.toArray⟩ : ByteArray) = z := ⟨_, rfl⟩
      obtain ⟨c4, h4'⟩ : ∃ z : ByteArray, (⟨v4.toArray⟩ : ByteArray) = z := ⟨_, rfl⟩
      obtain ⟨c5, h5'⟩ : ∃ z : ByteArray, (⟨v5.toArray⟩ : ByteArray) = z := ⟨_, rfl⟩
      obtain ⟨ct0, h6'⟩ : ∃ z : ByteArray, (⟨tt.toArray⟩ : ByteArray) = z := ⟨_, rfl⟩
      have hc := fun W (hB : Below wr.heap.size wr W) => KK.out W (XW.out.chain (BR.out.chain hB)) x A n c A' n' c' (buildL l) (HCFG.out W (BR.out.chain hB)) HFIT.out (by have := HN.out; omega) hbl
      rw [hT, HV.out] at hc
      unfold AskSays AskV.val tv at hc
      dsimp only at hc
      rw [hQ, h0, h1', h2', h3', h4', h5', h6'] at hc
      have hte : ct0.toList.isEmpty = decide (tt = []) := by rw [← h6', ByteArray.toList_eq]; cases tt <;> simp
      have hce : ∀ W, Below wr.heap.size wr W → (W.cell? ⟨b, 0, none⟩ = some (.string IS) ∧ W.cell? ⟨b, 1, none⟩ = some (.string KI) ∧ W.cell? ⟨b, 2, none⟩ = some (.string KS) ∧ W.cell? ⟨b, 3, none⟩ = some (.slice A n c) ∧ W.cell? ⟨b, 4, none⟩ = some (.slice A' n' c')) := fun W hB => by
        have k2 := blk_below X1.out (BR.out.chain hB)
        exact ⟨cell_here k2, cell_here k2, cell_here k2, cell_here k2, cell_here k2⟩
      have HCB := Lib.hid hce; have HBU := Lib.hid hbu; have HC := Lib.hid hc; have HBK := Lib.hid hback; have HTE := Lib.hid hte
      have C0 := Lib.hid h0; have C1 := Lib.hid h1'; have C2 := Lib.hid h2'; have C3 := Lib.hid h3'; have C4 := Lib.hid h4'; have C5 := Lib.hid h5'
      clear hce hbu hc hback hte hT hsml hbl hQ h0 h1' h2' h3' h4' h5' h6' HR
      go_upto_region 8 with fail
      go_cut [6, 7, 8] from 9 (fun s6 s7 s8 wx => ∃ p, s6 = .pointer (some ⟨p, 0, none⟩) ∧ s7 = .string ct0 ∧ s8 = .bool bb ∧ Hid (GotT wr wx p c0 c1 c2 c3 c4 c5))
      case first =>
        refine wp_region_held_drew (S := (fun W => W.cell? ⟨b, 0, none⟩ = some (.string IS) ∧ W.cell? ⟨b, 1, none⟩ = some (.string KI) ∧ W.cell? ⟨b, 2, none⟩ = some (.string KS) ∧ W.cell? ⟨b, 3, none⟩ = some (.slice A n c) ∧ W.cell? ⟨b, 4, none⟩ = some (.slice A' n' c'))) (by kernel_rfl) (HCB.out _ (Below.refl wr.heap.size wr).drew) (fun hHeld => ?_)
        refine wpAnyH_take (i := 0) (oi := _) (v := ?v76001) (by simp only [List.getElem?_toArray, List.getElem?_cons_succ, List.getElem?_cons_zero]; rfl) (by kernel_rfl) (by kernel_rfl) (by kernel_rfl) (by exact fun _ _ _ h => h) (Or.inl ⟨by rfl, ?hy76001⟩) (by assumption) ?rest76001
        case hy76001 => (intro w hSw; (try dsimp only at hSw); go_simp; try with_reducible rfl)
        try simp only [Act.put, List.setIfInBounds_toArray, List.set_cons_zero, List.set_cons_succ]
        refine wpAnyH_take (i := 1) (oi := _) (v := ?v76002) (by simp only [List.getElem?_toArray, List.getElem?_cons_succ, List.getElem?_cons_zero]; rfl) (by kernel_rfl) (by kernel_rfl) (by kernel_rfl) (by exact fun _ _ _ h => h) (Or.inl ⟨by rfl, ?hy76002⟩) (by assumption) ?rest76002
        case hy76002 => (intro w hSw; (try dsimp only at hSw); go_simp; try with_reducible rfl)
        try simp only [Act.put, List.setIfInBounds_toArray, List.set_cons_zero, List.set_cons_succ]
        refine wpAnyH_ready (rs := [2, 8]) (by kernel_rfl) (by simp) ?_
        refine AllReadyH.cons (o := _) (by simp only [List.getElem?_toArray, List.getElem?_cons_succ, List.getElem?_cons_zero]; rfl) (fun K hK => ?_) (AllReadyH.cons (o := _) (by simp only [List.getElem?_toArray, List.getElem?_cons_succ, List.getElem?_cons_zero]; rfl) (fun K hK => ?_) AllReadyH.nil)
        · go_simp
          go_at_call 10
          (with_reducible refine (HBU.out _ ((Below.refl wr.heap.size wr).drew)).mono ?_)
          rintro e3 w3 ⟨rfl, hb3⟩
          have P3 := Lib.hid (((Below.refl wr.heap.size wr).drew).chain hb3)
          clear hb3
          dsimp only
          refine hK.out _ _ (HCB.out _ P3.out) (fun hHeld => ?_)
          clear hK K
          try simp only [Act.put, List.setIfInBounds_toArray, List.set_cons_zero, List.set_cons_succ]
          refine wpAnyH_ready (rs := [3, 8]) (by kernel_rfl) (by simp) ?_
          refine AllReadyH.cons (o := _) (by simp only [List.getElem?_toArray, List.getElem?_cons_succ, List.getElem?_cons_zero]; rfl) (fun K hK => ?_) (AllReadyH.cons (o := _) (by simp only [List.getElem?_toArray, List.getElem?_cons_succ, List.getElem?_cons_zero]; rfl) (fun K hK => ?_) AllReadyH.nil)
          · go_simp
            go_at_call 8
            (with_reducible refine (HC.out _ (P3.out)).mono ?_)
            rintro e4 w4 ⟨rfl, hb4⟩
            have P4 := Lib.hid ((P3.out).chain hb4)
            clear hb4
            dsimp only
            refine hK.out _ _ (HCB.out _ P4.out) (fun hHeld => ?_)
            clear hK K
            try simp only [Act.put, List.setIfInBounds_toArray, List.set_cons_zero, List.set_cons_succ]
            refine wpAnyH_take (i := 4) (oi := _) (v := ?v76005) (by simp only [List.getElem?_toArray, List.getElem?_cons_succ, List.getElem?_cons_zero]; rfl) (by kernel_rfl) (by kernel_rfl) (by kernel_rfl) (by exact fun _ _ _ h => h) (Or.inl ⟨by rfl, ?hy76005⟩) (by assumption) ?rest76005
            case hy76005 => (intro w hSw; (try dsimp only at hSw); go_simp; try with_reducible rfl)
            try simp only [Act.put, List.setIfInBounds_toArray, List.set_cons_zero, List.set_cons_succ]
            refine wpAnyH_take (i := 5) (oi := _) (v := ?v76006) (by simp only [List.getElem?_toArray, List.getElem?_cons_succ, List.getElem?_cons_zero]; rfl) (by kernel_rfl) (by kernel_rfl) (by kernel_rfl) (by exact fun _ _ _ h => h) (Or.inl ⟨by rfl, ?hy76006⟩) (by assumption) ?rest76006
            case hy76006 => (intro w hSw; (try dsimp only at hSw); go_simp; try with_reducible rfl)
            try simp only [Act.put, List.setIfInBounds_toArray, List.set_cons_zero, List.set_cons_succ]
            refine wpAnyH_take (i := 6) (oi := _) (v := ?v76007) (by simp only [List.getElem?_toArray, List.getElem?_cons_succ, List.getElem?_cons_zero]; rfl) (by kernel_rfl) (by kernel_rfl) (by kernel_rfl) (by exact fun _ _ _ h => h) (Or.inl ⟨by rfl, ?hy76007⟩) (by assumption) ?rest76007
            case hy76007 => (intro w hSw; (try dsimp only at hSw); go_simp; try with_reducible rfl)
            try simp only [Act.put, List.setIfInBounds_toArray, List.set_cons_zero, List.set_cons_succ]
            refine wpAnyH_take (i := 7) (oi := _) (v := ?v76008) (by simp only [List.getElem?_toArray, List.getElem?_cons_succ, List.getElem?_cons_zero]; rfl) (by kernel_rfl) (by kernel_rfl) (by kernel_rfl) (by exact fun _ _ _ h => h) (Or.inl ⟨by rfl, ?hy76008⟩) (by assumption) ?rest76008
            case hy76008 => (intro w hSw; (try dsimp only at hSw); go_simp; try with_reducible rfl)
            try simp only [Act.put, List.setIfInBounds_toArray, List.set_cons_zero, List.set_cons_succ]
            refine wpAnyH_ready (rs := [8]) (by kernel_rfl) (by simp) ?_
            refine AllReadyH.cons (o := _) (by simp only [List.getElem?_toArray, List.getElem?_cons_succ, List.getElem?_cons_zero]; rfl) (fun K hK => ?_) AllReadyH.nil
            go_simp
            obtain ⟨X9, hX9⟩ : ∃ X, w4.alloc (.cells #[.string ⟨#[]⟩, .string ⟨#[]⟩, .string ⟨#[]⟩, .string ⟨#[]⟩, .string ⟨#[]⟩, .string ⟨#[]⟩] 30) = X := ⟨_, rfl⟩
            have hx := (P4.out).alloc (P4.out).size (.cells #[.string ⟨#[]⟩, .string ⟨#[]⟩, .string ⟨#[]⟩, .string ⟨#[]⟩, .string ⟨#[]⟩, .string ⟨#[]⟩] 30)
            have hxq := heap_alloc_last w4 (.cells #[.string ⟨#[]⟩, .string ⟨#[]⟩, .string ⟨#[]⟩, .string ⟨#[]⟩, .string ⟨#[]⟩, .string ⟨#[]⟩] 30)
            rw [hX9] at hx hxq ⊢
            have PX := Lib.hid hx; have AX := Lib.hid hxq; have LX := Lib.hid (P4.out).size
            clear hX9 hx hxq
            obtain ⟨⟨r0, r1, r2, r3, r4, r5⟩, f0, f1, f2, f3, f4, f5⟩ := cellsK6_of AX.out
            refine hK.out _ _ (HCB.out _ PX.out) (fun hHeld => ?_)
            clear hK K
            try simp only [Act.put, List.setIfInBounds_toArray, List.set_cons_zero, List.set_cons_succ]
            refine wpAnyH_ready (rs := [9]) (by kernel_rfl) (by simp) ?_
            refine AllReadyH.cons (o := _) (by simp only [List.getElem?_toArray, List.getElem?_cons_succ, List.getElem?_cons_zero]; rfl) (fun K hK => ?_) AllReadyH.nil
            go_simp
            refine hK.out _ _ (HCB.out _ (setK6_below PX.out LX.out _ _ _ _ _ _)) (fun hHeld => ?_)
            clear hK K
            try simp only [Act.put, List.setIfInBounds_toArray, List.set_cons_zero, List.set_cons_succ]
            refine wpAnyH_take (i := 10) (oi := _) (v := ?v76011) (by simp only [List.getElem?_toArray, List.getElem?_cons_succ, List.getElem?_cons_zero]; rfl) (by kernel_rfl) (by kernel_rfl) (by kernel_rfl) (by exact fun _ _ _ h => h) (Or.inl ⟨by rfl, ?hy76011⟩) (by assumption) ?rest76011
            case hy76011 => (intro w hSw; (try dsimp only at hSw); go_simp; try with_reducible rfl)
            try simp only [Act.put, List.setIfInBounds_toArray, List.set_cons_zero, List.set_cons_succ]
            refine wpAnyH_take (i := 11) (oi := _) (v := ?v76012) (by simp only [List.getElem?_toArray, List.getElem?_cons_succ, List.getElem?_cons_zero]; rfl) (by kernel_rfl) (by kernel_rfl) (by kernel_rfl) (by exact fun _ _ _ h => h) (Or.inl ⟨by rfl, ?hy76012⟩) (by assumption) ?rest76012
            case hy76012 => (intro w hSw; (try dsimp only at hSw); go_simp; try with_reducible rfl)
            try simp only [Act.put, List.setIfInBounds_toArray, List.set_cons_zero, List.set_cons_succ]
            refine wpAnyH_done (by kernel_rfl) ?_ _
            go_wp2
            go_meet
            first
              | case rel => exact ⟨_, rfl, rfl, rfl, Lib.hid (gotT_at P4.out LX.out A4.out)⟩
              | case rel => exact ⟨_, rfl, rfl, rfl, Lib.hid (gotT_at PX.out LX.out AX.out)⟩
          · go_simp
            obtain ⟨X9, hX9⟩ : ∃ X, w3.alloc (.cells #[.string ⟨#[]⟩, .string ⟨#[]⟩, .string ⟨#[]⟩, .string ⟨#[]⟩, .string ⟨#[]⟩, .string ⟨#[]⟩] 30) = X := ⟨_, rfl⟩
            have hx := (P3.out).alloc (P3.out).size (.cells #[.string ⟨#[]⟩, .string ⟨#[]⟩, .string ⟨#[]⟩, .string ⟨#[]⟩, .string ⟨#[]⟩, .string ⟨#[]⟩] 30)
            have hxq := heap_alloc_last w3 (.cells #[.string ⟨#[]⟩, .string ⟨#[]⟩, .string ⟨#[]⟩, .string ⟨#[]⟩, .string ⟨#[]⟩, .string ⟨#[]⟩] 30)
            rw [hX9] at hx hxq ⊢
            have PX := Lib.hid hx; have AX := Lib.hid hxq; have LX := Lib.hid (P3.out).size
            clear hX9 hx hxq
            refine hK.out _ _ (HCB.out _ PX.out) (fun hHeld => ?_)
            clear hK K
            try simp only [Act.put, List.setIfInBounds_toArray, List.set_cons_zero, List.set_cons_succ]
            refine wpAnyH_ready (rs := [3]) (by kernel_rfl) (by simp) ?_
            refine AllReadyH.cons (o := _) (by simp only [List.getElem?_toArray, List.getElem?_cons_succ, List.getElem?_cons_zero]; rfl) (fun K hK => ?_) AllReadyH.nil
            go_simp
            go_at_call 8
            (with_reducible refine (HC.out _ (PX.out)).mono ?_)
            rintro e4 w4 ⟨rfl, hb4⟩
            have P4 := Lib.hid ((PX.out).chain hb4)
            have A4 := Lib.hid (blk_below AX.out hb4)
            clear hb4
            dsimp only
            obtain ⟨⟨r0, r1, r2, r3, r4, r5⟩, f0, f1, f2, f3, f4, f5⟩ := cellsK6_of A4.out
            refine hK.out _ _ (HCB.out _ P4.out) (fun hHeld => ?_)
            clear hK K
            try simp only [Act.put, List.setIfInBounds_toArray, List.set_cons_zero, List.set_cons_succ]
            refine wpAnyH_take (i := 4) (oi := _) (v := ?v76014) (by simp only [List.getElem?_toArray, List.getElem?_cons_succ, List.getElem?_cons_zero]; rfl) (by kernel_rfl) (by kernel_rfl) (by kernel_rfl) (by exact fun _ _ _ h => h) (Or.inl ⟨by rfl, ?hy76014⟩) (by assumption) ?rest76014
            case hy76014 => (intro w hSw; (try dsimp only at hSw); go_simp; try with_reducible rfl)
            try simp only [Act.put, List.setIfInBounds_toArray, List.set_cons_zero, List.set_cons_succ]
            refine wpAnyH_take (i := 5) (oi := _) (v := ?v76015) (by simp only [List.getElem?_toArray, List.getElem?_cons_succ, List.getElem?_cons_zero]; rfl) (by kernel_rfl) (by kernel_rfl) (by kernel_rfl) (by exact fun _ _ _ h => h) (Or.inl ⟨by rfl, ?hy76015⟩) (by assumption) ?rest76015
            case hy76015 => (intro w hSw; (try dsimp only at hSw); go_simp; try with_reducible rfl)
            try simp only [Act.put, List.setIfInBounds_toArray, List.set_cons_zero, List.set_cons_succ]
            refine wpAnyH_take (i := 6) (oi := _) (v := ?v76016) (by simp only [List.getElem?_toArray, List.getElem?_cons_succ, List.getElem?_cons_zero]; rfl) (by kernel_rfl) (by kernel_rfl) (by kernel_rfl) (by exact fun _ _ _ h => h) (Or.inl ⟨by rfl, ?hy76016⟩) (by assumption) ?rest76016
            case hy76016 => (intro w hSw; (try dsimp only at hSw); go_simp; try with_reducible rfl)
            try simp only [Act.put, List.setIfInBounds_toArray, List.set_cons_zero, List.set_cons_succ]
            refine wpAnyH_take (i := 7) (oi := _) (v := ?v76017) (by simp only [List.getElem?_toArray, List.getElem?_cons_succ, List.getElem?_cons_zero]; rfl) (by kernel_rfl) (by kernel_rfl) (by kernel_rfl) (by exact fun _ _ _ h => h) (Or.inl ⟨by rfl, ?hy76017⟩) (by assumption) ?rest76017
            case hy76017 => (intro w hSw; (try dsimp only at hSw); go_simp; try with_reducible rfl)
            try simp only [Act.put, List.setIfInBounds_toArray, List.set_cons_zero, List.set_cons_succ]
            refine wpAnyH_ready (rs := [9]) (by kernel_rfl) (by simp) ?_
            refine AllReadyH.cons (o := _) (by simp only [List.getElem?_toArray, List.getElem?_cons_succ, List.getElem?_cons_zero]; rfl) (fun K hK => ?_) AllReadyH.nil
            go_simp
            refine hK.out _ _ (HCB.out _ (setK6_below P4.out LX.out _ _ _ _ _ _)) (fun hHeld => ?_)
            clear hK K
            try simp only [Act.put, List.setIfInBounds_toArray, List.set_cons_zero, List.set_cons_succ]
            refine wpAnyH_take (i := 10) (oi := _) (v := ?v76019) (by simp only [List.getElem?_toArray, List.getElem?_cons_succ, List.getElem?_cons_zero]; rfl) (by kernel_rfl) (by kernel_rfl) (by kernel_rfl) (by exact fun _ _ _ h => h) (Or.inl ⟨by rfl, ?hy76019⟩) (by assumption) ?rest76019
            case hy76019 => (intro w hSw; (try dsimp only at hSw); go_simp; try with_reducible rfl)
            try simp only [Act.put, List.setIfInBounds_toArray, List.set_cons_zero, List.set_cons_succ]
            refine wpAnyH_take (i := 11) (oi := _) (v := ?v76020) (by simp only [List.getElem?_toArray, List.getElem?_cons_succ, List.getElem?_cons_zero]; rfl) (by kernel_rfl) (by kernel_rfl) (by kernel_rfl) (by exact fun _ _ _ h => h) (Or.inl ⟨by rfl, ?hy76020⟩) (by assumption) ?rest76020
            case hy76020 => (intro w hSw; (try dsimp only at hSw); go_simp; try with_reducible rfl)
            try simp only [Act.put, List.setIfInBounds_toArray, List.set_cons_zero, List.set_cons_succ]
            refine wpAnyH_done (by kernel_rfl) ?_ _
            go_wp2
            go_meet
            first
              | case rel => exact ⟨_, rfl, rfl, rfl, Lib.hid (gotT_at P4.out LX.out A4.out)⟩
              | case rel => exact ⟨_, rfl, rfl, rfl, Lib.hid (gotT_at PX.out LX.out AX.out)⟩
        · go_simp
          obtain ⟨X9, hX9⟩ : ∃ X, (wr.alloc (.cells #[.string ⟨#[]⟩, .string ⟨#[]⟩, .string ⟨#[]⟩, .string ⟨#[]⟩, .string ⟨#[]⟩, .string ⟨#[]⟩] 30)).drew = X := ⟨_, rfl⟩
          have hx := ((Below.refl wr.heap.size wr).alloc (Nat.le_refl _) (.cells #[.string ⟨#[]⟩, .string ⟨#[]⟩, .string ⟨#[]⟩, .string ⟨#[]⟩, .string ⟨#[]⟩, .string ⟨#[]⟩] 30)).drew
          have hxq : (wr.alloc (.cells #[.string ⟨#[]⟩, .string ⟨#[]⟩, .string ⟨#[]⟩, .string ⟨#[]⟩, .string ⟨#[]⟩, .string ⟨#[]⟩] 30)).drew.heap[wr.heap.size]? = some (.cells #[.string ⟨#[]⟩, .string ⟨#[]⟩, .string ⟨#[]⟩, .string ⟨#[]⟩, .string ⟨#[]⟩, .string ⟨#[]⟩] 30 (0, 0)) := heap_alloc_last wr _
          rw [hX9] at hx hxq ⊢
          have PX := Lib.hid hx; have AX := Lib.hid hxq; have LX := Lib.hid (Nat.le_refl wr.heap.size)
          clear hX9 hx hxq
          refine hK.out _ _ (HCB.out _ PX.out) (fun hHeld => ?_)
          clear hK K
          try simp only [Act.put, List.setIfInBounds_toArray, List.set_cons_zero, List.set_cons_succ]
          refine wpAnyH_ready (rs := [2]) (by kernel_rfl) (by simp) ?_
          refine AllReadyH.cons (o := _) (by simp only [List.getElem?_toArray, List.getElem?_cons_succ, List.getElem?_cons_zero]; rfl) (fun K hK => ?_) AllReadyH.nil
          go_simp
          go_at_call 10
          (with_reducible refine (HBU.out _ (PX.out)).mono ?_)
          rintro e3 w3 ⟨rfl, hb3⟩
          have P3 := Lib.hid ((PX.out).chain hb3)
          have A3 := Lib.hid (blk_below AX.out hb3)
          clear hb3
          dsimp only
          refine hK.out _ _ (HCB.out _ P3.out) (fun hHeld => ?_)
          clear hK K
          try simp only [Act.put, List.setIfInBounds_toArray, List.set_cons_zero, List.set_cons_succ]
          refine wpAnyH_ready (rs := [3]) (by kernel_rfl) (by simp) ?_
          refine AllReadyH.cons (o := _) (by simp only [List.getElem?_toArray, List.getElem?_cons_succ, List.getElem?_cons_zero]; rfl) (fun K hK => ?_) AllReadyH.nil
          go_simp
          go_at_call 8
          (with_reducible refine (HC.out _ (P3.out)).mono ?_)
          rintro e4 w4 ⟨rfl, hb4⟩
          have P4 := Lib.hid ((P3.out).chain hb4)
          have A4 := Lib.hid (blk_below A3.out hb4)
          clear hb4
          dsimp only
          obtain ⟨⟨r0, r1, r2, r3, r4, r5⟩, f0, f1, f2, f3, f4, f5⟩ := cellsK6_of A4.out
          refine hK.out _ _ (HCB.out _ P4.out) (fun hHeld => ?_)
          clear hK K
          try simp only [Act.put, List.setIfInBounds_toArray, List.set_cons_zero, List.set_cons_succ]
          refine wpAnyH_take (i := 4) (oi := _) (v := ?v76023) (by simp only [List.getElem?_toArray, List.getElem?_cons_succ, List.getElem?_cons_zero]; rfl) (by kernel_rfl) (by kernel_rfl) (by kernel_rfl) (by exact fun _ _ _ h => h) (Or.inl ⟨by rfl, ?hy76023⟩) (by assumption) ?rest76023
          case hy76023 => (intro w hSw; (try dsimp only at hSw); go_simp; try with_reducible rfl)
          try simp only [Act.put, List.setIfInBounds_toArray, List.set_cons_zero, List.set_cons_succ]
          refine wpAnyH_take (i := 5) (oi := _) (v := ?v76024) (by simp only [List.getElem?_toArray, List.getElem?_cons_succ, List.getElem?_cons_zero]; rfl) (by kernel_rfl) (by kernel_rfl) (by kernel_rfl) (by exact fun _ _ _ h => h) (Or.inl ⟨by rfl, ?hy76024⟩) (by assumption) ?rest76024
          case hy76024 => (intro w hSw; (try dsimp only at hSw); go_simp; try with_reducible rfl)
          try simp only [Act.put, List.setIfInBounds_toArray, List.set_cons_zero, List.set_cons_succ]
          refine wpAnyH_take (i := 6) (oi := _) (v := ?v76025) (by simp only [List.getElem?_toArray, List.getElem?_cons_succ, List.getElem?_cons_zero]; rfl) (by kernel_rfl) (by kernel_rfl) (by kernel_rfl) (by exact fun _ _ _ h => h) (Or.inl ⟨by rfl, ?hy76025⟩) (by assumption) ?rest76025
          case hy76025 => (intro w hSw; (try dsimp only at hSw); go_simp; try with_reducible rfl)
          try simp only [Act.put, List.setIfInBounds_toArray, List.set_cons_zero, List.set_cons_succ]
          refine wpAnyH_take (i := 7) (oi := _) (v := ?v76026) (by simp only [List.getElem?_toArray, List.getElem?_cons_succ, List.getElem?_cons_zero]; rfl) (by kernel_rfl) (by kernel_rfl) (by kernel_rfl) (by exact fun _ _ _ h => h) (Or.inl ⟨by rfl, ?hy76026⟩) (by assumption) ?rest76026
          case hy76026 => (intro w hSw; (try dsimp only at hSw); go_simp; try with_reducible rfl)
          try simp only [Act.put, List.setIfInBounds_toArray, List.set_cons_zero, List.set_cons_succ]
          refine wpAnyH_ready (rs := [9]) (by kernel_rfl) (by simp) ?_
          refine AllReadyH.cons (o := _) (by simp only [List.getElem?_toArray, List.getElem?_cons_succ, List.getElem?_cons_zero]; rfl) (fun K hK => ?_) AllReadyH.nil
          go_simp
          refine hK.out _ _ (HCB.out _ (setK6_below P4.out LX.out _ _ _ _ _ _)) (fun hHeld => ?_)
          clear hK K
          try simp only [Act.put, List.setIfInBounds_toArray, List.set_cons_zero, List.set_cons_succ]
          refine wpAnyH_take (i := 10) (oi := _) (v := ?v76028) (by simp only [List.getElem?_toArray, List.getElem?_cons_succ, List.getElem?_cons_zero]; rfl) (by kernel_rfl) (by kernel_rfl) (by kernel_rfl) (by exact fun _ _ _ h => h) (Or.inl ⟨by rfl, ?hy76028⟩) (by assumption) ?rest76028
          case hy76028 => (intro w hSw; (try dsimp only at hSw); go_simp; try with_reducible rfl)
          try simp only [Act.put, List.setIfInBounds_toArray, List.set_cons_zero, List.set_cons_succ]
          refine wpAnyH_take (i := 11) (oi := _) (v := ?v76029) (by simp only [List.getElem?_toArray, List.getElem?_cons_succ, List.getElem?_cons_zero]; rfl) (by kernel_rfl) (by kernel_rfl) (by kernel_rfl) (by exact fun _ _ _ h => h) (Or.inl ⟨by rfl, ?hy76029⟩) (by assumption) ?rest76029
          case hy76029 => (intro w hSw; (try dsimp only at hSw); go_simp; try with_reducible rfl)
          try simp only [Act.put, List.setIfInBounds_toArray, List.set_cons_zero, List.set_cons_succ]
          refine wpAnyH_done (by kernel_rfl) ?_ _
          go_wp2
          go_meet
          first
            | case rel => exact ⟨_, rfl, rfl, rfl, Lib.hid (gotT_at P4.out LX.out A4.out)⟩
            | case rel => exact ⟨_, rfl, rfl, rfl, Lib.hid (gotT_at PX.out LX.out AX.out)⟩
      case rest =>
        obtain ⟨p, rfl, rfl, rfl, HG⟩ := hcut
        obtain ⟨hg1, hg2, hg3⟩ := HG.out
        have BC := Lib.hid (BR.out.chain hg1); have KA := Lib.hid hg3
        clear HG hg1 hg2 hg3
        by_cases hcase : tt ≠ [] ∧ bb = false
        · have hz := HBK.out.1 hcase
          obtain ⟨hz0, hz1⟩ := hcase
          subst hz1
          have te : ct0.toList.isEmpty = false := by rw [HTE.out]; simpa using hz0
          unfold noAsk at hz
          injection hz with z0 z1 z2 z3 z4 z5
          obtain rfl : c0 = ⟨#[]⟩ := by rw [← C0.out, z0]
          obtain rfl : c1 = ⟨#[]⟩ := by rw [← C1.out, z1]
          obtain rfl : c2 = ⟨#[]⟩ := by rw [← C2.out, z2]
          obtain rfl : c3 = ⟨#[]⟩ := by rw [← C3.out, z3]
          obtain rfl : c4 = ⟨#[]⟩ := by rw [← C4.out, z4]
          obtain rfl : c5 = ⟨#[]⟩ := by rw [← C5.out, z5]
          clear z0 z1 z2 z3 z4 z5 hz0
          go_wp2_with fail
          refine (HA.out _ BC.out).mono ?_
          rintro e w5 ⟨rfl, hb5⟩
          have B5 := Lib.hid (BC.out.chain hb5)
          obtain ⟨⟨m0, m1, m2, m3, m4, m5⟩, -⟩ := cellsK6_of (blk_below KA.out hb5)
          clear hb5
          dsimp only
          go_wp2_with fail
          go_ret
          exact ⟨rfl, XW.out.chain B5.out⟩
        obtain ⟨r, hf, hre0, hv1⟩ := HBK.out.2 hcase
        obtain ⟨ID, hID⟩ : ∃ z : ByteArray, tv r.cID = .string z := ⟨_, rfl⟩
        obtain ⟨SE, hSE⟩ : ∃ z : ByteArray, tv r.cSecret = .string z := ⟨_, rfl⟩
        have hcl := refClient_any x A n c A' n' c' v0 wc (HCFG.out wc BC.out) (by omega)
        unfold CliSays at hcl
        rw [hf] at hcl
        dsimp only at hcl
        rw [hID, hSE, C0.out, HV.out] at hcl
        have hget := fun W (hB : Below X.heap.size X W) => (show Calls Tryd.prog 13 #[.slice AL j cl, .string ⟨#[114, 101, 100, 105, 114, 101, 99, 116, 95, 117, 114, 105]⟩] W fun e w' => e = .returned (.string c1) ∧ W = w' from by
          have h9 := refGet_any AL cl W.heap.size l kRed (by have := HNL.out; unfold maxLen; omega) W (HPL.out W hB)
          rw [HNL.out] at h9
          rw [← C1.out, hv1]
          exact h9)
        have HCLI := Lib.hid hcl; have HFD := Lib.hid hf; have HRE0 := Lib.hid hre0; have HID := Lib.hid hID; have HSE := Lib.hid hSE; have HGET := Lib.hid hget
        have hcc : (c1.toList == c1.toList) = true := by simp
        clear hcl hf hre0 hv1 hID hSE hget
        by_cases ht0 : tt = []
        · have te : ct0.toList.isEmpty = true := by rw [HTE.out]; simpa using ht0
          clear hcase ht0
          obtain ⟨⟨e0, e1, e2, e3, e4⟩, -⟩ := cellsK5_of (blk_below X1.out BC.out)
          obtain ⟨⟨m0, m1, m2, m3, m4, m5⟩, -⟩ := cellsK6_of KA.out
          go_wp2_with fail
          refine HCLI.out.mono ?_
          rintro e w5 ⟨⟨u, rfl, hrt⟩, hb5⟩
          obtain ⟨At, ct, rfl⟩ := rdt_form hrt
          obtain ⟨nt, hnt⟩ : ∃ z, r.cReds.length = z := ⟨_, rfl⟩
          have hred := fun W (hB : Below wc.heap.size wc W) => refRedirect_any r At nt ct v1 W hnt.symm (by have h9 := (HFIT.out.2.2.2.2.1 r (find_mem HFD.out)).2.2.1; omega) (by have h9 := hrt.below hB; rw [hnt] at h9; exact h9)
          rw [HRE0.out, HID.out, HSE.out, C1.out] at hred
          have HRED := Lib.hid hred
          rw [hnt]
          clear hred hrt hnt
          obtain ⟨p9, hp9⟩ : ∃ z, w5.heap.size = z := ⟨_, rfl⟩
          obtain ⟨V9, hV9⟩ : ∃ W, w5.alloc (.cells #[.string ID, .string SE, .slice At nt ct] 43) = W := ⟨_, rfl⟩
          have hv9 : Below w5.heap.size w5 V9 := by rw [← hV9]; exact (Below.refl _ _).alloc (Nat.le_refl _) _
          have k9 : V9.heap[p9]? = some (.cells #[.string ID, .string SE, .slice At nt ct] 43 (0, 0)) := by rw [← hV9, ← hp9]; exact heap_alloc_last w5 _
          have BCV := Lib.hid (hb5.chain hv9)
          have B9 := Lib.hid (BC.out.chain BCV.out); have K9 := Lib.hid k9; have HV9 := Lib.hid hV9; have HP9 := Lib.hid hp9
          have HCP := Lib.hid (show ∀ W, Below V9.heap.size V9 W → (W.cell? ⟨p, 1, none⟩ = some (.string c1) ∧ W.cell? ⟨p9, 0, none⟩ = some (.string ID) ∧ W.cell? ⟨p9, 1, none⟩ = some (.string SE) ∧ W.cell? ⟨p9, 2, none⟩ = some (.slice At nt ct)) from fun W hB => by
            have k1 := blk_below KA.out (BCV.out.chain hB)
            have k2 := blk_below K9.out hB
            exact ⟨cell_here k1, cell_here k2, cell_here k2, cell_here k2⟩)
          have HA9 := Lib.hid (fun W (hB : Below V9.heap.size V9 W) => HA.out W (B9.out.chain hB))
          have HRE := Lib.hid (fun W (hB : Below V9.heap.size V9 W) => HRED.out W (BCV.out.chain hB))
          have HGE := Lib.hid (fun W (hB : Below V9.heap.size V9 W) => HGET.out W (B9.out.chain hB))
          clear hb5 hv9 k9 hV9 hp9 e0 e1 e2 e3 e4 m0 m1 m2 m3 m4 m5
          dsimp only
          go_upto_region 12 with fail
          rw [HV9.out, HP9.out]
          refine wp_region_held_drew (S := (fun W => W.cell? ⟨p, 1, none⟩ = some (.string c1) ∧ W.cell? ⟨p9, 0, none⟩ = some (.string ID) ∧ W.cell? ⟨p9, 1, none⟩ = some (.string SE) ∧ W.cell? ⟨p9, 2, none⟩ = some (.slice At nt ct))) (by kernel_rfl) (HCP.out _ (Below.refl V9.heap.size V9).drew) (fun hHeld => ?_)
          refine wpAnyH_ready (rs := [0]) (by kernel_rfl) (by simp) ?_
          refine AllReadyH.cons (o := _) (by simp only [List.getElem?_toArray, List.getElem?_cons_succ, List.getElem?_cons_zero]; rfl) (fun K hK => ?_) AllReadyH.nil
          go_simp
          go_at_call 7
          (with_reducible refine (HA9.out _ ((Below.refl V9.heap.size V9).drew)).mono ?_)
          rintro e9 w21 ⟨rfl, hb21⟩
          have R1 := Lib.hid (((Below.refl V9.heap.size V9).drew).chain hb21)
          clear hb21
          dsimp only
          refine hK.out _ _ (HCP.out _ R1.out) (fun hHeld => ?_)
          clear hK K
          try simp only [Act.put, List.setIfInBounds_toArray, List.set_cons_zero, List.set_cons_succ]
          refine wpAnyH_take (i := 1) (oi := _) (v := ?v76149) (by simp only [List.getElem?_toArray, List.getElem?_cons_succ, List.getElem?_cons_zero]; rfl) (by kernel_rfl) (by kernel_rfl) (by kernel_rfl) (by exact fun _ _ _ h => h) (Or.inl ⟨by rfl, ?hy76149⟩) (by assumption) ?rest76149
          case hy76149 => (intro w hSw; (try dsimp only at hSw); go_simp; try with_reducible rfl)
          try simp only [Act.put, List.setIfInBounds_toArray, List.set_cons_zero, List.set_cons_succ]
          refine wpAnyH_take (i := 2) (oi := _) (v := ?v76150) (by simp only [List.getElem?_toArray, List.getElem?_cons_succ, List.getElem?_cons_zero]; rfl) (by kernel_rfl) (by kernel_rfl) (by kernel_rfl) (by exact fun _ _ _ h => h) (Or.inl ⟨by rfl, ?hy76150⟩) (by assumption) ?rest76150
          case hy76150 => (intro w hSw; (try dsimp only at hSw); go_simp; try with_reducible rfl)
          try simp only [Act.put, List.setIfInBounds_toArray, List.set_cons_zero, List.set_cons_succ]
          refine wpAnyH_take (i := 3) (oi := _) (v := ?v76151) (by simp only [List.getElem?_toArray, List.getElem?_cons_succ, List.getElem?_cons_zero]; rfl) (by kernel_rfl) (by kernel_rfl) (by kernel_rfl) (by exact fun _ _ _ h => h) (Or.inl ⟨by rfl, ?hy76151⟩) (by assumption) ?rest76151
          case hy76151 => (intro w hSw; (try dsimp only at hSw); go_simp; try with_reducible rfl)
          try simp only [Act.put, List.setIfInBounds_toArray, List.set_cons_zero, List.set_cons_succ]
          refine wpAnyH_take (i := 4) (oi := _) (v := ?v76152) (by simp only [List.getElem?_toArray, List.getElem?_cons_succ, List.getElem?_cons_zero]; rfl) (by kernel_rfl) (by kernel_rfl) (by kernel_rfl) (by exact fun _ _ _ h => h) (Or.inl ⟨by rfl, ?hy76152⟩) (by assumption) ?rest76152
          case hy76152 => (intro w hSw; (try dsimp only at hSw); go_simp; try with_reducible rfl)
          try simp only [Act.put, List.setIfInBounds_toArray, List.set_cons_zero, List.set_cons_succ]
          refine wpAnyH_take (i := 5) (oi := _) (v := ?v76153) (by simp only [List.getElem?_toArray, List.getElem?_cons_succ, List.getElem?_cons_zero]; rfl) (by kernel_rfl) (by kernel_rfl) (by kernel_rfl) (by exact fun _ _ _ h => h) (Or.inl ⟨by rfl, ?hy76153⟩) (by assumption) ?rest76153
          case hy76153 => (intro w hSw; (try dsimp only at hSw); go_simp; try with_reducible rfl)
          try simp only [Act.put, List.setIfInBounds_toArray, List.set_cons_zero, List.set_cons_succ]
          refine wpAnyH_take (i := 6) (oi := _) (v := ?v76154) (by simp only [List.getElem?_toArray, List.getElem?_cons_succ, List.getElem?_cons_zero]; rfl) (by kernel_rfl) (by kernel_rfl) (by kernel_rfl) (by exact fun _ _ _ h => h) (Or.inl ⟨by rfl, ?hy76154⟩) (by assumption) ?rest76154
          case hy76154 => (intro w hSw; (try dsimp only at hSw); go_simp; try with_reducible rfl)
          try simp only [Act.put, List.setIfInBounds_toArray, List.set_cons_zero, List.set_cons_succ]
          refine wpAnyH_take (i := 7) (oi := _) (v := ?v76155) (by simp only [List.getElem?_toArray, List.getElem?_cons_succ, List.getElem?_cons_zero]; rfl) (by kernel_rfl) (by kernel_rfl) (by kernel_rfl) (by exact fun _ _ _ h => h) (Or.inl ⟨by rfl, ?hy76155⟩) (by assumption) ?rest76155
          case hy76155 => (intro w hSw; (try dsimp only at hSw); go_simp; try with_reducible rfl)
          try simp only [Act.put, List.setIfInBounds_toArray, List.set_cons_zero, List.set_cons_succ]
          refine wpAnyH_ready (rs := [8]) (by kernel_rfl) (by simp) ?_
          refine AllReadyH.cons (o := _) (by simp only [List.getElem?_toArray, List.getElem?_cons_succ, List.getElem?_cons_zero]; rfl) (fun K hK => ?_) AllReadyH.nil
          go_simp
          go_at_call 12
          (with_reducible refine (HRE.out _ (R1.out)).mono ?_)
          rintro e9 w22 ⟨rfl, hb22⟩
          have R2 := Lib.hid ((R1.out).chain hb22)
          clear hb22
          dsimp only
          refine hK.out _ _ (HCP.out _ R2.out) (fun hHeld => ?_)
          clear hK K
          try simp only [Act.put, List.setIfInBounds_toArray, List.set_cons_zero, List.set_cons_succ]
          refine wpAnyH_take (i := 9) (oi := _) (v := ?v76157) (by simp only [List.getElem?_toArray, List.getElem?_cons_succ, List.getElem?_cons_zero]; rfl) (by kernel_rfl) (by kernel_rfl) (by kernel_rfl) (by exact fun _ _ _ h => h) (Or.inl ⟨by rfl, ?hy76157⟩) (by assumption) ?rest76157
          case hy76157 => (intro w hSw; (try dsimp only at hSw); go_simp; try with_reducible rfl)
          try simp only [Act.put, List.setIfInBounds_toArray, List.set_cons_zero, List.set_cons_succ]
          refine wpAnyH_take (i := 10) (oi := _) (v := ?v76158) (by simp only [List.getElem?_toArray, List.getElem?_cons_succ, List.getElem?_cons_zero]; rfl) (by kernel_rfl) (by kernel_rfl) (by kernel_rfl) (by exact fun _ _ _ h => h) (Or.inl ⟨by rfl, ?hy76158⟩) (by assumption) ?rest76158
          case hy76158 => (intro w hSw; (try dsimp only at hSw); go_simp; try with_reducible rfl)
          try simp only [Act.put, List.setIfInBounds_toArray, List.set_cons_zero, List.set_cons_succ]
          refine wpAnyH_take (i := 11) (oi := _) (v := ?v76159) (by simp only [List.getElem?_toArray, List.getElem?_cons_succ, List.getElem?_cons_zero]; rfl) (by kernel_rfl) (by kernel_rfl) (by kernel_rfl) (by exact fun _ _ _ h => h) (Or.inl ⟨by rfl, ?hy76159⟩) (by assumption) ?rest76159
          case hy76159 => (intro w hSw; (try dsimp only at hSw); go_simp; try with_reducible rfl)
          try simp only [Act.put, List.setIfInBounds_toArray, List.set_cons_zero, List.set_cons_succ]
          refine wpAnyH_take (i := 12) (oi := _) (v := ?v76160) (by simp only [List.getElem?_toArray, List.getElem?_cons_succ, List.getElem?_cons_zero]; rfl) (by kernel_rfl) (by kernel_rfl) (by kernel_rfl) (by exact fun _ _ _ h => h) (Or.inl ⟨by rfl, ?hy76160⟩) (by assumption) ?rest76160
          case hy76160 => (intro w hSw; (try dsimp only at hSw); go_simp; try with_reducible rfl)
          try simp only [Act.put, List.setIfInBounds_toArray, List.set_cons_zero, List.set_cons_succ]
          refine wpAnyH_take (i := 13) (oi := _) (v := ?v76161) (by simp only [List.getElem?_toArray, List.getElem?_cons_succ, List.getElem?_cons_zero]; rfl) (by kernel_rfl) (by kernel_rfl) (by kernel_rfl) (by exact fun _ _ _ h => h) (Or.inl ⟨by rfl, ?hy76161⟩) (by assumption) ?rest76161
          case hy76161 => (intro w hSw; (try dsimp only at hSw); go_simp; try with_reducible rfl)
          try simp only [Act.put, List.setIfInBounds_toArray, List.set_cons_zero, List.set_cons_succ]
          refine wpAnyH_ready (rs := [14]) (by kernel_rfl) (by simp) ?_
          refine AllReadyH.cons (o := _) (by simp only [List.getElem?_toArray, List.getElem?_cons_succ, List.getElem?_cons_zero]; rfl) (fun K hK => ?_) AllReadyH.nil
          go_simp
          go_at_call 13
          (with_reducible refine (HGE.out _ (R2.out)).mono ?_)
          rintro e9 w23 ⟨rfl, rfl⟩
          dsimp only
          refine hK.out _ _ (HCP.out _ R2.out) (fun hHeld => ?_)
          clear hK K
          try simp only [Act.put, List.setIfInBounds_toArray, List.set_cons_zero, List.set_cons_succ]
          refine wpAnyH_take (i := 15) (oi := _) (v := ?v76163) (by simp only [List.getElem?_toArray, List.getElem?_cons_succ, List.getElem?_cons_zero]; rfl) (by kernel_rfl) (by kernel_rfl) (by kernel_rfl) (by exact fun _ _ _ h => h) (Or.inl ⟨by rfl, ?hy76163⟩) (by assumption) ?rest76163
          case hy76163 => (intro w hSw; (try dsimp only at hSw); go_simp; try with_reducible rfl)
          try simp only [Act.put, List.setIfInBounds_toArray, List.set_cons_zero, List.set_cons_succ]
          refine wpAnyH_take (i := 16) (oi := _) (v := ?v76164) (by simp only [List.getElem?_toArray, List.getElem?_cons_succ, List.getElem?_cons_zero]; rfl) (by kernel_rfl) (by kernel_rfl) (by kernel_rfl) (by exact fun _ _ _ h => h) (Or.inl ⟨by rfl, ?hy76164⟩) (by assumption) ?rest76164
          case hy76164 => (intro w hSw; (try dsimp only at hSw); go_simp; try with_reducible rfl)
          try simp only [Act.put, List.setIfInBounds_toArray, List.set_cons_zero, List.set_cons_succ]
          refine wpAnyH_take (i := 17) (oi := _) (v := ?v76165) (by simp only [List.getElem?_toArray, List.getElem?_cons_succ, List.getElem?_cons_zero]; rfl) (by kernel_rfl) (by kernel_rfl) (by kernel_rfl) (by exact fun _ _ _ h => h) (Or.inl ⟨by rfl, ?hy76165⟩) (by assumption) ?rest76165
          case hy76165 => (intro w hSw; (try dsimp only at hSw); go_simp; try with_reducible rfl)
          try simp only [Act.put, List.setIfInBounds_toArray, List.set_cons_zero, List.set_cons_succ]
          refine wpAnyH_done (by kernel_rfl) ?_ _
          go_wp2
          go_ret
          exact ⟨rfl, XW.out.chain (B9.out.chain R2.out)⟩
        · obtain rfl : bb = true := by
            cases bb with
            | true => rfl
            | false => exact absurd ⟨ht0, rfl⟩ hcase
          have te : ct0.toList.isEmpty = false := by rw [HTE.out]; simpa using ht0
          clear hcase ht0
          obtain ⟨⟨e0, e1, e2, e3, e4⟩, -⟩ := cellsK5_of (blk_below X1.out BC.out)
          obtain ⟨⟨m0, m1, m2, m3, m4, m5⟩, -⟩ := cellsK6_of KA.out
          go_wp2_with fail
          refine HCLI.out.mono ?_
          rintro e w5 ⟨⟨u, rfl, hrt⟩, hb5⟩
          obtain ⟨At, ct, rfl⟩ := rdt_form hrt
          obtain ⟨nt, hnt⟩ : ∃ z, r.cReds.length = z := ⟨_, rfl⟩
          have hred := fun W (hB : Below wc.heap.size wc W) => refRedirect_any r At nt ct v1 W hnt.symm (by have h9 := (HFIT.out.2.2.2.2.1 r (find_mem HFD.out)).2.2.1; omega) (by have h9 := hrt.below hB; rw [hnt] at h9; exact h9)
          rw [HRE0.out, HID.out, HSE.out, C1.out] at hred
          have HRED := Lib.hid hred
          rw [hnt]
          clear hred hrt hnt
          obtain ⟨p9, hp9⟩ : ∃ z, w5.heap.size = z := ⟨_, rfl⟩
          obtain ⟨V9, hV9⟩ : ∃ W, w5.alloc (.cells #[.string ID, .string SE, .slice At nt ct] 43) = W := ⟨_, rfl⟩
          have hv9 : Below w5.heap.size w5 V9 := by rw [← hV9]; exact (Below.refl _ _).alloc (Nat.le_refl _) _
          have k9 : V9.heap[p9]? = some (.cells #[.string ID, .string SE, .slice At nt ct] 43 (0, 0)) := by rw [← hV9, ← hp9]; exact heap_alloc_last w5 _
          have BCV := Lib.hid (hb5.chain hv9)
          have B9 := Lib.hid (BC.out.chain BCV.out); have K9 := Lib.hid k9; have HV9 := Lib.hid hV9; have HP9 := Lib.hid hp9
          have HCP := Lib.hid (show ∀ W, Below V9.heap.size V9 W → (W.cell? ⟨p, 1, none⟩ = some (.string c1) ∧ W.cell? ⟨p9, 0, none⟩ = some (.string ID) ∧ W.cell? ⟨p9, 1, none⟩ = some (.string SE) ∧ W.cell? ⟨p9, 2, none⟩ = some (.slice At nt ct)) from fun W hB => by
            have k1 := blk_below KA.out (BCV.out.chain hB)
            have k2 := blk_below K9.out hB
            exact ⟨cell_here k1, cell_here k2, cell_here k2, cell_here k2⟩)
          have HA9 := Lib.hid (fun W (hB : Below V9.heap.size V9 W) => HA.out W (B9.out.chain hB))
          have HRE := Lib.hid (fun W (hB : Below V9.heap.size V9 W) => HRED.out W (BCV.out.chain hB))
          have HGE := Lib.hid (fun W (hB : Below V9.heap.size V9 W) => HGET.out W (B9.out.chain hB))
          clear hb5 hv9 k9 hV9 hp9 e0 e1 e2 e3 e4 m0 m1 m2 m3 m4 m5
          dsimp only
          go_upto_region 12 with fail
          rw [HV9.out, HP9.out]
          refine wp_region_held_drew (S := (fun W => W.cell? ⟨p, 1, none⟩ = some (.string c1) ∧ W.cell? ⟨p9, 0, none⟩ = some (.string ID) ∧ W.cell? ⟨p9, 1, none⟩ = some (.string SE) ∧ W.cell? ⟨p9, 2, none⟩ = some (.slice At nt ct))) (by kernel_rfl) (HCP.out _ (Below.refl V9.heap.size V9).drew) (fun hHeld => ?_)
          refine wpAnyH_ready (rs := [0]) (by kernel_rfl) (by simp) ?_
          refine AllReadyH.cons (o := _) (by simp only [List.getElem?_toArray, List.getElem?_cons_succ, List.getElem?_cons_zero]; rfl) (fun K hK => ?_) AllReadyH.nil
          go_simp
          go_at_call 7
          (with_reducible refine (HA9.out _ ((Below.refl V9.heap.size V9).drew)).mono ?_)
          rintro e9 w21 ⟨rfl, hb21⟩
          have R1 := Lib.hid (((Below.refl V9.heap.size V9).drew).chain hb21)
          clear hb21
          dsimp only
          refine hK.out _ _ (HCP.out _ R1.out) (fun hHeld => ?_)
          clear hK K
          try simp only [Act.put, List.setIfInBounds_toArray, List.set_cons_zero, List.set_cons_succ]
          refine wpAnyH_take (i := 1) (oi := _) (v := ?v76267) (by simp only [List.getElem?_toArray, List.getElem?_cons_succ, List.getElem?_cons_zero]; rfl) (by kernel_rfl) (by kernel_rfl) (by kernel_rfl) (by exact fun _ _ _ h => h) (Or.inl ⟨by rfl, ?hy76267⟩) (by assumption) ?rest76267
          case hy76267 => (intro w hSw; (try dsimp only at hSw); go_simp; try with_reducible rfl)
          try simp only [Act.put, List.setIfInBounds_toArray, List.set_cons_zero, List.set_cons_succ]
          refine wpAnyH_take (i := 2) (oi := _) (v := ?v76268) (by simp only [List.getElem?_toArray, List.getElem?_cons_succ, List.getElem?_cons_zero]; rfl) (by kernel_rfl) (by kernel_rfl) (by kernel_rfl) (by exact fun _ _ _ h => h) (Or.inl ⟨by rfl, ?hy76268⟩) (by assumption) ?rest76268
          case hy76268 => (intro w hSw; (try dsimp only at hSw); go_simp; try with_reducible rfl)
          try simp only [Act.put, List.setIfInBounds_toArray, List.set_cons_zero, List.set_cons_succ]
          refine wpAnyH_take (i := 3) (oi := _) (v := ?v76269) (by simp only [List.getElem?_toArray, List.getElem?_cons_succ, List.getElem?_cons_zero]; rfl) (by kernel_rfl) (by kernel_rfl) (by kernel_rfl) (by exact fun _ _ _ h => h) (Or.inl ⟨by rfl, ?hy76269⟩) (by assumption) ?rest76269
          case hy76269 => (intro w hSw; (try dsimp only at hSw); go_simp; try with_reducible rfl)
          try simp only [Act.put, List.setIfInBounds_toArray, List.set_cons_zero, List.set_cons_succ]
          refine wpAnyH_take (i := 4) (oi := _) (v := ?v76270) (by simp only [List.getElem?_toArray, List.getElem?_cons_succ, List.getElem?_cons_zero]; rfl) (by kernel_rfl) (by kernel_rfl) (by kernel_rfl) (by exact fun _ _ _ h => h) (Or.inl ⟨by rfl, ?hy76270⟩) (by assumption) ?rest76270
          case hy76270 => (intro w hSw; (try dsimp only at hSw); go_simp; try with_reducible rfl)
          try simp only [Act.put, List.setIfInBounds_toArray, List.set_cons_zero, List.set_cons_succ]
          refine wpAnyH_take (i := 5) (oi := _) (v := ?v76271) (by simp only [List.getElem?_toArray, List.getElem?_cons_succ, List.getElem?_cons_zero]; rfl) (by kernel_rfl) (by kernel_rfl) (by kernel_rfl) (by exact fun _ _ _ h => h) (Or.inl ⟨by rfl, ?hy76271⟩) (by assumption) ?rest76271
          case hy76271 => (intro w hSw; (try dsimp only at hSw); go_simp; try with_reducible rfl)
          try simp only [Act.put, List.setIfInBounds_toArray, List.set_cons_zero, List.set_cons_succ]
          refine wpAnyH_take (i := 6) (oi := _) (v := ?v76272) (by simp only [List.getElem?_toArray, List.getElem?_cons_succ, List.getElem?_cons_zero]; rfl) (by kernel_rfl) (by kernel_rfl) (by kernel_rfl) (by exact fun _ _ _ h => h) (Or.inl ⟨by rfl, ?hy76272⟩) (by assumption) ?rest76272
          case hy76272 => (intro w hSw; (try dsimp only at hSw); go_simp; try with_reducible rfl)
          try simp only [Act.put, List.setIfInBounds_toArray, List.set_cons_zero, List.set_cons_succ]
          refine wpAnyH_take (i := 7) (oi := _) (v := ?v76273) (by simp only [List.getElem?_toArray, List.getElem?_cons_succ, List.getElem?_cons_zero]; rfl) (by kernel_rfl) (by kernel_rfl) (by kernel_rfl) (by exact fun _ _ _ h => h) (Or.inl ⟨by rfl, ?hy76273⟩) (by assumption) ?rest76273
          case hy76273 => (intro w hSw; (try dsimp only at hSw); go_simp; try with_reducible rfl)
          try simp only [Act.put, List.setIfInBounds_toArray, List.set_cons_zero, List.set_cons_succ]
          refine wpAnyH_ready (rs := [8]) (by kernel_rfl) (by simp) ?_
          refine AllReadyH.cons (o := _) (by simp only [List.getElem?_toArray, List.getElem?_cons_succ, List.getElem?_cons_zero]; rfl) (fun K hK => ?_) AllReadyH.nil
          go_simp
          go_at_call 12
          (with_reducible refine (HRE.out _ (R1.out)).mono ?_)
          rintro e9 w22 ⟨rfl, hb22⟩
          have R2 := Lib.hid ((R1.out).chain hb22)
          clear hb22
          dsimp only
          refine hK.out _ _ (HCP.out _ R2.out) (fun hHeld => ?_)
          clear hK K
          try simp only [Act.put, List.setIfInBounds_toArray, List.set_cons_zero, List.set_cons_succ]
          refine wpAnyH_take (i := 9) (oi := _) (v := ?v76275) (by simp only [List.getElem?_toArray, List.getElem?_cons_succ, List.getElem?_cons_zero]; rfl) (by kernel_rfl) (by kernel_rfl) (by kernel_rfl) (by exact fun _ _ _ h => h) (Or.inl ⟨by rfl, ?hy76275⟩) (by assumption) ?rest76275
          case hy76275 => (intro w hSw; (try dsimp only at hSw); go_simp; try with_reducible rfl)
          try simp only [Act.put, List.setIfInBounds_toArray, List.set_cons_zero, List.set_cons_succ]
          refine wpAnyH_take (i := 10) (oi := _) (v := ?v76276) (by simp only [List.getElem?_toArray, List.getElem?_cons_succ, List.getElem?_cons_zero]; rfl) (by kernel_rfl) (by kernel_rfl) (by kernel_rfl) (by exact fun _ _ _ h => h) (Or.inl ⟨by rfl, ?hy76276⟩) (by assumption) ?rest76276
          case hy76276 => (intro w hSw; (try dsimp only at hSw); go_simp; try with_reducible rfl)
          try simp only [Act.put, List.setIfInBounds_toArray, List.set_cons_zero, List.set_cons_succ]
          refine wpAnyH_take (i := 11) (oi := _) (v := ?v76277) (by simp only [List.getElem?_toArray, List.getElem?_cons_succ, List.getElem?_cons_zero]; rfl) (by kernel_rfl) (by kernel_rfl) (by kernel_rfl) (by exact fun _ _ _ h => h) (Or.inl ⟨by rfl, ?hy76277⟩) (by assumption) ?rest76277
          case hy76277 => (intro w hSw; (try dsimp only at hSw); go_simp; try with_reducible rfl)
          try simp only [Act.put, List.setIfInBounds_toArray, List.set_cons_zero, List.set_cons_succ]
          refine wpAnyH_take (i := 12) (oi := _) (v := ?v76278) (by simp only [List.getElem?_toArray, List.getElem?_cons_succ, List.getElem?_cons_zero]; rfl) (by kernel_rfl) (by kernel_rfl) (by kernel_rfl) (by exact fun _ _ _ h => h) (Or.inl ⟨by rfl, ?hy76278⟩) (by assumption) ?rest76278
          case hy76278 => (intro w hSw; (try dsimp only at hSw); go_simp; try with_reducible rfl)
          try simp only [Act.put, List.setIfInBounds_toArray, List.set_cons_zero, List.set_cons_succ]
          refine wpAnyH_take (i := 13) (oi := _) (v := ?v76279) (by simp only [List.getElem?_toArray, List.getElem?_cons_succ, List.getElem?_cons_zero]; rfl) (by kernel_rfl) (by kernel_rfl) (by kernel_rfl) (by exact fun _ _ _ h => h) (Or.inl ⟨by rfl, ?hy76279⟩) (by assumption) ?rest76279
          case hy76279 => (intro w hSw; (try dsimp only at hSw); go_simp; try with_reducible rfl)
          try simp only [Act.put, List.setIfInBounds_toArray, List.set_cons_zero, List.set_cons_succ]
          refine wpAnyH_ready (rs := [14]) (by kernel_rfl) (by simp) ?_
          refine AllReadyH.cons (o := _) (by simp only [List.getElem?_toArray, List.getElem?_cons_succ, List.getElem?_cons_zero]; rfl) (fun K hK => ?_) AllReadyH.nil
          go_simp
          go_at_call 13
          (with_reducible refine (HGE.out _ (R2.out)).mono ?_)
          rintro e9 w23 ⟨rfl, rfl⟩
          dsimp only
          refine hK.out _ _ (HCP.out _ R2.out) (fun hHeld => ?_)
          clear hK K
          try simp only [Act.put, List.setIfInBounds_toArray, List.set_cons_zero, List.set_cons_succ]
          refine wpAnyH_take (i := 15) (oi := _) (v := ?v76281) (by simp only [List.getElem?_toArray, List.getElem?_cons_succ, List.getElem?_cons_zero]; rfl) (by kernel_rfl) (by kernel_rfl) (by kernel_rfl) (by exact fun _ _ _ h => h) (Or.inl ⟨by rfl, ?hy76281⟩) (by assumption) ?rest76281
          case hy76281 => (intro w hSw; (try dsimp only at hSw); go_simp; try with_reducible rfl)
          try simp only [Act.put, List.setIfInBounds_toArray, List.set_cons_zero, List.set_cons_succ]
          refine wpAnyH_take (i := 16) (oi := _) (v := ?v76282) (by simp only [List.getElem?_toArray, List.getElem?_cons_succ, List.getElem?_cons_zero]; rfl) (by kernel_rfl) (by kernel_rfl) (by kernel_rfl) (by exact fun _ _ _ h => h) (Or.inl ⟨by rfl, ?hy76282⟩) (by assumption) ?rest76282
          case hy76282 => (intro w hSw; (try dsimp only at hSw); go_simp; try with_reducible rfl)
          try simp only [Act.put, List.setIfInBounds_toArray, List.set_cons_zero, List.set_cons_succ]
          refine wpAnyH_take (i := 17) (oi := _) (v := ?v76283) (by simp only [List.getElem?_toArray, List.getElem?_cons_succ, List.getElem?_cons_zero]; rfl) (by kernel_rfl) (by kernel_rfl) (by kernel_rfl) (by exact fun _ _ _ h => h) (Or.inl ⟨by rfl, ?hy76283⟩) (by assumption) ?rest76283
          case hy76283 => (intro w hSw; (try dsimp only at hSw); go_simp; try with_reducible rfl)
          try simp only [Act.put, List.setIfInBounds_toArray, List.set_cons_zero, List.set_cons_succ]
          refine wpAnyH_done (by kernel_rfl) ?_ _
          go_wp2
          go_ret
          exact ⟨rfl, XW.out.chain (B9.out.chain R2.out)⟩
end Go.Proofs.YtlcpehmdhnakpaaDoor
