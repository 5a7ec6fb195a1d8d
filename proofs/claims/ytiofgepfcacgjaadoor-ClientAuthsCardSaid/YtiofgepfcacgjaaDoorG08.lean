/- Texts merged by program, in build order: LawCliF, LawCliO, OpenBytes, OpenActs, JsonPure. -/
import Derived.Test.YtiofgepfcacgjaaDoorG03
import Derived.Deep.RegionLaw
import Derived.Deep.RegionWith
import Derived.Deep.Cut
import Derived.Test.YtiofgepfcacgjaaDoorG01
import Derived.ProofKit
import Derived.ChangeMaps5
import Derived.Deep.Slices
import Derived.SizedLaws
import Derived.Lib.Bytealg
set_option linter.unusedVariables false
set_option linter.unusedSimpArgs false
namespace Go.Proofs.YtiofgepfcacgjaaDoor
open Go.RowKit
set_option linter.unusedVariables false
set_option linter.unusedSimpArgs false

/-- both answer the same client -/
theorem cli_both (l : List CliP) (id : List UInt8) : ∃ (I S : ByteArray) (fb : Bool) (t : List (List UInt8)), (t = [] ∨ ∃ r ∈ l, t = r.cReds) ∧ (∀ B e w, CliOwn B l id e w → ∃ u, e = .returned (.tuple #[.agg #[.string I, .string S, u], .bool fb]) ∧ RdT w u t) ∧ ∀ e w, CliSays w l id e → ∃ u, e = .returned (.tuple #[.agg #[.string I, .string S, u], .bool fb]) ∧ RdT w u t := by
  unfold CliOwn CliSays
  cases hf : findCl l id with
  | none =>
    refine ⟨⟨#[]⟩, ⟨#[]⟩, false, [], .inl rfl, fun B e w h => ⟨_, h, none, 0, rfl, Nat.le_refl _, fun k y hk => by cases hk⟩, fun e w h => ⟨_, h, none, 0, rfl, Nat.le_refl _, fun k y hk => by cases hk⟩⟩
  | some r =>
    refine ⟨⟨r.cID.toArray⟩, ⟨r.cSecret.toArray⟩, true, r.cReds, .inr ⟨r, List.mem_of_find?_eq_some hf, rfl⟩, fun B e w h => ?_, fun e w h => h⟩
    obtain ⟨u, h1, h2⟩ := h
    exact ⟨u, h1, h2.rd⟩
/-- both answer the same connector -/
theorem cnn_both (l : List ConnP) (id : List UInt8) : ∃ (a0 a1 a2 a3 a4 a6 : ByteArray) (o fb : Bool), (∀ e, CnnOwn l id e → e = .returned (.tuple #[.agg #[.string a0, .string a1, .string a2, .string a3, .string a4, .bool o, .string a6], .bool fb])) ∧ ∀ e w, CnnSays w l id e → e = .returned (.tuple #[.agg #[.string a0, .string a1, .string a2, .string a3, .string a4, .bool o, .string a6], .bool fb]) := by
  unfold CnnOwn CnnSays
  cases hf : findCn l id with
  | none => exact ⟨⟨#[]⟩, ⟨#[]⟩, ⟨#[]⟩, ⟨#[]⟩, ⟨#[]⟩, ⟨#[]⟩, false, false, fun e h => h, fun e w h => h⟩
  | some r => exact ⟨_, _, _, _, _, _, _, true, fun e h => h, fun e w h => h⟩
set_option maxRecDepth 100000 in
set_option maxHeartbeats 8000000 in
theorem clientFinds_at {w : World} (K : CodeCli w) (KC : CodeClient w) (KN : CodeConn w) (x : CfgP) (A : Option Addr) (n c : Nat) (A' : Option Addr) (n' c' : Nat) (id sec : List UInt8) (h : CfgIs w x A n c A' n' c') (hfit : x.fit) (hsec : sec.length ≤ 100000000000000000) :
    Calls Tryd.prog 4 #[x.val A n c A' n' c', tv id, tv sec] w fun e w' => e = .returned (.bool true) ∧ Below w.heap.size w w' := by
  obtain ⟨IS, hIS⟩ : ∃ z : ByteArray, (⟨x.gIssuer.toArray⟩ : ByteArray) = z := ⟨_, rfl⟩
  obtain ⟨KI, hKI⟩ : ∃ z : ByteArray, (⟨x.gKeyID.toArray⟩ : ByteArray) = z := ⟨_, rfl⟩
  obtain ⟨KS, hKS⟩ : ∃ z : ByteArray, (⟨x.gKeySecret.toArray⟩ : ByteArray) = z := ⟨_, rfl⟩
  obtain ⟨YI, hYI⟩ : ∃ z : ByteArray, (⟨id.toArray⟩ : ByteArray) = z := ⟨_, rfl⟩
  obtain ⟨YS, hYS⟩ : ∃ z : ByteArray, (⟨sec.toArray⟩ : ByteArray) = z := ⟨_, rfl⟩
  have hv : x.val A n c A' n' c' = .agg #[.string IS, .string KI, .string KS, .slice A n c, .slice A' n' c'] := by unfold CfgP.val tv; rw [hIS, hKI, hKS]
  have tI : tv id = .string YI := by rw [← hYI]; rfl
  have tS : tv sec = .string YS := by rw [← hYS]; rfl
  obtain ⟨q, hq⟩ : ∃ z, w.heap.size = z := ⟨_, rfl⟩
  obtain ⟨X, hX⟩ : ∃ X, w.alloc (.cells #[.string IS, .string KI, .string KS, .slice A n c, .slice A' n' c'] 27) = X := ⟨_, rfl⟩
  have bX : Below w.heap.size w X := by rw [← hX]; exact (Below.refl _ _).alloc (Nat.le_refl _) _
  have x1 : X.heap[q]? = some (.cells #[.string IS, .string KI, .string KS, .slice A n c, .slice A' n' c'] 27 (0, 0)) := by rw [← hX, ← hq]; exact heap_alloc_last w _
  have hcf : ∀ W, Below X.heap.size X W → CfgIs W x A n c A' n' c' := fun W hb => h.below (bX.chain hb)
  have ha := fun W (hb : Below X.heap.size X W) => answers16_any (K.later (bX.chain hb))
  have hs := fun W (hb : Below X.heap.size X W) => small16_any x A n c A' n' c' W (hcf W hb) hfit
  rw [hv] at hs ⊢
  rw [tI, tS]
  by_cases hfw : x.few
  rotate_left
  · have HS := Lib.hid (fun W (hb : Below X.heap.size X W) => (hs W hb).mono fun e w' h => And.intro (show e = .returned (.bool false) by obtain ⟨b, rfl, hb⟩ := h.1; cases b <;> simp_all) h.2)
    have HA := Lib.hid ha; have HXE := Lib.hid hX; have XW := Lib.hid bX; have X1 := Lib.hid x1; have HQ := Lib.hid hq
    clear hs ha x1 bX hX hq hcf hv hIS hKI hKS hYI hYS tI tS h hfit hfw K KC KN
    go_enter Tryd.func4, Tryd.ntmps4
    go_upto_region 1 with fail
    rw [HXE.out, HQ.out]
    obtain ⟨⟨e0, e1, e2, e3, e4⟩, -⟩ := cellsK5_of X1.out
    go_wp2_with fail
    refine (HS.out _ (Below.refl _ _)).mono ?_
    rintro e w1 ⟨rfl, hb1⟩
    have Q1 := Lib.hid hb1
    clear hb1
    dsimp only
    go_wp2_with fail
    refine (HA.out _ Q1.out).mono ?_
    rintro e w2 ⟨rfl, hb2⟩
    have Q2 := Lib.hid (Q1.out.chain hb2)
    clear hb2
    dsimp only
    go_wp2_with fail
    go_ret
    exact ⟨rfl, XW.out.chain Q2.out⟩
  have hs := fun W (hb : Below X.heap.size X W) => (hs W hb).mono fun e w' h => And.intro (show e = .returned (.bool true) by obtain ⟨b, rfl, hb⟩ := h.1; cases b <;> simp_all) h.2
  have hn : n = x.gClients.length := h.1
  have hn' : n' = x.gConns.length := h.2.1
  have hnl : n ≤ 20 := by rw [hn]; exact hfw.2.1
  have hnl' : n' ≤ 20 := by rw [hn']; exact hfw.2.2.1
  obtain ⟨I, S, fb, t, htl, hown, hsay⟩ := cli_both x.gClients id
  obtain ⟨a0, a1, a2, a3, a4, a6, oo, fn, hown2, hsay2⟩ := cnn_both x.gConns id
  have htn : t.length ≤ 100 := by
    rcases htl with rfl | ⟨r, hr, rfl⟩
    · decide
    · obtain ⟨k, hk, rfl⟩ := List.mem_iff_getElem.1 hr
      exact hfw.2.2.2.1 k hk
  have hc1 := fun W (hb : Below X.heap.size X W) => (KC W (bX.chain hb) x A n c A' n' c' id (hcf W hb) hfit hfw.2.1).mono fun e w' h => And.intro (hown _ e w' h.1) h.2
  have hc2 := fun W (hb : Below X.heap.size X W) => (refClient_any x A n c A' n' c' id W (hcf W hb) (by omega)).mono fun e w' h => And.intro (show ∃ u, e = .returned (.tuple #[.agg #[.string I, .string S, u], .bool fb]) ∧ RdT w' u t by obtain ⟨u, h1, h2⟩ := hsay e W h.1; exact ⟨u, h1, h2.below h.2⟩) h.2
  have hc3 := fun W (hb : Below X.heap.size X W) => (KN W (bX.chain hb) x A n c A' n' c' id (hcf W hb) hfit hfw.2.2.1).mono fun e w' h => And.intro (hown2 e h.1) h.2
  have hc4 := fun W (hb : Below X.heap.size X W) => (refConn_any x A n c A' n' c' id W (hcf W hb) (by omega)).mono fun e w' h => And.intro (hsay2 e W h.1) h.2
  have hau := fun W (hb : Below X.heap.size X W) => K.auth W (bX.chain hb) x A n c A' n' c' id sec (hcf W hb) hfit hfw.2.1 hsec
  have har := fun W (hb : Below X.heap.size X W) => refAuth_any x A n c A' n' c' id sec W (hcf W hb) (by omega)
  obtain ⟨ab, hab⟩ : ∃ b, authP x id sec = b := ⟨_, rfl⟩
  rw [hv, tI] at hc1 hc3
  rw [hv, hYI] at hc2 hc4
  rw [hv, tI, tS, hab] at hau
  rw [hv, hYI, hYS, hab] at har
  have HS := Lib.hid hs; have HA := Lib.hid ha; have HC1 := Lib.hid hc1; have HC2 := Lib.hid hc2; have HC3 := Lib.hid hc3; have HC4 := Lib.hid hc4; have HAU := Lib.hid hau; have HAR := Lib.hid har
  have HXE := Lib.hid hX; have XW := Lib.hid bX; have X1 := Lib.hid x1; have HQ := Lib.hid hq
  clear hs ha hc1 hc2 hc3 hc4 hau har hab x1 bX hX hq hcf hv hIS hKI hKS hYI hYS tI tS h hfit hfw K KC KN hown hsay hown2 hsay2 htl hn hn'
  have hbb : (fb != fb) = false := by simp
  have hbn : (fn != fn) = false := by simp
  have haa : (ab == ab) = true := by simp
  have hII : (!I.toList == I.toList) = false := by simp
  have hSS : (!S.toList == S.toList) = false := by simp
  go_enter Tryd.func4, Tryd.ntmps4
  go_upto_region 1 with fail
  rw [HXE.out, HQ.out]
  obtain ⟨⟨e0, e1, e2, e3, e4⟩, -⟩ := cellsK5_of X1.out
  go_wp2_with fail
  refine (HS.out _ (Below.refl _ _)).mono ?_
  rintro e w1 ⟨rfl, hb1⟩
  have Q1 := Lib.hid hb1
  clear hb1 e0 e1 e2 e3 e4
  obtain ⟨⟨e0, e1, e2, e3, e4⟩, -⟩ := cellsK5_of (blk_below X1.out Q1.out)
  dsimp only
  go_wp2_with fail
  refine (HC1.out _ Q1.out).mono ?_
  rintro e w2 ⟨⟨u1, rfl, hr1⟩, hb2⟩
  obtain ⟨A1, c1, rfl⟩ := rdt_form hr1
  obtain ⟨tn, htn'⟩ : ∃ z, t.length = z := ⟨_, rfl⟩
  rw [htn'] at hr1 htn ⊢
  have HTN := Lib.hid htn'
  clear htn'
  obtain ⟨p1, hp1⟩ : ∃ z, w2.heap.size = z := ⟨_, rfl⟩
  obtain ⟨V1, hV1⟩ : ∃ W, w2.alloc (.cells #[.string I, .string S, .slice A1 tn c1] 32) = W := ⟨_, rfl⟩
  have hv1 : Below w2.heap.size w2 V1 := by rw [← hV1]; exact (Below.refl _ _).alloc (Nat.le_refl _) _
  have k1 : V1.heap[p1]? = some (.cells #[.string I, .string S, .slice A1 tn c1] 32 (0, 0)) := by rw [← hV1, ← hp1]; exact heap_alloc_last w2 _
  have Q2 := Lib.hid (Q1.out.chain (hb2.chain hv1)); have R1 := Lib.hid (hr1.below hv1); have KV1 := Lib.hid k1; have HV1 := Lib.hid hV1; have HP1 := Lib.hid hp1
  clear hb2 hv1 hr1 k1 hV1 hp1 e0 e1 e2 e3 e4
  obtain ⟨⟨e0, e1, e2, e3, e4⟩, -⟩ := cellsK5_of (blk_below X1.out Q2.out)
  dsimp only
  go_upto_region 4 with fail
  rw [HV1.out, HP1.out]
  go_wp2_with fail
  refine (HC2.out _ Q2.out).mono ?_
  rintro e w3 ⟨⟨u2, rfl, hr2⟩, hb3⟩
  obtain ⟨A2, c2, rfl⟩ := rdt_form hr2
  rw [HTN.out] at hr2 ⊢
  obtain ⟨p2, hp2⟩ : ∃ z, w3.heap.size = z := ⟨_, rfl⟩
  obtain ⟨V2, hV2⟩ : ∃ W, w3.alloc (.cells #[.string I, .string S, .slice A2 tn c2] 32) = W := ⟨_, rfl⟩
  have hv2 : Below w3.heap.size w3 V2 := by rw [← hV2]; exact (Below.refl _ _).alloc (Nat.le_refl _) _
  have k2 : V2.heap[p2]? = some (.cells #[.string I, .string S, .slice A2 tn c2] 32 (0, 0)) := by rw [← hV2, ← hp2]; exact heap_alloc_last w3 _
  have Q3 := Lib.hid (Q2.out.chain (hb3.chain hv2)); have R12 := Lib.hid (R1.out.below (hb3.chain hv2)); have R2 := Lib.hid (hr2.below hv2); have KV2 := Lib.hid k2; have KV12 := Lib.hid (blk_below KV1.out (hb3.chain hv2)); have HV2 := Lib.hid hV2; have HP2 := Lib.hid hp2
  clear hb3 hv2 hr2 k2 hV2 hp2 e0 e1 e2 e3 e4 R1 KV1
  obtain ⟨⟨e0, e1, e2, e3, e4⟩, -⟩ := cellsK5_of (blk_below X1.out Q3.out)
  dsimp only
  go_upto_region 5 with fail
  rw [HV2.out, HP2.out]
  go_wp2_with fail
  refine (HC3.out _ Q3.out).mono ?_
  rintro e w4 ⟨rfl, hb4⟩
  obtain ⟨p3, hp3⟩ : ∃ z, w4.heap.size = z := ⟨_, rfl⟩
  obtain ⟨V3, hV3⟩ : ∃ W, w4.alloc (.cells #[.string a0, .string a1, .string a2, .string a3, .string a4, .bool oo, .string a6] 36) = W := ⟨_, rfl⟩
  have hv3 : Below w4.heap.size w4 V3 := by rw [← hV3]; exact (Below.refl _ _).alloc (Nat.le_refl _) _
  have k3 : V3.heap[p3]? = some (.cells #[.string a0, .string a1, .string a2, .string a3, .string a4, .bool oo, .string a6] 36 (0, 0)) := by rw [← hV3, ← hp3]; exact heap_alloc_last w4 _
  have Q4 := Lib.hid (Q3.out.chain (hb4.chain hv3)); have B34 := Lib.hid (hb4.chain hv3); have KV3 := Lib.hid k3; have HV3 := Lib.hid hV3; have HP3 := Lib.hid hp3
  clear hb4 hv3 k3 hV3 hp3 e0 e1 e2 e3 e4
  obtain ⟨⟨e0, e1, e2, e3, e4⟩, -⟩ := cellsK5_of (blk_below X1.out Q4.out)
  dsimp only
  go_upto_region 6 with fail
  rw [HV3.out, HP3.out]
  go_wp2_with fail
  refine (HC4.out _ Q4.out).mono ?_
  rintro e w5 ⟨rfl, hb5⟩
  obtain ⟨p4, hp4⟩ : ∃ z, w5.heap.size = z := ⟨_, rfl⟩
  obtain ⟨V4, hV4⟩ : ∃ W, w5.alloc (.cells #[.string a0, .string a1, .string a2, .string a3, .string a4, .bool oo, .string a6] 36) = W := ⟨_, rfl⟩
  have hv4 : Below w5.heap.size w5 V4 := by rw [← hV4]; exact (Below.refl _ _).alloc (Nat.le_refl _) _
  have k4 : V4.heap[p4]? = some (.cells #[.string a0, .string a1, .string a2, .string a3, .string a4, .bool oo, .string a6] 36 (0, 0)) := by rw [← hV4, ← hp4]; exact heap_alloc_last w5 _
  have Q5 := Lib.hid (Q4.out.chain (hb5.chain hv4)); have B45 := Lib.hid (B34.out.chain (hb5.chain hv4)); have KV4 := Lib.hid k4; have KV34 := Lib.hid (blk_below KV3.out (hb5.chain hv4)); have HV4 := Lib.hid hV4; have HP4 := Lib.hid hp4
  clear hb5 hv4 k4 hV4 hp4 e0 e1 e2 e3 e4 KV3
  have RA := Lib.hid (R12.out.below B45.out); have RB := Lib.hid (R2.out.below B45.out); have KA := Lib.hid (blk_below KV12.out B45.out); have KB := Lib.hid (blk_below KV2.out B45.out)
  clear R12 R2 KV12 KV2 B34 B45
  dsimp only
  go_upto_region 7 with fail
  rw [HV4.out, HP4.out]
  obtain ⟨⟨m0, m1, m2⟩, -⟩ := cellsK3_of KA.out
  obtain ⟨⟨n0, n1, n2⟩, -⟩ := cellsK3_of KB.out
  obtain ⟨⟨f0, f1, f2, f3, f4, f5, f6⟩, -⟩ := cellsK7_of KV34.out
  obtain ⟨⟨g0, g1, g2, g3, g4, g5, g6⟩, -⟩ := cellsK7_of KV4.out
  go_wp2_with fail
  clear m0 m1 m2 n0 n1 n2 f0 f1 f2 f3 f4 f5 f6 g0 g1 g2 g3 g4 g5 g6
  go_loopw [15] (fun i W => ∃ j : Nat, j ≤ tn ∧ i = .int .i64 j ∧ Hid (Below V4.heap.size V4 W)) (fun i _ => tn - (intOf i).toNat)
  case atStart => exact ⟨0, Nat.zero_le _, rfl, Lib.hid (Below.refl _ _)⟩
  case round =>
    obtain ⟨j, hj, rfl, BR0⟩ := hrel
    have BR := Lib.hid (Q5.out.chain BR0.out)
    obtain ⟨⟨m0, m1, m2⟩, -⟩ := cellsK3_of (blk_below KA.out BR0.out)
    obtain ⟨⟨n0, n1, n2⟩, -⟩ := cellsK3_of (blk_below KB.out BR0.out)
    by_cases hlt : j < tn
    · have hjl : j < t.length := by have := HTN.out; omega
      have hjr : decide ((j : Int) < tn) = true := by simp; omega
      obtain ⟨ga, oa, rfl, hga, ca⟩ := (RA.out.below BR0.out).at j hjl
      obtain ⟨gb, ob, rfl, hgb, cb⟩ := (RB.out.below BR0.out).at j hjl
      obtain ⟨Y, hY⟩ : ∃ z : ByteArray, tv t[j] = .string z := ⟨_, rfl⟩
      rw [hY] at ca cb
      have hYY : (!Y.toList == Y.toList) = false := by simp
      have hj0 : (0 : Int) ≤ j := by omega
      have hj1 : (j : Int) < tn := by omega
      clear hY
      go_upto_region 12 with fail
      go_quiet (fail)
      go_wp2_with fail
      go_roundw
      case rel => exact ⟨j + 1, by omega, by go_num, Lib.hid (belowDrewN BR0.out _)⟩
      case measure => simp [intOf]; omega
    · obtain rfl : j = tn := by omega
      have hjr : decide ((j : Int) < j) = false := by simp
      have hce : ∀ W, Below wr.heap.size wr W → (W.cell? ⟨q, 0, none⟩ = some (.string IS) ∧ W.cell? ⟨q, 1, none⟩ = some (.string KI) ∧ W.cell? ⟨q, 2, none⟩ = some (.string KS) ∧ W.cell? ⟨q, 3, none⟩ = some (.slice A n c) ∧ W.cell? ⟨q, 4, none⟩ = some (.slice A' n' c')) := fun W hb => by
        have k2 := blk_below X1.out (BR.out.chain hb)
        exact ⟨cell_here k2, cell_here k2, cell_here k2, cell_here k2, cell_here k2⟩
      have HCE := Lib.hid hce
      have HA2 := Lib.hid (fun W (hb : Below wr.heap.size wr W) => HA.out W (BR.out.chain hb))
      have HAU2 := Lib.hid (fun W (hb : Below wr.heap.size wr W) => HAU.out W (BR.out.chain hb))
      have HAR2 := Lib.hid (fun W (hb : Below wr.heap.size wr W) => HAR.out W (BR.out.chain hb))
      clear hce
      go_upto_region 14 with fail
      clear m0 m1 m2 n0 n1 n2
      refine wp_region_held_drew (S := (fun W => W.cell? ⟨q, 0, none⟩ = some (.string IS) ∧ W.cell? ⟨q, 1, none⟩ = some (.string KI) ∧ W.cell? ⟨q, 2, none⟩ = some (.string KS) ∧ W.cell? ⟨q, 3, none⟩ = some (.slice A n c) ∧ W.cell? ⟨q, 4, none⟩ = some (.slice A' n' c'))) (by kernel_rfl) (HCE.out _ (Below.refl wr.heap.size wr).drew) (fun hHeld => ?_)
      refine wpAnyH_ready (rs := [0]) (by kernel_rfl) (by simp) ?_
      refine AllReadyH.cons (o := _) (by simp only [List.getElem?_toArray, List.getElem?_cons_succ, List.getElem?_cons_zero]; rfl) (fun K hK => ?_) AllReadyH.nil
      go_simp
      go_at_call 8
      (with_reducible refine (HA2.out _ ((Below.refl wr.heap.size wr).drew)).mono ?_)
      rintro e w21 ⟨rfl, hb1⟩
      have Q1 := Lib.hid (((Below.refl wr.heap.size wr).drew).chain hb1)
      clear hb1
      dsimp only
      refine hK.out _ _ (HCE.out _ Q1.out) (fun hHeld => ?_)
      clear hK K
      try simp only [Act.put, List.setIfInBounds_toArray, List.set_cons_zero, List.set_cons_succ]
      refine wpAnyH_take (i := 1) (oi := _) (v := ?v74002) (by simp only [List.getElem?_toArray, List.getElem?_cons_succ, List.getElem?_cons_zero]; rfl) (by kernel_rfl) (by kernel_rfl) (by kernel_rfl) (by exact fun _ _ _ h => h) (Or.inl ⟨by rfl, ?hy74002⟩) (by assumption) ?rest74002
      case hy74002 => (intro w hSw; (try dsimp only at hSw); go_simp; try with_reducible rfl)
      try simp only [Act.put, List.setIfInBounds_toArray, List.set_cons_zero, List.set_cons_succ]
      refine wpAnyH_take (i := 2) (oi := _) (v := ?v74003) (by simp only [List.getElem?_toArray, List.getElem?_cons_succ, List.getElem?_cons_zero]; rfl) (by kernel_rfl) (by kernel_rfl) (by kernel_rfl) (by exact fun _ _ _ h => h) (Or.inl ⟨by rfl, ?hy74003⟩) (by assumption) ?rest74003
      case hy74003 => (intro w hSw; (try dsimp only at hSw); go_simp; try with_reducible rfl)
      try simp only [Act.put, List.setIfInBounds_toArray, List.set_cons_zero, List.set_cons_succ]
      refine wpAnyH_take (i := 3) (oi := _) (v := ?v74004) (by simp only [List.getElem?_toArray, List.getElem?_cons_succ, List.getElem?_cons_zero]; rfl) (by kernel_rfl) (by kernel_rfl) (by kernel_rfl) (by exact fun _ _ _ h => h) (Or.inl ⟨by rfl, ?hy74004⟩) (by assumption) ?rest74004
      case hy74004 => (intro w hSw; (try dsimp only at hSw); go_simp; try with_reducible rfl)
      try simp only [Act.put, List.setIfInBounds_toArray, List.set_cons_zero, List.set_cons_succ]
      refine wpAnyH_take (i := 4) (oi := _) (v := ?v74005) (by simp only [List.getElem?_toArray, List.getElem?_cons_succ, List.getElem?_cons_zero]; rfl) (by kernel_rfl) (by kernel_rfl) (by kernel_rfl) (by exact fun _ _ _ h => h) (Or.inl ⟨by rfl, ?hy74005⟩) (by assumption) ?rest74005
      case hy74005 => (intro w hSw; (try dsimp only at hSw); go_simp; try with_reducible rfl)
      try simp only [Act.put, List.setIfInBounds_toArray, List.set_cons_zero, List.set_cons_succ]
      refine wpAnyH_take (i := 6) (oi := _) (v := ?v74006) (by simp only [List.getElem?_toArray, List.getElem?_cons_succ, List.getElem?_cons_zero]; rfl) (by kernel_rfl) (by kernel_rfl) (by kernel_rfl) (by exact fun _ _ _ h => h) (Or.inl ⟨by rfl, ?hy74006⟩) (by assumption) ?rest74006
      case hy74006 => (intro w hSw; (try dsimp only at hSw); go_simp; try with_reducible rfl)
      try simp only [Act.put, List.setIfInBounds_toArray, List.set_cons_zero, List.set_cons_succ]
      refine wpAnyH_take (i := 7) (oi := _) (v := ?v74007) (by simp only [List.getElem?_toArray, List.getElem?_cons_succ, List.getElem?_cons_zero]; rfl) (by kernel_rfl) (by kernel_rfl) (by kernel_rfl) (by exact fun _ _ _ h => h) (Or.inl ⟨by rfl, ?hy74007⟩) (by assumption) ?rest74007
      case hy74007 => (intro w hSw; (try dsimp only at hSw); go_simp; try with_reducible rfl)
      try simp only [Act.put, List.setIfInBounds_toArray, List.set_cons_zero, List.set_cons_succ]
      refine wpAnyH_take (i := 8) (oi := _) (v := ?v74008) (by simp only [List.getElem?_toArray, List.getElem?_cons_succ, List.getElem?_cons_zero]; rfl) (by kernel_rfl) (by kernel_rfl) (by kernel_rfl) (by exact fun _ _ _ h => h) (Or.inl ⟨by rfl, ?hy74008⟩) (by assumption) ?rest74008
      case hy74008 => (intro w hSw; (try dsimp only at hSw); go_simp; try with_reducible rfl)
      try simp only [Act.put, List.setIfInBounds_toArray, List.set_cons_zero, List.set_cons_succ]
      refine wpAnyH_ready (rs := [5]) (by kernel_rfl) (by simp) ?_
      refine AllReadyH.cons (o := _) (by simp only [List.getElem?_toArray, List.getElem?_cons_succ, List.getElem?_cons_zero]; rfl) (fun K hK => ?_) AllReadyH.nil
      go_simp
      go_at_call 16
      (with_reducible refine (HAU2.out _ (Q1.out)).mono ?_)
      rintro e w22 ⟨rfl, hb2⟩
      have Q2 := Lib.hid ((Q1.out).chain hb2)
      clear hb2
      dsimp only
      refine hK.out _ _ (HCE.out _ Q2.out) (fun hHeld => ?_)
      clear hK K
      try simp only [Act.put, List.setIfInBounds_toArray, List.set_cons_zero, List.set_cons_succ]
      refine wpAnyH_ready (rs := [9]) (by kernel_rfl) (by simp) ?_
      refine AllReadyH.cons (o := _) (by simp only [List.getElem?_toArray, List.getElem?_cons_succ, List.getElem?_cons_zero]; rfl) (fun K hK => ?_) AllReadyH.nil
      go_simp
      go_at_call 17
      (with_reducible refine (HAR2.out _ (Q2.out)).mono ?_)
      rintro e w23 ⟨rfl, hb3⟩
      have Q3 := Lib.hid ((Q2.out).chain hb3)
      clear hb3
      dsimp only
      refine hK.out _ _ (HCE.out _ Q3.out) (fun hHeld => ?_)
      clear hK K
      try simp only [Act.put, List.setIfInBounds_toArray, List.set_cons_zero, List.set_cons_succ]
      refine wpAnyH_take (i := 10) (oi := _) (v := ?v74011) (by simp only [List.getElem?_toArray, List.getElem?_cons_succ, List.getElem?_cons_zero]; rfl) (by kernel_rfl) (by kernel_rfl) (by kernel_rfl) (by exact fun _ _ _ h => h) (Or.inl ⟨by rfl, ?hy74011⟩) (by assumption) ?rest74011
      case hy74011 => (intro w hSw; (try dsimp only at hSw); go_simp; try with_reducible rfl)
      try simp only [Act.put, List.setIfInBounds_toArray, List.set_cons_zero, List.set_cons_succ]
      refine wpAnyH_take (i := 11) (oi := _) (v := ?v74012) (by simp only [List.getElem?_toArray, List.getElem?_cons_succ, List.getElem?_cons_zero]; rfl) (by kernel_rfl) (by kernel_rfl) (by kernel_rfl) (by exact fun _ _ _ h => h) (Or.inl ⟨by rfl, ?hy74012⟩) (by assumption) ?rest74012
      case hy74012 => (intro w hSw; (try dsimp only at hSw); go_simp; try with_reducible rfl)
      try simp only [Act.put, List.setIfInBounds_toArray, List.set_cons_zero, List.set_cons_succ]
      refine wpAnyH_take (i := 12) (oi := _) (v := ?v74013) (by simp only [List.getElem?_toArray, List.getElem?_cons_succ, List.getElem?_cons_zero]; rfl) (by kernel_rfl) (by kernel_rfl) (by kernel_rfl) (by exact fun _ _ _ h => h) (Or.inl ⟨by rfl, ?hy74013⟩) (by assumption) ?rest74013
      case hy74013 => (intro w hSw; (try dsimp only at hSw); go_simp; try with_reducible rfl)
      try simp only [Act.put, List.setIfInBounds_toArray, List.set_cons_zero, List.set_cons_succ]
      refine wpAnyH_done (by kernel_rfl) ?_ _
      go_wp2
      go_ret
      exact ⟨rfl, XW.out.chain (BR.out.chain Q3.out)⟩
end Go.Proofs.YtiofgepfcacgjaaDoor
namespace Go.Proofs.YtiofgepfcacgjaaDoor
open Go.RowKit
set_option linter.unusedVariables false
set_option linter.unusedSimpArgs false

/-- one owned text, as it lies -/
theorem TRow.one {w : World} {B : Nat} {v : Value} {s : List UInt8} (h : TRow w B v [s]) : ∃ g cap cur, v = .slice (some ⟨g, 0, none⟩) 1 cap ∧ B ≤ g ∧ w.heap[g]? = some (.cells cur 9 (0, 0)) ∧ 1 ≤ cap ∧ cur[0]? = some (tv s) := by
  unfold TRow at h
  rcases h.2 with ⟨_, h0⟩ | ⟨g, cap, cur, hv, hB, hg, hcap, _, hz, hx⟩
  · simp at h0
  · refine ⟨g, cap, cur, hv, hB, hg, hcap, ?_⟩
    have h1 : (cur.toList.take (1 * 1))[0]? = some (tv s) := by
      have : cur.toList.take ([s].length * 1) = tcells [s] := hx
      rw [show ([s].length * 1) = 1 * 1 from rfl] at this
      rw [this]; rfl
    rw [List.getElem?_take] at h1
    simpa using h1
set_option maxRecDepth 100000 in
set_option maxHeartbeats 8000000 in
theorem clientOwn_at {w : World} (K : CodeCli w) (KC : CodeClient w) (id to : List UInt8) (hi : id.length ≤ 200000000000000) (ht : to.length ≤ 200000000000000) :
    Calls Tryd.prog 7 #[tv id, tv to] w fun e w' => e = .returned (.bool true) ∧ Below w.heap.size w w' := by
  obtain ⟨I, hI⟩ : ∃ z : ByteArray, (⟨id.toArray⟩ : ByteArray) = z := ⟨_, rfl⟩
  obtain ⟨O, hO⟩ : ∃ z : ByteArray, (⟨to.toArray⟩ : ByteArray) = z := ⟨_, rfl⟩
  have tI : tv id = .string I := by rw [← hI]; rfl
  have tO : tv to = .string O := by rw [← hO]; rfl
  have hOz : O.size ≤ 200000000000000 := by rw [← hO]; show to.toArray.size ≤ _; simpa using ht
  rw [tI, tO]
  obtain ⟨q, hq⟩ : ∃ z, w.heap.size = z := ⟨_, rfl⟩
  obtain ⟨X, hX⟩ : ∃ X, ((w.alloc (.cells #[.string O] 9)).alloc (.cells #[.string I, .string ⟨#[]⟩, .slice (some ⟨q, 0, none⟩) 1 1] 32)).alloc (.cells #[.string ⟨#[]⟩, .string ⟨#[]⟩, .string ⟨#[]⟩, .slice (some ⟨q + 1, 0, none⟩) 1 1, .slice none 0 0] 27) = X := ⟨_, rfl⟩
  have bX : Below w.heap.size w X := by rw [← hX]; exact (((Below.refl _ _).alloc (Nat.le_refl _) _).alloc (by simp) _).alloc (by simp; omega) _
  have x0 : X.heap[q]? = some (.cells #[.string O] 9 (0, 0)) := by rw [← hX, ← hq]; exact alloc_block (alloc_block (heap_alloc_last w _))
  have x1 : X.heap[q + 1]? = some (.cells #[.string I, .string ⟨#[]⟩, .slice (some ⟨q, 0, none⟩) 1 1] 32 (0, 0)) := by rw [← hX, ← hq]; exact alloc_block (fresh_at _ (by simp))
  have x2 : X.heap[q + 1 + 1]? = some (.cells #[.string ⟨#[]⟩, .string ⟨#[]⟩, .string ⟨#[]⟩, .slice (some ⟨q + 1, 0, none⟩) 1 1, .slice none 0 0] 27 (0, 0)) := by rw [← hX, ← hq]; exact fresh_at _ (by simp)
  obtain ⟨cx, hcx⟩ : ∃ cx : CfgP, cx = ⟨[], [], [], [⟨id, [], [to]⟩], []⟩ := ⟨_, rfl⟩
  have hcf : ∀ W, Below X.heap.size X W → CfgIs W cx (some ⟨q + 1, 0, none⟩) 1 1 none 0 0 := fun W hb => by
    subst hcx
    have k0 := blk_below x0 hb
    have k1 := blk_below x1 hb
    refine ⟨rfl, rfl, ⟨_, _, rfl, Nat.le_refl _, fun k r hk => ?_⟩, ⟨_, _, rfl, Nat.le_refl _, fun k r hk => by cases hk⟩⟩
    match k, hk with
    | 0, hk =>
      obtain rfl : _ = r := Option.some.inj hk
      refine ⟨q + 1, 0, _, rfl, (Array.getElem?_eq_some_iff.1 k1).1, by rw [tI]; exact cell_here k1, cell_here k1, cell_here k1, ⟨_, _, rfl, Nat.le_refl _, fun j y hj => ?_⟩⟩
      match j, hj with
      | 0, hj =>
        obtain rfl : _ = y := Option.some.inj hj
        exact ⟨q, 0, rfl, (Array.getElem?_eq_some_iff.1 k0).1, by rw [tO]; exact cell_here k0⟩
  have hfit : cx.fitS := by subst hcx; exact fit_one hi (Nat.zero_le _) (show 1 ≤ 100 by decide) (fun s hs => by rw [List.mem_singleton.1 hs]; exact ht)
  have hcxl : cx.gClients.length = 1 := by subst hcx; rfl
  have hv : cx.val (some ⟨q + 1, 0, none⟩) 1 1 none 0 0 = .agg #[.string ⟨#[]⟩, .string ⟨#[]⟩, .string ⟨#[]⟩, .slice (some ⟨q + 1, 0, none⟩) 1 1, .slice none 0 0] := by subst hcx; rfl
  have hfind : findCl cx.gClients id = some ⟨id, [], [to]⟩ := by subst hcx; unfold findCl; simp
  have hc := fun W (hb : Below X.heap.size X W) => (KC W (bX.chain hb) cx _ _ _ _ _ _ id (hcf W hb) hfit.1 (by rw [hcxl]; decide)).mono fun e w' h => And.intro (show ∃ g cap cur, e = .returned (.tuple #[.agg #[.string I, .string ⟨#[]⟩, .slice (some ⟨g, 0, none⟩) 1 cap], .bool true]) ∧ W.heap.size ≤ g ∧ w'.heap[g]? = some (.cells cur 9 (0, 0)) ∧ 1 ≤ cap ∧ cur[0]? = some (.string O) by
    have h1 := h.1
    unfold CliOwn at h1
    rw [hfind] at h1
    obtain ⟨u, rfl, hu⟩ := h1
    obtain ⟨g, cap, cur, rfl, h2, h3, h4, h5⟩ := hu.one
    rw [tO] at h5
    exact ⟨g, cap, cur, by rw [tI]; rfl, h2, h3, h4, h5⟩) h.2
  have ha := fun W (hb : Below X.heap.size X W) => answers16_any (K.later (bX.chain hb))
  rw [hv, tI] at hc
  have HC := Lib.hid hc; have HA := Lib.hid ha; have X0 := Lib.hid x0; have X1 := Lib.hid x1; have X2 := Lib.hid x2; have HXE := Lib.hid hX; have XW := Lib.hid bX; have HQ := Lib.hid hq
  clear hc ha x0 x1 x2 hX bX hq hcf hfit hv hfind hcxl hcx hI hO tI tO hi ht K KC cx
  have hOO : (O.toList == O.toList) = true := by simp
  go_enter Tryd.func7, Tryd.ntmps7
  go_upto_region 2 with fail
  rw [HQ.out, HXE.out]
  obtain ⟨⟨e0, e1, e2, e3, e4⟩, -⟩ := cellsK5_of X2.out
  go_wp2_with fail
  refine (HC.out _ (Below.refl _ _)).mono ?_
  rintro e w1 ⟨⟨g, cap, cur, rfl, hgX, hg, hcap, h0⟩, hb1⟩
  clear e0 e1 e2 e3 e4
  obtain ⟨p1, hp1⟩ : ∃ z, w1.heap.size = z := ⟨_, rfl⟩
  obtain ⟨V1, hV1⟩ : ∃ W, w1.alloc (.cells #[.string I, .string ⟨#[]⟩, .slice (some ⟨g, 0, none⟩) 1 cap] 32) = W := ⟨_, rfl⟩
  have hv1 : Below w1.heap.size w1 V1 := by rw [← hV1]; exact (Below.refl _ _).alloc (Nat.le_refl _) _
  have k1 : V1.heap[p1]? = some (.cells #[.string I, .string ⟨#[]⟩, .slice (some ⟨g, 0, none⟩) 1 cap] 32 (0, 0)) := by rw [← hV1, ← hp1]; exact heap_alloc_last w1 _
  have kg := blk_below hg hv1
  have hgp : g ≠ p1 := by
    have := (Array.getElem?_eq_some_iff.1 hg).1
    omega
  have cg : V1.cell? ⟨g, 0, none⟩ = some (.string O) := by
    simp [World.cell?, kg, h0]
  have fg : V1.frozen? ⟨g, 0, none⟩ = false := frozen_here kg _
  have Q1 := Lib.hid (hb1.chain hv1); have KV1 := Lib.hid k1; have HV1 := Lib.hid hV1; have HP1 := Lib.hid hp1; have KG := Lib.hid kg; have HGP := Lib.hid hgp; have HGX := Lib.hid hgX; have HCUR := Lib.hid h0
  clear hb1 hv1 k1 hV1 hp1 kg hgp hgX h0 hg
  dsimp only
  go_upto_region 3 with fail
  rw [HV1.out, HP1.out]
  obtain ⟨⟨m0, m1, m2⟩, -⟩ := cellsK3_of KV1.out
  have hc1 : (0 : Int) < 1 := by decide
  go_upto_region 6 with fail
  obtain ⟨V2, hV2⟩ : ∃ W, V1.setCell ⟨g, 0, none⟩ (.string (O ++ ⟨#[120]⟩)) = W := ⟨_, rfl⟩
  have hq2 : Below X.heap.size X V2 := by rw [← hV2]; exact Q1.out.setCell (p := ⟨g, 0, none⟩) HGX.out _
  have Q2 := Lib.hid hq2
  rw [hV2]
  clear hV2 hq2 m0 m1 m2 cg fg
  obtain ⟨⟨e0, e1, e2, e3, e4⟩, -⟩ := cellsK5_of (blk_below X2.out Q2.out)
  go_wp2_with fail
  refine (HC.out _ Q2.out).mono ?_
  rintro e w2 ⟨⟨g', cap', cur', rfl, hgV, hg', hcap', h0'⟩, hb2⟩
  clear e0 e1 e2 e3 e4
  obtain ⟨p2, hp2⟩ : ∃ z, w2.heap.size = z := ⟨_, rfl⟩
  obtain ⟨V3, hV3⟩ : ∃ W, w2.alloc (.cells #[.string I, .string ⟨#[]⟩, .slice (some ⟨g', 0, none⟩) 1 cap'] 32) = W := ⟨_, rfl⟩
  have hv3 : Below w2.heap.size w2 V3 := by rw [← hV3]; exact (Below.refl _ _).alloc (Nat.le_refl _) _
  have k3 : V3.heap[p2]? = some (.cells #[.string I, .string ⟨#[]⟩, .slice (some ⟨g', 0, none⟩) 1 cap'] 32 (0, 0)) := by rw [← hV3, ← hp2]; exact heap_alloc_last w2 _
  have kg' := blk_below hg' hv3
  have Q3 := Lib.hid (Q2.out.chain (hb2.chain hv3)); have KV3 := Lib.hid k3; have HV3 := Lib.hid hV3; have HP2 := Lib.hid hp2; have KG' := Lib.hid kg'; have H0' := Lib.hid h0'
  clear hb2 hv3 k3 hV3 hp2 kg' hgV h0' hg'
  dsimp only
  go_upto_region 7 with fail
  rw [HV3.out, HP2.out]
  go_wp2_with fail
  refine (HA.out _ Q3.out).mono ?_
  rintro e w4 ⟨rfl, hb4⟩
  have Q4 := Lib.hid (Q3.out.chain hb4)
  have k4 := blk_below KG'.out hb4
  have c4 : w4.cell? ⟨g', 0, none⟩ = some (.string O) := by simp [World.cell?, k4, H0'.out]
  obtain ⟨⟨m0, m1, m2⟩, -⟩ := cellsK3_of (blk_below KV3.out hb4)
  obtain ⟨⟨e0, e1, e2, e3, e4⟩, -⟩ := cellsK5_of (blk_below X2.out Q4.out)
  obtain ⟨⟨n0, n1, n2⟩, -⟩ := cellsK3_of (blk_below X1.out Q4.out)
  have c5 : w4.cell? ⟨q, 0, none⟩ = some (.string O) := cell_here (blk_below X0.out Q4.out)
  clear hb4 k4
  dsimp only
  go_wp2_with fail
  go_ret
  exact ⟨rfl, XW.out.chain Q4.out⟩
end Go.Proofs.YtiofgepfcacgjaaDoor
namespace Go.Proofs.YtiofgepfcacgjaaDoor
open Go.ChangeShapes Go.WideShapes Go.ChangeAt Go.RowKit
set_option linter.unusedVariables false

theorem Tryd.laidOutBy : laidOutB Tryd.prog = true := by kernel_rfl
theorem Tryd.cellsByteO : Tryd.prog.cellsOf 5 = 1 := by kernel_rfl
set_option maxRecDepth 100000 in
/-- what is read of a slice of bytes: the bytes -/
theorem open_bytes {H : Type} {enc : TypeId × Value → H} {W : World} {base : Nat} {v : Value} {d : DataW H} {ps : List MemPlace} (hval : Value.okWide Tryd.prog W .any base 106 v)
    (hd : DataW.Trod enc Tryd.prog W 0 (fun _ => true) true 106 v d ps) (hlt : ∀ x ∈ ps, x.block < W.heap.size) (hwt : ∀ n ∈ d.weights Tryd.prog 106, n ≤ reachBytes) :
    ∃ (A : Option Addr) (c : Nat) (l : List UInt8), v = .slice A l.length c ∧ RdAt W (.slice A l.length c) l := by
  have hv2 := hval
  obtain ⟨a0, len, cap, rfl⟩ := okWide_slice Tryd.underlying106 hval
  obtain ⟨fuel, hf⟩ := hd
  rcases Go.Deep.open_slice1 Tryd.underlying106 Tryd.cellsByteO hf with ⟨hcs, hx⟩ | ⟨a, len', cap', m, n, V, D, Pl, hcs, _, hl, hm, hmm, hx, hi⟩
  · simp [Value.cells] at hcs
    obtain ⟨rfl, rfl, rfl⟩ := hcs
    exact ⟨none, 0, [], rfl, RdAt.nil _⟩
  · simp [Value.cells] at hcs
    obtain ⟨rfl, rfl, rfl⟩ := hcs
    simp only [Value.okWide, Cell.okWide, Cell.ok, Tryd.underlying106] at hv2
    obtain ⟨_, hcap, -, hspot, row, cells0, hshape, -⟩ := hv2
    obtain ⟨g, o, spot⟩ := a
    obtain rfl : spot = none := hspot
    have hg : g < W.heap.size := by
      unfold World.shape? at hshape
      split at hshape
      · rename_i hgb
        exact (Array.getElem?_eq_some_iff.1 hgb).1
      · cases hshape
    have hall : ∀ i, ∃ x : UInt8, i < m → W.cell? ((⟨g, o, none⟩ : Addr).add i) = some (.int .u8 (x.toNat : Int)) := by
      intro i
      by_cases him : i < m
      · obtain ⟨h1, h2⟩ := hi i him
        obtain ⟨n', hn', _, hw⟩ := DataW.trod_int Tryd.underlying5 h2
        obtain ⟨c, rfl⟩ := byte_ex hw
        rw [List.singleton_inj] at hn'
        exact ⟨c, fun _ => by rw [h1, hn']⟩
      · exact ⟨0, fun h => absurd h him⟩
    obtain ⟨f, hf⟩ := Classical.axiomOfChoice hall
    simp only [if_true] at hmm
    refine ⟨some ⟨g, o, none⟩, cap, (List.range len).map f, by simp, some ⟨g, o, none⟩, cap, rfl, by simpa using hl, ?_, .inr ⟨g, o, rfl, hg, fun j u hu => ?_⟩⟩
    · have : IntKind.i64.max = 9223372036854775807 := by decide
      omega
    · have hj : j < len := by
        have := (List.getElem?_eq_some_iff.1 hu).1
        simpa [cells] using this
      rw [hf j (by omega)]
      simp [cells, hj] at hu
      rw [← hu]
end Go.Proofs.YtiofgepfcacgjaaDoor
namespace Go.Proofs.YtiofgepfcacgjaaDoor
open Go.ChangeShapes Go.WideShapes Go.ChangeAt Go.RowKit
set_option linter.unusedVariables false

theorem spot_none_b {W : World} {a : Addr} {v : Value} (h : W.cell? a = some v) : a = ⟨a.block, a.off, none⟩ ∧ a.block < W.heap.size := by
  obtain ⟨b, o, sp⟩ := a
  unfold World.cell? at h
  split at h
  · rename_i hb
    cases sp with
    | none => exact ⟨rfl, (Array.getElem?_eq_some_iff.1 hb).1⟩
    | some z => simp at h
  · cases h
set_option maxRecDepth 100000 in
/-- a cell that is a slice of bytes, as bytes -/
theorem bytes_of_trod {H : Type} {enc : TypeId × Value → H} {W : World} {fuel : Nat} {cs : List Value} {x : DataW H × List MemPlace}
    (h : DataW.trod enc Tryd.prog W 0 (fun _ => true) true fuel 106 cs = some x) :
    ∃ (A : Option Addr) (c : Nat) (l : List UInt8), cs = [.slice A l.length c] ∧ RdW W (.slice A l.length c) l := by
  rcases Go.Deep.open_slice1 Tryd.underlying106 Tryd.cellsByteO h with ⟨rfl, rfl⟩ | ⟨a, len, cap, m, n, V, D, Pl, rfl, _, hl, hm, hmm, rfl, hi⟩
  · exact ⟨none, 0, [], rfl, (RdAt.nil _).weak⟩
  · simp only [if_true] at hmm
    subst hmm
    have hm2 : m ≤ 9223372036854775807 := by unfold maxLen at hm; omega
    by_cases h0 : m = 0
    · subst h0
      obtain rfl : len = 0 := by omega
      exact ⟨some a, 0, [], rfl, some a, 0, rfl, Nat.le_refl _, Nat.zero_le _, .inl ⟨rfl, rfl⟩⟩
    · obtain ⟨he, hg⟩ := spot_none_b (hi 0 (by omega)).1
      have he : a = ⟨a.block, a.off, none⟩ := by
        obtain ⟨b, o, sp⟩ := a
        simp only [Addr.add] at he
        injection he with e1 e2 e3
        simp only at e3 ⊢
        rw [e3]
      have hg : a.block < W.heap.size := by simpa [Addr.add] using hg
      have hall : ∀ i, ∃ x : UInt8, i < m → W.cell? (a.add i) = some (.int .u8 (x.toNat : Int)) := by
        intro i
        by_cases him : i < m
        · obtain ⟨h1, h2⟩ := hi i him
          obtain ⟨n', hn', _, hw⟩ := DataW.trod_int Tryd.underlying5 h2
          obtain ⟨c, rfl⟩ := byte_ex hw
          rw [List.singleton_inj] at hn'
          exact ⟨c, fun _ => by rw [h1, hn']⟩
        · exact ⟨0, fun h => absurd h him⟩
      obtain ⟨f, hf⟩ := Classical.axiomOfChoice hall
      refine ⟨some a, m, (List.range len).map f, by simp, some a, m, rfl, by simpa using hl, hm2, .inr ⟨a.block, a.off, by rw [← he], hg, fun j u hu => ?_⟩⟩
      have hj : j < len := by
        have := (List.getElem?_eq_some_iff.1 hu).1
        simpa [cells] using this
      rw [← he, hf j (by omega)]
      simp [cells, hj] at hu
      rw [← hu]
end Go.Proofs.YtiofgepfcacgjaaDoor
namespace Go.Proofs.YtiofgepfcacgjaaDoor

inductive V where
  | mk (kind num : Int) (text : List UInt8) (list : List V) (keys : List (List UInt8))
def V.kind : V → Int
  | .mk k _ _ _ _ => k
def V.num : V → Int
  | .mk _ n _ _ _ => n
def V.text : V → List UInt8
  | .mk _ _ t _ _ => t
def V.list : V → List V
  | .mk _ _ _ l _ => l
def V.keys : V → List (List UInt8)
  | .mk _ _ _ _ ks => ks
def V.zero : V := .mk 0 0 [] [] []

/-- no two alike -/
def unlikeB : List (List UInt8) → Bool
  | [] => true
  | k :: r => !r.contains k && unlikeB r
/-- what a value must be by itself -/
def headB (k n : Int) (t : List UInt8) (ll : Nat) (ks : List (List UInt8)) : Bool :=
  decide (1 ≤ k ∧ k ≤ 6) && decide (k = 2 → n = 0 ∨ n = 1) && decide (k = 3 → -9007199254740992 ≤ n ∧ n ≤ 9007199254740992) && decide (k ≠ 2 → k ≠ 3 → n = 0) &&
  decide (k ≠ 4 → t = []) && decide (k ≠ 5 → k ≠ 6 → ll = 0) && decide (ll ≤ 64) && decide (k = 6 → ks.length = ll) && decide (k ≠ 6 → ks = []) && unlikeB ks
mutual
/-- good, and at most d deep -/
def V.fits : V → Nat → Bool
  | .mk k n t l ks, d => match d with
    | 0 => false
    | d + 1 => headB k n t l.length ks && V.fitsAll l d
def V.fitsAll : List V → Nat → Bool
  | [], _ => true
  | v :: r, d => v.fits d && V.fitsAll r d
end

/-! ## texts -/
def digit (n : Nat) : UInt8 := UInt8.ofNat (48 + n % 10)
/-- a number's digits -/
def decL (n : Nat) : List UInt8 := if n < 10 then [digit n] else decL (n / 10) ++ [digit n]
termination_by n
def decI (n : Int) : List UInt8 := if n < 0 then 45 :: decL n.natAbs else decL n.natAbs
def hexl (n : Nat) : UInt8 := if n < 10 then UInt8.ofNat (48 + n) else UInt8.ofNat (87 + n)
def quoteC (c : UInt8) : List UInt8 := if c = 34 ∨ c = 92 then [92, c] else if c.toNat < 32 then [92, 117, 48, 48, UInt8.ofNat (48 + c.toNat / 16), hexl (c.toNat % 16)] else [c]
/-- a text, as it stands: behind its first sign -/
def quoteT : List UInt8 → List UInt8
  | [] => [34]
  | c :: r => quoteC c ++ quoteT r
def quoteJ (t : List UInt8) : List UInt8 := 34 :: quoteT t
def nullT : List UInt8 := [110, 117, 108, 108]
def trueT : List UInt8 := [116, 114, 117, 101]
def falseT : List UInt8 := [102, 97, 108, 115, 101]
mutual
def V.show : V → List UInt8
  | .mk k n t l ks => if k = 1 then nullT else if k = 2 then (if n = 1 then trueT else falseT) else if k = 3 then decI n else if k = 4 then quoteJ t else
    if k = 5 then 91 :: (V.items l ++ [93]) else 123 :: (V.pairs l ks ++ [125])
/-- what stands in a list -/
def V.items : List V → List UInt8
  | [] => []
  | v :: r => v.show ++ V.itemsMore r
def V.itemsMore : List V → List UInt8
  | [] => []
  | v :: r => 44 :: (v.show ++ V.itemsMore r)
/-- what stands in an object -/
def V.pairs : List V → List (List UInt8) → List UInt8
  | [], _ => []
  | v :: r, ks => quoteJ (ks.headD []) ++ 58 :: (v.show ++ V.pairsMore r ks.tail)
def V.pairsMore : List V → List (List UInt8) → List UInt8
  | [], _ => []
  | v :: r, ks => 44 :: (quoteJ (ks.headD []) ++ 58 :: (v.show ++ V.pairsMore r ks.tail))
end

/-! ## the reader -/
def beginsB (s t : List UInt8) : Bool := s.take t.length == t
def isDigit (c : UInt8) : Bool := decide (48 ≤ c.toNat ∧ c.toNat ≤ 57)
/-- a hexadecimal digit's number; -1: none -/
def hexJ (c : UInt8) : Int := if 48 ≤ c.toNat ∧ c.toNat ≤ 57 then c.toNat - 48 else if 97 ≤ c.toNat ∧ c.toNat ≤ 102 then c.toNat - 87 else if 65 ≤ c.toNat ∧ c.toNat ≤ 70 then c.toNat - 55 else -1
/-- behind a text's first sign: the text, and how many bytes; none: there is no end -/
def wordT : List UInt8 → List UInt8 → Nat → Option (List UInt8 × Nat)
  | [], _, _ => none
  | c :: r, acc, n =>
    if c = 34 then some (acc, n + 1)
    else if c = 92 then
      match r with
      | e :: r' =>
        if e = 34 ∨ e = 92 then wordT r' (acc ++ [e]) (n + 2)
        else match r' with
          | x :: y :: h :: l :: r'' => if e = 117 ∧ x = 48 ∧ y = 48 ∧ 0 ≤ hexJ h ∧ 0 ≤ hexJ l then wordT r'' (acc ++ [UInt8.ofNat (16 * hexJ h + hexJ l).toNat]) (n + 6) else none
          | _ => none
      | [] => none
    else wordT r (acc ++ [c]) (n + 1)
/-- digits, at most so many: the number, and how many -/
def numT : List UInt8 → Nat → Int → Nat → Int × Nat
  | [], _, v, n => (v, n)
  | _, 0, v, n => (v, n)
  | c :: r, m + 1, v, n => if isDigit c then numT r m (v * 10 + (c.toNat - 48 : Int)) (n + 1) else (v, n)

theorem unlike_nodup (l : List (List UInt8)) : unlikeB l = true ↔ l.Nodup := by
  induction l with
  | nil => simp [unlikeB]
  | cons a r ih => simp [unlikeB, ih]

/-! ### a text is read again -/
theorem hexl_back (n : Nat) (h : n < 16) : hexJ (hexl n) = n := by
  have : ∀ n : Fin 16, hexJ (hexl n.val) = (n.val : Int) := by decide +kernel
  exact this ⟨n, h⟩
theorem hexs_back (n : Nat) (h : n < 2) : hexJ (UInt8.ofNat (48 + n)) = n := by
  have : ∀ n : Fin 2, hexJ (UInt8.ofNat (48 + n.val)) = (n.val : Int) := by decide +kernel
  exact this ⟨n, h⟩
theorem wordT_quote (t r acc : List UInt8) (n : Nat) : wordT (quoteT t ++ r) acc n = some (acc ++ t, n + (quoteT t).length) := by
  induction t generalizing acc n with
  | nil => rw [quoteT]; unfold wordT; simp
  | cons c t ih =>
    rw [quoteT]
    by_cases h : c = 34 ∨ c = 92
    · rw [quoteC, if_pos h, List.append_assoc]
      show wordT (92 :: c :: (quoteT t ++ r)) acc n = _
      unfold wordT
      rw [if_neg (by decide), if_pos rfl]
      simp only [h, if_true]
      rw [ih]; simp; omega
    · by_cases h2 : c.toNat < 32
      · rw [quoteC, if_neg h, if_pos h2, List.append_assoc]
        show wordT (92 :: 117 :: 48 :: 48 :: UInt8.ofNat (48 + c.toNat / 16) :: hexl (c.toNat % 16) :: (quoteT t ++ r)) acc n = _
        have e1 := hexs_back (c.toNat / 16) (by omega)
        have e2 := hexl_back (c.toNat % 16) (by omega)
        have e3 : UInt8.ofNat (16 * hexJ (UInt8.ofNat (48 + c.toNat / 16)) + hexJ (hexl (c.toNat % 16))).toNat = c := by
          rw [e1, e2]
          have : (16 * ((c.toNat / 16 : Nat) : Int) + ((c.toNat % 16 : Nat) : Int)).toNat = c.toNat := by omega
          rw [this]; exact UInt8.ofNat_toNat
        unfold wordT
        rw [if_neg (by decide), if_pos rfl]
        dsimp only
        rw [if_neg (by decide), if_pos ⟨rfl, rfl, rfl, by rw [e1]; omega, by rw [e2]; omega⟩, e3, ih]
        simp; omega
      · have h3 : c ≠ 34 := fun e => h (Or.inl e)
        have h4 : c ≠ 92 := fun e => h (Or.inr e)
        rw [quoteC, if_neg h, if_neg h2, List.append_assoc]
        show wordT (c :: (quoteT t ++ r)) acc n = _
        unfold wordT
        rw [if_neg h3, if_neg h4, ih]; simp; omega
/-! ### a number is read again -/
theorem digit_is (n : Nat) : isDigit (digit n) = true := by
  unfold isDigit digit
  have h : (UInt8.ofNat (48 + n % 10)).toNat = 48 + n % 10 := by rw [UInt8.toNat_ofNat']; omega
  rw [h]; simp; omega
theorem digit_val (n : Nat) : ((digit n).toNat : Int) - 48 = (n % 10 : Nat) := by
  unfold digit
  have h : (UInt8.ofNat (48 + n % 10)).toNat = 48 + n % 10 := by rw [UInt8.toNat_ofNat']; omega
  rw [h]; omega
theorem decL_pos (n : Nat) : 0 < (decL n).length := by
  unfold decL; split <;> simp
theorem decL_len (n : Nat) : ∀ k, n < 10 ^ k → 0 < k → (decL n).length ≤ k := by
  induction n using Nat.strongRecOn with
  | _ n ih =>
    intro k hk h0
    unfold decL
    split
    · simp; omega
    · rename_i h10
      obtain ⟨j, rfl⟩ : ∃ j, k = j + 1 := ⟨k - 1, by omega⟩
      have hj : n / 10 < 10 ^ j := by rw [Nat.pow_succ] at hk; omega
      have h0j : 0 < j := by
        rcases Nat.eq_zero_or_pos j with rfl | h
        · simp at hk; omega
        · exact h
      have := ih (n / 10) (by omega) j hj h0j
      rw [List.length_append, List.length_singleton]; omega
theorem numT_dec (n : Nat) : ∀ (r : List UInt8) (m k : Nat) (v : Int), (decL n).length ≤ m → numT (decL n ++ r) m v k = numT r (m - (decL n).length) (v * 10 ^ (decL n).length + n) (k + (decL n).length) := by
  induction n using Nat.strongRecOn with
  | _ n ih =>
    intro r m k v hm
    by_cases h : n < 10
    · have e : decL n = [digit n] := by unfold decL; rw [if_pos h]
      rw [e] at hm ⊢
      obtain ⟨j, rfl⟩ : ∃ j, m = j + 1 := ⟨m - 1, by simp at hm; omega⟩
      show numT (digit n :: r) (j + 1) v k = _
      rw [numT, if_pos (digit_is n), digit_val]
      simp [Nat.mod_eq_of_lt h]
    · have e : decL n = decL (n / 10) ++ [digit n] := by rw [decL, if_neg h]
      rw [e] at hm ⊢
      have hl : (decL (n / 10)).length + 1 ≤ m := by simpa using hm
      rw [List.append_assoc, ih (n / 10) (by omega) _ m k v (by omega)]
      obtain ⟨j, hj⟩ : ∃ j, m - (decL (n / 10)).length = j + 1 := ⟨m - (decL (n / 10)).length - 1, by omega⟩
      rw [hj]
      show numT (digit n :: r) (j + 1) _ _ = _
      rw [numT, if_pos (digit_is n), digit_val, List.length_append, List.length_singleton]
      have e2 : m - ((decL (n / 10)).length + 1) = j := by omega
      rw [e2]
      congr 1
      rw [Int.pow_succ]
      have : (n : Int) = (n / 10 : Nat) * 10 + (n % 10 : Nat) := by omega
      rw [Int.add_mul, Int.mul_assoc, Int.add_assoc]
      omega
/-- where no digit stands, no more is read -/
def noDigit : List UInt8 → Bool
  | [] => true
  | c :: _ => !isDigit c
theorem numT_stop (r : List UInt8) (m : Nat) (v : Int) (k : Nat) (h : noDigit r = true) : numT r m v k = (v, k) := by
  cases r with
  | nil => rfl
  | cons c r =>
    cases m with
    | zero => rfl
    | succ m => rw [numT]; simp only [noDigit, Bool.not_eq_true'] at h; rw [h]; rfl
end Go.Proofs.YtiofgepfcacgjaaDoor
