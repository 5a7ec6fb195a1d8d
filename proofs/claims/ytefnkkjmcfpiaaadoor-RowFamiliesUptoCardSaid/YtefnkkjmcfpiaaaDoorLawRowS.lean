/- Layer 13's laws RowSessions, RowCodes, out of what the code's rows do. Written by wip/gen/glaw13.py. -/
import Derived.Test.YtefnkkjmcfpiaaaDoorLawRowT
import Derived.Test.YtefnkkjmcfpiaaaDoorRowRefS
namespace Go.Proofs.YtefnkkjmcfpiaaaDoor
open Go.RowKit
set_option linter.unusedVariables false
set_option linter.unusedSimpArgs false

set_option maxRecDepth 100000 in
set_option maxHeartbeats 8000000 in
theorem rowSessions_at {M : Nat} {w : World} (H : CodeRow w M) (hM : 60000 ≤ M) (x : Sess) (hx : x.ok) (hm : (textsL x.texts).length ≤ M) (hs0 : (textsL x.texts).length ≤ 9000000000000000) :
    Calls Tryd.prog 5 #[x.val] w fun e w' => e = .returned (.bool true) ∧ Below w.heap.size w w' := by
  have hans := fun W (hb : Below w.heap.size w W) => answers13_any (H.later hb) hM
  have hco := fun W (hb : Below w.heap.size w W) => H.session W hb x hx hm
  have hrd := fun (h : (textsL x.texts).length ≤ 20000) W (hb : Below w.heap.size w W) => H.readSession W hb ⟨(textsL x.texts).toArray⟩ (by show (textsL x.texts).toArray.size ≤ _; simp; omega)
  have hrf := fun (h : (textsL x.texts).length ≤ 20000) W => refSession13_any x hx (by omega) W
  obtain ⟨X, hX⟩ : ∃ B : ByteArray, B = ⟨(textsL x.texts).toArray⟩ := ⟨_, rfl⟩
  have hXs : X.size = (textsL x.texts).length := by rw [hX]; show Array.size _ = _; simp
  have hinj : ∀ y : Sess, (textsL x.texts) = textsL y.texts → y = x := fun y h => (Sess.inj h).symm
  have hno : ∀ P : Prop, (∀ y : Sess, y.ok → (⟨(textsL x.texts).toArray⟩ : ByteArray).data.toList ≠ textsL y.texts) → P := fun P h => absurd (by simp) (h x hx)
  have hdl : (⟨(textsL x.texts).toArray⟩ : ByteArray).data.toList = textsL x.texts := by simp
  rw [← hX] at hno hrd hdl
  unfold tv at hco hrf
  rw [← hX] at hco hrf
  rw [← hXs] at hs0 hrd hrf
  obtain ⟨B0, hB0⟩ : ∃ B : ByteArray, B = ⟨x.fCookie.toArray⟩ := ⟨_, rfl⟩
  obtain ⟨B1, hB1⟩ : ∃ B : ByteArray, B = ⟨x.fClient.toArray⟩ := ⟨_, rfl⟩
  obtain ⟨B2, hB2⟩ : ∃ B : ByteArray, B = ⟨x.fRedirect.toArray⟩ := ⟨_, rfl⟩
  obtain ⟨B3, hB3⟩ : ∃ B : ByteArray, B = ⟨x.fState.toArray⟩ := ⟨_, rfl⟩
  obtain ⟨B4, hB4⟩ : ∃ B : ByteArray, B = ⟨x.fNonce.toArray⟩ := ⟨_, rfl⟩
  obtain ⟨B5, hB5⟩ : ∃ B : ByteArray, B = ⟨x.fScope.toArray⟩ := ⟨_, rfl⟩
  obtain ⟨B6, hB6⟩ : ∃ B : ByteArray, B = ⟨x.fChallenge.toArray⟩ := ⟨_, rfl⟩
  obtain ⟨B8, hB8⟩ : ∃ B : ByteArray, B = ⟨x.fConn.toArray⟩ := ⟨_, rfl⟩
  obtain ⟨B9, hB9⟩ : ∃ B : ByteArray, B = ⟨x.fUpState.toArray⟩ := ⟨_, rfl⟩
  obtain ⟨B10, hB10⟩ : ∃ B : ByteArray, B = ⟨x.fUpNonce.toArray⟩ := ⟨_, rfl⟩
  have hval : x.val = .agg #[.string B0, .string B1, .string B2, .string B3, .string B4, .string B5, .string B6, .int .i64 x.fStage, .string B8, .string B9, .string B10, .int .i64 x.fEnds] := by
    rw [hB0, hB1, hB2, hB3, hB4, hB5, hB6, hB8, hB9, hB10]; rfl
  rw [hval] at hco hrf ⊢
  have hXX : (X.toList == X.toList) = true := by simp
  obtain ⟨b, hb⟩ : ∃ b, w.heap.size = b := ⟨_, rfl⟩
  obtain ⟨W0, hW0⟩ : ∃ W, w.alloc (.cells #[.string B0, .string B1, .string B2, .string B3, .string B4, .string B5, .string B6, .int .i64 x.fStage, .string B8, .string B9, .string B10, .int .i64 x.fEnds] 35) = W := ⟨_, rfl⟩
  have hb0 : Below w.heap.size w W0 := by rw [← hW0]; exact (Below.refl _ _).alloc (Nat.le_refl _) _
  have k0 : W0.heap[b]? = some (.cells #[.string B0, .string B1, .string B2, .string B3, .string B4, .string B5, .string B6, .int .i64 x.fStage, .string B8, .string B9, .string B10, .int .i64 x.fEnds] 35) := by rw [← hW0, ← hb]; exact heap_alloc_last w _
  have hcb : ∀ W, Below W0.heap.size W0 W → W.cell? ⟨b, 0, none⟩ = some (.string B0) ∧ W.cell? ⟨b, 1, none⟩ = some (.string B1) ∧ W.cell? ⟨b, 2, none⟩ = some (.string B2) ∧ W.cell? ⟨b, 3, none⟩ = some (.string B3) ∧ W.cell? ⟨b, 4, none⟩ = some (.string B4) ∧ W.cell? ⟨b, 5, none⟩ = some (.string B5) ∧ W.cell? ⟨b, 6, none⟩ = some (.string B6) ∧ W.cell? ⟨b, 7, none⟩ = some (.int .i64 x.fStage) ∧ W.cell? ⟨b, 8, none⟩ = some (.string B8) ∧ W.cell? ⟨b, 9, none⟩ = some (.string B9) ∧ W.cell? ⟨b, 10, none⟩ = some (.string B10) ∧ W.cell? ⟨b, 11, none⟩ = some (.int .i64 x.fEnds) := fun W hb => by
    have k := blk_below k0 hb
    exact ⟨cell_here k, cell_here k, cell_here k, cell_here k, cell_here k, cell_here k, cell_here k, cell_here k, cell_here k, cell_here k, cell_here k, cell_here k⟩
  have HANS := Lib.hid hans; have HCO := Lib.hid hco; have HRD := Lib.hid hrd; have HRF := Lib.hid hrf; have HINJ := Lib.hid hinj; have HNO := Lib.hid hno; have HVAL := Lib.hid hval; have HB0 := Lib.hid hb0; have HCB := Lib.hid hcb; have HW0 := Lib.hid hW0; have HB := Lib.hid hb; have HDL := Lib.hid hdl
  obtain ⟨q, hq⟩ : ∃ q, X.size = q := ⟨_, rfl⟩
  rw [hq] at hs0 HRD HRF
  have hq' : (X.size : Int) = q := by rw [hq]
  clear hans hco hrd hrf hinj hno hval hb0 hcb hW0 hb hdl k0 hX hXs hx hm H hq hB0 hB1 hB2 hB3 hB4 hB5 hB6 hB8 hB9 hB10
  go_enter Tryd.func5, Tryd.ntmps5
  go_upto_region 1 with fail
  rw [HW0.out, HB.out]
  obtain ⟨c0, c1, c2, c3, c4, c5, c6, c7, c8, c9, c10, c11⟩ := HCB.out _ (Below.refl _ _)
  go_wp2_with fail
  refine (HCO.out _ HB0.out).mono ?_
  rintro e w1 ⟨rfl, hb1⟩
  have Q1 := Lib.hid hb1; clear hb1 c0 c1 c2 c3 c4 c5 c6 c7 c8 c9 c10 c11
  dsimp only
  by_cases hbig : 20000 < q
  · have hd : decide ((20000 : Int) < q) = true := by simp; omega
    clear hbig
    go_wp2_with fail
    refine (HANS.out _ (HB0.out.chain Q1.out)).mono ?_
    rintro e w2 ⟨rfl, hb2⟩
    have Q2 := Lib.hid (Q1.out.chain hb2); clear hb2
    dsimp only
    go_wp2
    go_ret
    exact ⟨rfl, HB0.out.chain Q2.out⟩
  have hd : decide ((20000 : Int) < q) = false := by simp; omega
  have hq2 : q ≤ 20000 := by omega
  have HRD2 := Lib.hid (HRD.out hq2); have HRF2 := Lib.hid (HRF.out hq2)
  clear hbig HRD HRF hq2
  go_wp2_with fail
  refine (HRD2.out _ (HB0.out.chain Q1.out)).mono ?_
  rintro e w2 ⟨⟨y, -, hy, rfl⟩ | ⟨hn, -⟩, hb2⟩
  case inr => exact HNO.out _ hn
  obtain rfl : y = x := HINJ.out y (HDL.out.symm.trans hy)
  rw [HVAL.out]
  have Q2 := Lib.hid (Q1.out.chain hb2); clear hb2 hy
  dsimp only
  go_upto_region 5 with fail
  obtain ⟨R, hR⟩ : ∃ R, w2.heap.size = R := ⟨_, rfl⟩
  obtain ⟨W3, hW3⟩ : ∃ W, w2.alloc (.cells #[.string B0, .string B1, .string B2, .string B3, .string B4, .string B5, .string B6, .int .i64 y.fStage, .string B8, .string B9, .string B10, .int .i64 y.fEnds] 35) = W := ⟨_, rfl⟩
  have hb3 : Below w2.heap.size w2 W3 := by rw [← hW3]; exact (Below.refl _ _).alloc (Nat.le_refl _) _
  have k3 : W3.heap[R]? = some (.cells #[.string B0, .string B1, .string B2, .string B3, .string B4, .string B5, .string B6, .int .i64 y.fStage, .string B8, .string B9, .string B10, .int .i64 y.fEnds] 35) := by rw [← hW3, ← hR]; exact heap_alloc_last w2 _
  have hcd : ∀ W, Below W3.heap.size W3 W → W.cell? ⟨R, 0, none⟩ = some (.string B0) ∧ W.cell? ⟨R, 1, none⟩ = some (.string B1) ∧ W.cell? ⟨R, 2, none⟩ = some (.string B2) ∧ W.cell? ⟨R, 3, none⟩ = some (.string B3) ∧ W.cell? ⟨R, 4, none⟩ = some (.string B4) ∧ W.cell? ⟨R, 5, none⟩ = some (.string B5) ∧ W.cell? ⟨R, 6, none⟩ = some (.string B6) ∧ W.cell? ⟨R, 7, none⟩ = some (.int .i64 y.fStage) ∧ W.cell? ⟨R, 8, none⟩ = some (.string B8) ∧ W.cell? ⟨R, 9, none⟩ = some (.string B9) ∧ W.cell? ⟨R, 10, none⟩ = some (.string B10) ∧ W.cell? ⟨R, 11, none⟩ = some (.int .i64 y.fEnds) := fun W hb => by
    have k := blk_below k3 hb
    exact ⟨cell_here k, cell_here k, cell_here k, cell_here k, cell_here k, cell_here k, cell_here k, cell_here k, cell_here k, cell_here k, cell_here k, cell_here k⟩
  rw [hR, hW3]
  have Q3 := Lib.hid (Q2.out.chain hb3); have HCD := Lib.hid hcd
  clear hcd hb3 k3 hW3 hR
  go_wp2_with fail
  refine (HANS.out _ (HB0.out.chain Q3.out)).mono ?_
  rintro e w4 ⟨rfl, hb4⟩
  have Q4 := Lib.hid (Q3.out.chain hb4); have P4 := Lib.hid hb4; clear hb4
  dsimp only
  obtain ⟨c0, c1, c2, c3, c4, c5, c6, c7, c8, c9, c10, c11⟩ := HCB.out _ Q4.out
  go_wp2_with fail
  refine (HRF2.out _).mono ?_
  rintro e w5 ⟨rfl, hb5⟩
  have Q5 := Lib.hid (Q4.out.chain hb5); have P5 := Lib.hid (P4.out.chain hb5); clear hb5 c0 c1 c2 c3 c4 c5 c6 c7 c8 c9 c10 c11
  dsimp only
  obtain ⟨c0, c1, c2, c3, c4, c5, c6, c7, c8, c9, c10, c11⟩ := HCB.out _ Q5.out
  obtain ⟨d0, d1, d2, d3, d4, d5, d6, d7, d8, d9, d10, d11⟩ := HCD.out _ P5.out
  go_wp2
  go_ret
  exact ⟨rfl, HB0.out.chain Q5.out⟩
set_option maxRecDepth 100000 in
set_option maxHeartbeats 8000000 in
theorem rowCodes_at {M : Nat} {w : World} (H : CodeRow w M) (hM : 60000 ≤ M) (x : Cod) (hx : x.ok) (hm : (textsL x.texts).length ≤ M) (hs0 : (textsL x.texts).length ≤ 9000000000000000) :
    Calls Tryd.prog 6 #[x.val] w fun e w' => e = .returned (.bool true) ∧ Below w.heap.size w w' := by
  have hans := fun W (hb : Below w.heap.size w W) => answers13_any (H.later hb) hM
  have hco := fun W (hb : Below w.heap.size w W) => H.code W hb x hx hm
  have hrd := fun (h : (textsL x.texts).length ≤ 20000) W (hb : Below w.heap.size w W) => H.readCode W hb ⟨(textsL x.texts).toArray⟩ (by show (textsL x.texts).toArray.size ≤ _; simp; omega)
  have hrf := fun (h : (textsL x.texts).length ≤ 20000) W => refCode13_any x hx (by omega) W
  obtain ⟨X, hX⟩ : ∃ B : ByteArray, B = ⟨(textsL x.texts).toArray⟩ := ⟨_, rfl⟩
  have hXs : X.size = (textsL x.texts).length := by rw [hX]; show Array.size _ = _; simp
  have hinj : ∀ y : Cod, (textsL x.texts) = textsL y.texts → y = x := fun y h => (Cod.inj h).symm
  have hno : ∀ P : Prop, (∀ y : Cod, y.ok → (⟨(textsL x.texts).toArray⟩ : ByteArray).data.toList ≠ textsL y.texts) → P := fun P h => absurd (by simp) (h x hx)
  have hdl : (⟨(textsL x.texts).toArray⟩ : ByteArray).data.toList = textsL x.texts := by simp
  rw [← hX] at hno hrd hdl
  unfold tv at hco hrf
  rw [← hX] at hco hrf
  rw [← hXs] at hs0 hrd hrf
  obtain ⟨B0, hB0⟩ : ∃ B : ByteArray, B = ⟨x.fCode.toArray⟩ := ⟨_, rfl⟩
  obtain ⟨B1, hB1⟩ : ∃ B : ByteArray, B = ⟨x.fClient.toArray⟩ := ⟨_, rfl⟩
  obtain ⟨B2, hB2⟩ : ∃ B : ByteArray, B = ⟨x.fRedirect.toArray⟩ := ⟨_, rfl⟩
  obtain ⟨B3, hB3⟩ : ∃ B : ByteArray, B = ⟨x.fChallenge.toArray⟩ := ⟨_, rfl⟩
  obtain ⟨B4, hB4⟩ : ∃ B : ByteArray, B = ⟨x.fNonce.toArray⟩ := ⟨_, rfl⟩
  obtain ⟨B5, hB5⟩ : ∃ B : ByteArray, B = ⟨x.fScope.toArray⟩ := ⟨_, rfl⟩
  obtain ⟨B6, hB6⟩ : ∃ B : ByteArray, B = ⟨x.fUser.toArray⟩ := ⟨_, rfl⟩
  obtain ⟨B7, hB7⟩ : ∃ B : ByteArray, B = ⟨x.fConn.toArray⟩ := ⟨_, rfl⟩
  obtain ⟨B8, hB8⟩ : ∃ B : ByteArray, B = ⟨x.fSub.toArray⟩ := ⟨_, rfl⟩
  obtain ⟨B9, hB9⟩ : ∃ B : ByteArray, B = ⟨x.fClaims.toArray⟩ := ⟨_, rfl⟩
  obtain ⟨B10, hB10⟩ : ∃ B : ByteArray, B = ⟨x.fRefresh.toArray⟩ := ⟨_, rfl⟩
  obtain ⟨B12, hB12⟩ : ∃ B : ByteArray, B = ⟨x.fFamily.toArray⟩ := ⟨_, rfl⟩
  have hval : x.val = .agg #[.string B0, .string B1, .string B2, .string B3, .string B4, .string B5, .string B6, .string B7, .string B8, .string B9, .string B10, .int .i64 x.fEnds, .string B12] := by
    rw [hB0, hB1, hB2, hB3, hB4, hB5, hB6, hB7, hB8, hB9, hB10, hB12]; rfl
  rw [hval] at hco hrf ⊢
  have hXX : (X.toList == X.toList) = true := by simp
  obtain ⟨b, hb⟩ : ∃ b, w.heap.size = b := ⟨_, rfl⟩
  obtain ⟨W0, hW0⟩ : ∃ W, w.alloc (.cells #[.string B0, .string B1, .string B2, .string B3, .string B4, .string B5, .string B6, .string B7, .string B8, .string B9, .string B10, .int .i64 x.fEnds, .string B12] 41) = W := ⟨_, rfl⟩
  have hb0 : Below w.heap.size w W0 := by rw [← hW0]; exact (Below.refl _ _).alloc (Nat.le_refl _) _
  have k0 : W0.heap[b]? = some (.cells #[.string B0, .string B1, .string B2, .string B3, .string B4, .string B5, .string B6, .string B7, .string B8, .string B9, .string B10, .int .i64 x.fEnds, .string B12] 41) := by rw [← hW0, ← hb]; exact heap_alloc_last w _
  have hcb : ∀ W, Below W0.heap.size W0 W → W.cell? ⟨b, 0, none⟩ = some (.string B0) ∧ W.cell? ⟨b, 1, none⟩ = some (.string B1) ∧ W.cell? ⟨b, 2, none⟩ = some (.string B2) ∧ W.cell? ⟨b, 3, none⟩ = some (.string B3) ∧ W.cell? ⟨b, 4, none⟩ = some (.string B4) ∧ W.cell? ⟨b, 5, none⟩ = some (.string B5) ∧ W.cell? ⟨b, 6, none⟩ = some (.string B6) ∧ W.cell? ⟨b, 7, none⟩ = some (.string B7) ∧ W.cell? ⟨b, 8, none⟩ = some (.string B8) ∧ W.cell? ⟨b, 9, none⟩ = some (.string B9) ∧ W.cell? ⟨b, 10, none⟩ = some (.string B10) ∧ W.cell? ⟨b, 11, none⟩ = some (.int .i64 x.fEnds) ∧ W.cell? ⟨b, 12, none⟩ = some (.string B12) := fun W hb => by
    have k := blk_below k0 hb
    exact ⟨cell_here k, cell_here k, cell_here k, cell_here k, cell_here k, cell_here k, cell_here k, cell_here k, cell_here k, cell_here k, cell_here k, cell_here k, cell_here k⟩
  have HANS := Lib.hid hans; have HCO := Lib.hid hco; have HRD := Lib.hid hrd; have HRF := Lib.hid hrf; have HINJ := Lib.hid hinj; have HNO := Lib.hid hno; have HVAL := Lib.hid hval; have HB0 := Lib.hid hb0; have HCB := Lib.hid hcb; have HW0 := Lib.hid hW0; have HB := Lib.hid hb; have HDL := Lib.hid hdl
  obtain ⟨q, hq⟩ : ∃ q, X.size = q := ⟨_, rfl⟩
  rw [hq] at hs0 HRD HRF
  have hq' : (X.size : Int) = q := by rw [hq]
  clear hans hco hrd hrf hinj hno hval hb0 hcb hW0 hb hdl k0 hX hXs hx hm H hq hB0 hB1 hB2 hB3 hB4 hB5 hB6 hB7 hB8 hB9 hB10 hB12
  go_enter Tryd.func6, Tryd.ntmps6
  go_upto_region 1 with fail
  rw [HW0.out, HB.out]
  obtain ⟨c0, c1, c2, c3, c4, c5, c6, c7, c8, c9, c10, c11, c12⟩ := HCB.out _ (Below.refl _ _)
  go_wp2_with fail
  refine (HCO.out _ HB0.out).mono ?_
  rintro e w1 ⟨rfl, hb1⟩
  have Q1 := Lib.hid hb1; clear hb1 c0 c1 c2 c3 c4 c5 c6 c7 c8 c9 c10 c11 c12
  dsimp only
  by_cases hbig : 20000 < q
  · have hd : decide ((20000 : Int) < q) = true := by simp; omega
    clear hbig
    go_wp2_with fail
    refine (HANS.out _ (HB0.out.chain Q1.out)).mono ?_
    rintro e w2 ⟨rfl, hb2⟩
    have Q2 := Lib.hid (Q1.out.chain hb2); clear hb2
    dsimp only
    go_wp2
    go_ret
    exact ⟨rfl, HB0.out.chain Q2.out⟩
  have hd : decide ((20000 : Int) < q) = false := by simp; omega
  have hq2 : q ≤ 20000 := by omega
  have HRD2 := Lib.hid (HRD.out hq2); have HRF2 := Lib.hid (HRF.out hq2)
  clear hbig HRD HRF hq2
  go_wp2_with fail
  refine (HRD2.out _ (HB0.out.chain Q1.out)).mono ?_
  rintro e w2 ⟨⟨y, -, hy, rfl⟩ | ⟨hn, -⟩, hb2⟩
  case inr => exact HNO.out _ hn
  obtain rfl : y = x := HINJ.out y (HDL.out.symm.trans hy)
  rw [HVAL.out]
  have Q2 := Lib.hid (Q1.out.chain hb2); clear hb2 hy
  dsimp only
  go_upto_region 5 with fail
  obtain ⟨R, hR⟩ : ∃ R, w2.heap.size = R := ⟨_, rfl⟩
  obtain ⟨W3, hW3⟩ : ∃ W, w2.alloc (.cells #[.string B0, .string B1, .string B2, .string B3, .string B4, .string B5, .string B6, .string B7, .string B8, .string B9, .string B10, .int .i64 y.fEnds, .string B12] 41) = W := ⟨_, rfl⟩
  have hb3 : Below w2.heap.size w2 W3 := by rw [← hW3]; exact (Below.refl _ _).alloc (Nat.le_refl _) _
  have k3 : W3.heap[R]? = some (.cells #[.string B0, .string B1, .string B2, .string B3, .string B4, .string B5, .string B6, .string B7, .string B8, .string B9, .string B10, .int .i64 y.fEnds, .string B12] 41) := by rw [← hW3, ← hR]; exact heap_alloc_last w2 _
  have hcd : ∀ W, Below W3.heap.size W3 W → W.cell? ⟨R, 0, none⟩ = some (.string B0) ∧ W.cell? ⟨R, 1, none⟩ = some (.string B1) ∧ W.cell? ⟨R, 2, none⟩ = some (.string B2) ∧ W.cell? ⟨R, 3, none⟩ = some (.string B3) ∧ W.cell? ⟨R, 4, none⟩ = some (.string B4) ∧ W.cell? ⟨R, 5, none⟩ = some (.string B5) ∧ W.cell? ⟨R, 6, none⟩ = some (.string B6) ∧ W.cell? ⟨R, 7, none⟩ = some (.string B7) ∧ W.cell? ⟨R, 8, none⟩ = some (.string B8) ∧ W.cell? ⟨R, 9, none⟩ = some (.string B9) ∧ W.cell? ⟨R, 10, none⟩ = some (.string B10) ∧ W.cell? ⟨R, 11, none⟩ = some (.int .i64 y.fEnds) ∧ W.cell? ⟨R, 12, none⟩ = some (.string B12) := fun W hb => by
    have k := blk_below k3 hb
    exact ⟨cell_here k, cell_here k, cell_here k, cell_here k, cell_here k, cell_here k, cell_here k, cell_here k, cell_here k, cell_here k, cell_here k, cell_here k, cell_here k⟩
  rw [hR, hW3]
  have Q3 := Lib.hid (Q2.out.chain hb3); have HCD := Lib.hid hcd
  clear hcd hb3 k3 hW3 hR
  go_wp2_with fail
  refine (HANS.out _ (HB0.out.chain Q3.out)).mono ?_
  rintro e w4 ⟨rfl, hb4⟩
  have Q4 := Lib.hid (Q3.out.chain hb4); have P4 := Lib.hid hb4; clear hb4
  dsimp only
  obtain ⟨c0, c1, c2, c3, c4, c5, c6, c7, c8, c9, c10, c11, c12⟩ := HCB.out _ Q4.out
  go_wp2_with fail
  refine (HRF2.out _).mono ?_
  rintro e w5 ⟨rfl, hb5⟩
  have Q5 := Lib.hid (Q4.out.chain hb5); have P5 := Lib.hid (P4.out.chain hb5); clear hb5 c0 c1 c2 c3 c4 c5 c6 c7 c8 c9 c10 c11 c12
  dsimp only
  obtain ⟨c0, c1, c2, c3, c4, c5, c6, c7, c8, c9, c10, c11, c12⟩ := HCB.out _ Q5.out
  obtain ⟨d0, d1, d2, d3, d4, d5, d6, d7, d8, d9, d10, d11, d12⟩ := HCD.out _ P5.out
  go_wp2
  go_ret
  exact ⟨rfl, HB0.out.chain Q5.out⟩
end Go.Proofs.YtefnkkjmcfpiaaaDoor
