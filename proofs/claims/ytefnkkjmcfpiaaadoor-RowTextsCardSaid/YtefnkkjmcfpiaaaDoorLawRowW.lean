/- Layer 13's law RowWrong, out of what the code's rows do. Written by wip/gen/glaw13f.py. -/
import Derived.Test.YtefnkkjmcfpiaaaDoorLawRowT
namespace Go.Proofs.YtefnkkjmcfpiaaaDoor
open Go.RowKit
set_option linter.unusedVariables false
set_option linter.unusedSimpArgs false

set_option maxRecDepth 100000 in
set_option maxHeartbeats 16000000 in
theorem rowWrong_at {M : Nat} {w : World} (H : CodeRow w M) (hM : 60000 ≤ M) (s : ByteArray) :
    Calls Tryd.prog 8 #[.string s] w fun e w' => e = .returned (.bool true) ∧ Below w.heap.size w w' := by
  have hans := fun W (hb : Below w.heap.size w W) => answers13_any (H.later hb) hM
  by_cases hbig : 3000 < s.size
  · have hd : decide ((3000 : Int) < s.size) = true := by simp; omega
    have HANS := Lib.hid hans
    clear hans H hbig
    go_enter Tryd.func8, Tryd.ntmps8
    go_wp2_with fail
    refine (HANS.out _ (Below.refl _ _)).mono ?_
    rintro e w1 ⟨rfl, hb1⟩
    have B1 := Lib.hid hb1; clear hb1
    dsimp only
    go_wp2
    go_ret
    exact ⟨rfl, B1.out⟩
  have hd : decide ((3000 : Int) < s.size) = false := by simp; omega
  have hr1 := H.readSession w (Below.refl _ _) s (by omega)
  have hr2 := fun W (hb : Below w.heap.size w W) => H.readCode W hb s (by omega)
  have hr3 := fun W (hb : Below w.heap.size w W) => H.readFamily W hb s (by omega)
  have hrs := fun W => refSplit13_any s (by omega) W
  obtain ⟨L, hL⟩ : ∃ L, s.data.toList = L := ⟨_, rfl⟩
  have hLs : L.length ≤ M := by rw [← hL]; have : s.data.toList.length = s.size := rfl; omega
  have hsL : s = ⟨L.toArray⟩ := by rw [← hL]
  have hst : ∀ l, L = textsL l → (textsL l).length ≤ M ∧ tv (textsL l) = .string s := fun l h => ⟨by rw [← h]; exact hLs, by unfold tv; rw [hsL, ← h]⟩
  simp only [hL] at hr1 hr2 hr3 hrs
  have hss : (!s.toList == s.toList) = false := by simp
  have HANS := Lib.hid hans; have HRS := Lib.hid hrs; have H1 := Lib.hid hr1; have H2 := Lib.hid hr2; have H3 := Lib.hid hr3; have HST := Lib.hid hst; have HH := Lib.hid H
  clear hans hrs hr1 hr2 hr3 hLs hsL H hbig hL hst
  go_enter Tryd.func8, Tryd.ntmps8
  go_wp2_with fail
  refine H1.out.mono ?_
  rintro e Sw ⟨hres, hb⟩
  obtain ⟨Sx, SE, rfl, hE⟩ : ∃ (x : Sess) (E : Int), e = .returned (.tuple #[x.val, .int .i64 E]) ∧ ((E = 0 ∧ x.ok ∧ L = textsL x.texts) ∨ (E = 2 ∧ ∀ y : Sess, y.ok → L ≠ textsL y.texts)) := by
    rcases hres with ⟨x, h1, h2, h3⟩ | ⟨h1, x, h2⟩
    · exact ⟨x, 0, h3, .inl ⟨rfl, h1, h2⟩⟩
    · exact ⟨x, 2, h2, .inr ⟨rfl, h1⟩⟩
  obtain ⟨S0, hS0⟩ : ∃ B : ByteArray, B = ⟨Sx.fCookie.toArray⟩ := ⟨_, rfl⟩
  obtain ⟨S1, hS1⟩ : ∃ B : ByteArray, B = ⟨Sx.fClient.toArray⟩ := ⟨_, rfl⟩
  obtain ⟨S2, hS2⟩ : ∃ B : ByteArray, B = ⟨Sx.fRedirect.toArray⟩ := ⟨_, rfl⟩
  obtain ⟨S3, hS3⟩ : ∃ B : ByteArray, B = ⟨Sx.fState.toArray⟩ := ⟨_, rfl⟩
  obtain ⟨S4, hS4⟩ : ∃ B : ByteArray, B = ⟨Sx.fNonce.toArray⟩ := ⟨_, rfl⟩
  obtain ⟨S5, hS5⟩ : ∃ B : ByteArray, B = ⟨Sx.fScope.toArray⟩ := ⟨_, rfl⟩
  obtain ⟨S6, hS6⟩ : ∃ B : ByteArray, B = ⟨Sx.fChallenge.toArray⟩ := ⟨_, rfl⟩
  obtain ⟨S8, hS8⟩ : ∃ B : ByteArray, B = ⟨Sx.fConn.toArray⟩ := ⟨_, rfl⟩
  obtain ⟨S9, hS9⟩ : ∃ B : ByteArray, B = ⟨Sx.fUpState.toArray⟩ := ⟨_, rfl⟩
  obtain ⟨S10, hS10⟩ : ∃ B : ByteArray, B = ⟨Sx.fUpNonce.toArray⟩ := ⟨_, rfl⟩
  have hval : Sx.val = .agg #[.string S0, .string S1, .string S2, .string S3, .string S4, .string S5, .string S6, .int .i64 Sx.fStage, .string S8, .string S9, .string S10, .int .i64 Sx.fEnds] := by
    rw [hS0, hS1, hS2, hS3, hS4, hS5, hS6, hS8, hS9, hS10]; rfl
  have hco : ∀ W, Below w.heap.size w W → SE = 0 → Calls Tryd.prog 17 #[Sx.val] W fun e w' => e = .returned (.string s) ∧ Below W.heap.size W w' := fun W hW h0 => by
    rcases hE with ⟨_, h1, h2⟩ | ⟨h1, _⟩
    · have h3 := HST.out _ h2
      have h4 := HH.out.session W hW Sx h1 h3.1
      rwa [h3.2] at h4
    · omega
  have hE2 : (SE = 0 ∧ L = textsL Sx.texts) ∨ SE = 2 := by
    rcases hE with h | h
    · exact .inl ⟨h.1, h.2.2⟩
    · exact .inr h.1
  rw [hval] at hco ⊢
  obtain ⟨SR, hR⟩ : ∃ R, Sw.heap.size = R := ⟨_, rfl⟩
  obtain ⟨SW, hW⟩ : ∃ W, Sw.alloc (.cells #[.string S0, .string S1, .string S2, .string S3, .string S4, .string S5, .string S6, .int .i64 Sx.fStage, .string S8, .string S9, .string S10, .int .i64 Sx.fEnds] 35) = W := ⟨_, rfl⟩
  have hb3 : Below Sw.heap.size Sw SW := by rw [← hW]; exact (Below.refl _ _).alloc (Nat.le_refl _) _
  have k3 : SW.heap[SR]? = some (.cells #[.string S0, .string S1, .string S2, .string S3, .string S4, .string S5, .string S6, .int .i64 Sx.fStage, .string S8, .string S9, .string S10, .int .i64 Sx.fEnds] 35) := by rw [← hW, ← hR]; exact heap_alloc_last Sw _
  have hcd : ∀ W, Below SW.heap.size SW W → W.cell? ⟨SR, 0, none⟩ = some (.string S0) ∧ W.cell? ⟨SR, 1, none⟩ = some (.string S1) ∧ W.cell? ⟨SR, 2, none⟩ = some (.string S2) ∧ W.cell? ⟨SR, 3, none⟩ = some (.string S3) ∧ W.cell? ⟨SR, 4, none⟩ = some (.string S4) ∧ W.cell? ⟨SR, 5, none⟩ = some (.string S5) ∧ W.cell? ⟨SR, 6, none⟩ = some (.string S6) ∧ W.cell? ⟨SR, 7, none⟩ = some (.int .i64 Sx.fStage) ∧ W.cell? ⟨SR, 8, none⟩ = some (.string S8) ∧ W.cell? ⟨SR, 9, none⟩ = some (.string S9) ∧ W.cell? ⟨SR, 10, none⟩ = some (.string S10) ∧ W.cell? ⟨SR, 11, none⟩ = some (.int .i64 Sx.fEnds) := fun W hb => by
    have k := blk_below k3 hb
    exact ⟨cell_here k, cell_here k, cell_here k, cell_here k, cell_here k, cell_here k, cell_here k, cell_here k, cell_here k, cell_here k, cell_here k, cell_here k⟩
  have SQ := Lib.hid (hb.chain hb3); have SHC := Lib.hid hcd; have SHO := Lib.hid hco; have SHE := Lib.hid hE2; have SHR := Lib.hid hR; have SHW := Lib.hid hW; have SB3 := Lib.hid hb3
  clear hcd hb3 k3 hW hR hb hE hE2 hres hval hco hS0 hS1 hS2 hS3 hS4 hS5 hS6 hS8 hS9 hS10
  dsimp only
  go_upto_region 4 with fail
  rw [SHW.out, SHR.out]
  go_wp2_with fail
  refine (H2.out _ SQ.out).mono ?_
  rintro e Cw ⟨hres, hb⟩
  obtain ⟨Cx, CE, rfl, hE⟩ : ∃ (x : Cod) (E : Int), e = .returned (.tuple #[x.val, .int .i64 E]) ∧ ((E = 0 ∧ x.ok ∧ L = textsL x.texts) ∨ (E = 2 ∧ ∀ y : Cod, y.ok → L ≠ textsL y.texts)) := by
    rcases hres with ⟨x, h1, h2, h3⟩ | ⟨h1, x, h2⟩
    · exact ⟨x, 0, h3, .inl ⟨rfl, h1, h2⟩⟩
    · exact ⟨x, 2, h2, .inr ⟨rfl, h1⟩⟩
  obtain ⟨C0, hC0⟩ : ∃ B : ByteArray, B = ⟨Cx.fCode.toArray⟩ := ⟨_, rfl⟩
  obtain ⟨C1, hC1⟩ : ∃ B : ByteArray, B = ⟨Cx.fClient.toArray⟩ := ⟨_, rfl⟩
  obtain ⟨C2, hC2⟩ : ∃ B : ByteArray, B = ⟨Cx.fRedirect.toArray⟩ := ⟨_, rfl⟩
  obtain ⟨C3, hC3⟩ : ∃ B : ByteArray, B = ⟨Cx.fChallenge.toArray⟩ := ⟨_, rfl⟩
  obtain ⟨C4, hC4⟩ : ∃ B : ByteArray, B = ⟨Cx.fNonce.toArray⟩ := ⟨_, rfl⟩
  obtain ⟨C5, hC5⟩ : ∃ B : ByteArray, B = ⟨Cx.fScope.toArray⟩ := ⟨_, rfl⟩
  obtain ⟨C6, hC6⟩ : ∃ B : ByteArray, B = ⟨Cx.fUser.toArray⟩ := ⟨_, rfl⟩
  obtain ⟨C7, hC7⟩ : ∃ B : ByteArray, B = ⟨Cx.fConn.toArray⟩ := ⟨_, rfl⟩
  obtain ⟨C8, hC8⟩ : ∃ B : ByteArray, B = ⟨Cx.fSub.toArray⟩ := ⟨_, rfl⟩
  obtain ⟨C9, hC9⟩ : ∃ B : ByteArray, B = ⟨Cx.fClaims.toArray⟩ := ⟨_, rfl⟩
  obtain ⟨C10, hC10⟩ : ∃ B : ByteArray, B = ⟨Cx.fRefresh.toArray⟩ := ⟨_, rfl⟩
  obtain ⟨C12, hC12⟩ : ∃ B : ByteArray, B = ⟨Cx.fFamily.toArray⟩ := ⟨_, rfl⟩
  have hval : Cx.val = .agg #[.string C0, .string C1, .string C2, .string C3, .string C4, .string C5, .string C6, .string C7, .string C8, .string C9, .string C10, .int .i64 Cx.fEnds, .string C12] := by
    rw [hC0, hC1, hC2, hC3, hC4, hC5, hC6, hC7, hC8, hC9, hC10, hC12]; rfl
  have hco : ∀ W, Below w.heap.size w W → CE = 0 → Calls Tryd.prog 20 #[Cx.val] W fun e w' => e = .returned (.string s) ∧ Below W.heap.size W w' := fun W hW h0 => by
    rcases hE with ⟨_, h1, h2⟩ | ⟨h1, _⟩
    · have h3 := HST.out _ h2
      have h4 := HH.out.code W hW Cx h1 h3.1
      rwa [h3.2] at h4
    · omega
  have hE2 : (CE = 0 ∧ L = textsL Cx.texts) ∨ CE = 2 := by
    rcases hE with h | h
    · exact .inl ⟨h.1, h.2.2⟩
    · exact .inr h.1
  rw [hval] at hco ⊢
  obtain ⟨CR, hR⟩ : ∃ R, Cw.heap.size = R := ⟨_, rfl⟩
  obtain ⟨CW, hW⟩ : ∃ W, Cw.alloc (.cells #[.string C0, .string C1, .string C2, .string C3, .string C4, .string C5, .string C6, .string C7, .string C8, .string C9, .string C10, .int .i64 Cx.fEnds, .string C12] 41) = W := ⟨_, rfl⟩
  have hb3 : Below Cw.heap.size Cw CW := by rw [← hW]; exact (Below.refl _ _).alloc (Nat.le_refl _) _
  have k3 : CW.heap[CR]? = some (.cells #[.string C0, .string C1, .string C2, .string C3, .string C4, .string C5, .string C6, .string C7, .string C8, .string C9, .string C10, .int .i64 Cx.fEnds, .string C12] 41) := by rw [← hW, ← hR]; exact heap_alloc_last Cw _
  have hcd : ∀ W, Below CW.heap.size CW W → W.cell? ⟨CR, 0, none⟩ = some (.string C0) ∧ W.cell? ⟨CR, 1, none⟩ = some (.string C1) ∧ W.cell? ⟨CR, 2, none⟩ = some (.string C2) ∧ W.cell? ⟨CR, 3, none⟩ = some (.string C3) ∧ W.cell? ⟨CR, 4, none⟩ = some (.string C4) ∧ W.cell? ⟨CR, 5, none⟩ = some (.string C5) ∧ W.cell? ⟨CR, 6, none⟩ = some (.string C6) ∧ W.cell? ⟨CR, 7, none⟩ = some (.string C7) ∧ W.cell? ⟨CR, 8, none⟩ = some (.string C8) ∧ W.cell? ⟨CR, 9, none⟩ = some (.string C9) ∧ W.cell? ⟨CR, 10, none⟩ = some (.string C10) ∧ W.cell? ⟨CR, 11, none⟩ = some (.int .i64 Cx.fEnds) ∧ W.cell? ⟨CR, 12, none⟩ = some (.string C12) := fun W hb => by
    have k := blk_below k3 hb
    exact ⟨cell_here k, cell_here k, cell_here k, cell_here k, cell_here k, cell_here k, cell_here k, cell_here k, cell_here k, cell_here k, cell_here k, cell_here k, cell_here k⟩
  have CQ := Lib.hid (hb.chain hb3); have CHC := Lib.hid hcd; have CHO := Lib.hid hco; have CHE := Lib.hid hE2; have CHR := Lib.hid hR; have CHW := Lib.hid hW; have CB3 := Lib.hid hb3
  clear hcd hb3 k3 hW hR hb hE hE2 hres hval hco hC0 hC1 hC2 hC3 hC4 hC5 hC6 hC7 hC8 hC9 hC10 hC12
  dsimp only
  go_upto_region 5 with fail
  rw [CHW.out, CHR.out]
  go_wp2_with fail
  refine (H3.out _ (SQ.out.chain CQ.out)).mono ?_
  rintro e Fw ⟨hres, hb⟩
  obtain ⟨Fx, FA, FC, FE, rfl, hE⟩ : ∃ (x : Fam) (A : Option Addr) (c : Nat) (E : Int), e = .returned (.tuple #[x.val (.slice A x.fOld.length c), .int .i64 E]) ∧ ((E = 0 ∧ L = textsL x.texts ∧ RdT Fw (.slice A x.fOld.length c) x.fOld) ∨ (E = 2 ∧ ∀ y : Fam, L ≠ textsL y.texts)) := by
    rcases hres with ⟨x, ov, h1, h2, h3⟩ | ⟨h1, x, A, c, h2⟩
    · obtain ⟨A, c, rfl⟩ := rdt_form h3
      exact ⟨x, A, c, 0, h2, .inl ⟨rfl, h1, h3⟩⟩
    · exact ⟨x, A, c, 2, h2, .inr ⟨rfl, h1⟩⟩
  obtain ⟨F0, hF0⟩ : ∃ B : ByteArray, B = ⟨Fx.fID.toArray⟩ := ⟨_, rfl⟩
  obtain ⟨F1, hF1⟩ : ∃ B : ByteArray, B = ⟨Fx.fClient.toArray⟩ := ⟨_, rfl⟩
  obtain ⟨F2, hF2⟩ : ∃ B : ByteArray, B = ⟨Fx.fUser.toArray⟩ := ⟨_, rfl⟩
  obtain ⟨F3, hF3⟩ : ∃ B : ByteArray, B = ⟨Fx.fConn.toArray⟩ := ⟨_, rfl⟩
  obtain ⟨F4, hF4⟩ : ∃ B : ByteArray, B = ⟨Fx.fSub.toArray⟩ := ⟨_, rfl⟩
  obtain ⟨F5, hF5⟩ : ∃ B : ByteArray, B = ⟨Fx.fNonce.toArray⟩ := ⟨_, rfl⟩
  obtain ⟨F6, hF6⟩ : ∃ B : ByteArray, B = ⟨Fx.fScope.toArray⟩ := ⟨_, rfl⟩
  obtain ⟨F7, hF7⟩ : ∃ B : ByteArray, B = ⟨Fx.fClaims.toArray⟩ := ⟨_, rfl⟩
  obtain ⟨F8, hF8⟩ : ∃ B : ByteArray, B = ⟨Fx.fRefresh.toArray⟩ := ⟨_, rfl⟩
  obtain ⟨F9, hF9⟩ : ∃ B : ByteArray, B = ⟨Fx.fUp.toArray⟩ := ⟨_, rfl⟩
  have hval : Fx.val (.slice FA Fx.fOld.length FC) = .agg #[.string F0, .string F1, .string F2, .string F3, .string F4, .string F5, .string F6, .string F7, .string F8, .string F9, .slice FA Fx.fOld.length FC, .bool Fx.fRevoked] := by
    rw [hF0, hF1, hF2, hF3, hF4, hF5, hF6, hF7, hF8, hF9]; rfl
  have hco : ∀ W, Below w.heap.size w W → Below Fw.heap.size Fw W → FE = 0 → Calls Tryd.prog 23 #[Fx.val (.slice FA Fx.fOld.length FC)] W fun e w' => e = .returned (.string s) ∧ Below W.heap.size W w' := fun W hW hb h0 => by
    rcases hE with ⟨_, h1, h2⟩ | ⟨h1, _⟩
    · have h3 := HST.out _ h1
      have h4 := HH.out.family W hW Fx _ (h2.below hb) h3.1
      rwa [h3.2] at h4
    · omega
  have hE2 : (FE = 0 ∧ L = textsL Fx.texts) ∨ FE = 2 := by
    rcases hE with h | h
    · exact .inl ⟨h.1, h.2.1⟩
    · exact .inr h.1
  rw [hval] at hco ⊢
  obtain ⟨FR, hR⟩ : ∃ R, Fw.heap.size = R := ⟨_, rfl⟩
  obtain ⟨FW, hW⟩ : ∃ W, Fw.alloc (.cells #[.string F0, .string F1, .string F2, .string F3, .string F4, .string F5, .string F6, .string F7, .string F8, .string F9, .slice FA Fx.fOld.length FC, .bool Fx.fRevoked] 47) = W := ⟨_, rfl⟩
  have hb3 : Below Fw.heap.size Fw FW := by rw [← hW]; exact (Below.refl _ _).alloc (Nat.le_refl _) _
  have k3 : FW.heap[FR]? = some (.cells #[.string F0, .string F1, .string F2, .string F3, .string F4, .string F5, .string F6, .string F7, .string F8, .string F9, .slice FA Fx.fOld.length FC, .bool Fx.fRevoked] 47) := by rw [← hW, ← hR]; exact heap_alloc_last Fw _
  have hcd : ∀ W, Below FW.heap.size FW W → W.cell? ⟨FR, 0, none⟩ = some (.string F0) ∧ W.cell? ⟨FR, 1, none⟩ = some (.string F1) ∧ W.cell? ⟨FR, 2, none⟩ = some (.string F2) ∧ W.cell? ⟨FR, 3, none⟩ = some (.string F3) ∧ W.cell? ⟨FR, 4, none⟩ = some (.string F4) ∧ W.cell? ⟨FR, 5, none⟩ = some (.string F5) ∧ W.cell? ⟨FR, 6, none⟩ = some (.string F6) ∧ W.cell? ⟨FR, 7, none⟩ = some (.string F7) ∧ W.cell? ⟨FR, 8, none⟩ = some (.string F8) ∧ W.cell? ⟨FR, 9, none⟩ = some (.string F9) ∧ W.cell? ⟨FR, 10, none⟩ = some (.slice FA Fx.fOld.length FC) ∧ W.cell? ⟨FR, 11, none⟩ = some (.bool Fx.fRevoked) := fun W hb => by
    have k := blk_below k3 hb
    exact ⟨cell_here k, cell_here k, cell_here k, cell_here k, cell_here k, cell_here k, cell_here k, cell_here k, cell_here k, cell_here k, cell_here k, cell_here k⟩
  have FQ := Lib.hid (hb.chain hb3); have FHC := Lib.hid hcd; have FHO := Lib.hid hco; have FHE := Lib.hid hE2; have FHR := Lib.hid hR; have FHW := Lib.hid hW; have FB3 := Lib.hid hb3
  clear hcd hb3 k3 hW hR hb hE hE2 hres hval hco hF0 hF1 hF2 hF3 hF4 hF5 hF6 hF7 hF8 hF9
  dsimp only
  go_upto_region 6 with fail
  rw [FHW.out, FHR.out]
  have LOW := Lib.hid ((SQ.out.chain CQ.out).chain FQ.out)
  have SC := Lib.hid (CQ.out.chain FQ.out)
  rcases SHE.out with ⟨s1, s2⟩ | s1 <;> rcases CHE.out with ⟨c1, c2⟩ | c1 <;> rcases FHE.out with ⟨f1, f2⟩ | f1
  · skip
    have HT := Lib.hid s2
    have SO := Lib.hid (fun W hW => SHO.out W hW s1)
    have CO := Lib.hid (fun W hW => CHO.out W hW c1)
    have FO := Lib.hid (fun W hW hb => FHO.out W hW hb f1)
    clear s2 c2 f2
    subst s1 c1 f1
    obtain ⟨c0, c1, c2, c3, c4, c5, c6, c7, c8, c9, c10, c11⟩ := SHC.out _ (SC.out.chain (Below.refl FW.heap.size FW))
    go_wp2_with fail
    refine (SO.out _ (LOW.out.chain (Below.refl _ _))).mono ?_
    rintro e v1 ⟨rfl, hb⟩
    have D1 := Lib.hid ((Below.refl FW.heap.size FW).chain hb); clear hb c0 c1 c2 c3 c4 c5 c6 c7 c8 c9 c10 c11
    dsimp only
    obtain ⟨c0, c1, c2, c3, c4, c5, c6, c7, c8, c9, c10, c11, c12⟩ := CHC.out _ (FQ.out.chain D1.out)
    go_wp2_with fail
    refine (CO.out _ (LOW.out.chain D1.out)).mono ?_
    rintro e v2 ⟨rfl, hb⟩
    have D2 := Lib.hid (D1.out.chain hb); clear hb c0 c1 c2 c3 c4 c5 c6 c7 c8 c9 c10 c11 c12
    dsimp only
    obtain ⟨c0, c1, c2, c3, c4, c5, c6, c7, c8, c9, c10, c11⟩ := FHC.out _ D2.out
    go_wp2_with fail
    refine (FO.out _ (LOW.out.chain D2.out) (FB3.out.chain D2.out)).mono ?_
    rintro e v3 ⟨rfl, hb⟩
    have D3 := Lib.hid (D2.out.chain hb); clear hb c0 c1 c2 c3 c4 c5 c6 c7 c8 c9 c10 c11
    dsimp only
    go_wp2_with fail
    refine (HRS.out _).mono ?_
    rintro e va ⟨⟨l, v, hl, rfl, hv⟩ | ⟨hn, -⟩, hb⟩
    case inr => exact absurd HT.out (hn _)
    clear hl hv
    have DA := Lib.hid (D3.out.chain hb); clear hb
    dsimp only
    go_wp2_with fail
    refine (HANS.out _ (LOW.out.chain DA.out)).mono ?_
    rintro e vb ⟨rfl, hb⟩
    have DB := Lib.hid (DA.out.chain hb); clear hb
    dsimp only
    go_wp2
    go_ret
    exact ⟨rfl, LOW.out.chain DB.out⟩
  · skip
    have HT := Lib.hid s2
    have SO := Lib.hid (fun W hW => SHO.out W hW s1)
    have CO := Lib.hid (fun W hW => CHO.out W hW c1)
    clear s2 c2
    subst s1 c1 f1
    obtain ⟨c0, c1, c2, c3, c4, c5, c6, c7, c8, c9, c10, c11⟩ := SHC.out _ (SC.out.chain (Below.refl FW.heap.size FW))
    go_wp2_with fail
    refine (SO.out _ (LOW.out.chain (Below.refl _ _))).mono ?_
    rintro e v1 ⟨rfl, hb⟩
    have D1 := Lib.hid ((Below.refl FW.heap.size FW).chain hb); clear hb c0 c1 c2 c3 c4 c5 c6 c7 c8 c9 c10 c11
    dsimp only
    obtain ⟨c0, c1, c2, c3, c4, c5, c6, c7, c8, c9, c10, c11, c12⟩ := CHC.out _ (FQ.out.chain D1.out)
    go_wp2_with fail
    refine (CO.out _ (LOW.out.chain D1.out)).mono ?_
    rintro e v2 ⟨rfl, hb⟩
    have D2 := Lib.hid (D1.out.chain hb); clear hb c0 c1 c2 c3 c4 c5 c6 c7 c8 c9 c10 c11 c12
    dsimp only
    go_wp2_with fail
    refine (HRS.out _).mono ?_
    rintro e va ⟨⟨l, v, hl, rfl, hv⟩ | ⟨hn, -⟩, hb⟩
    case inr => exact absurd HT.out (hn _)
    clear hl hv
    have DA := Lib.hid (D2.out.chain hb); clear hb
    dsimp only
    go_wp2_with fail
    refine (HANS.out _ (LOW.out.chain DA.out)).mono ?_
    rintro e vb ⟨rfl, hb⟩
    have DB := Lib.hid (DA.out.chain hb); clear hb
    dsimp only
    go_wp2
    go_ret
    exact ⟨rfl, LOW.out.chain DB.out⟩
  · skip
    have HT := Lib.hid s2
    have SO := Lib.hid (fun W hW => SHO.out W hW s1)
    have FO := Lib.hid (fun W hW hb => FHO.out W hW hb f1)
    clear s2 f2
    subst s1 c1 f1
    obtain ⟨c0, c1, c2, c3, c4, c5, c6, c7, c8, c9, c10, c11⟩ := SHC.out _ (SC.out.chain (Below.refl FW.heap.size FW))
    go_wp2_with fail
    refine (SO.out _ (LOW.out.chain (Below.refl _ _))).mono ?_
    rintro e v1 ⟨rfl, hb⟩
    have D1 := Lib.hid ((Below.refl FW.heap.size FW).chain hb); clear hb c0 c1 c2 c3 c4 c5 c6 c7 c8 c9 c10 c11
    dsimp only
    obtain ⟨c0, c1, c2, c3, c4, c5, c6, c7, c8, c9, c10, c11⟩ := FHC.out _ D1.out
    go_wp2_with fail
    refine (FO.out _ (LOW.out.chain D1.out) (FB3.out.chain D1.out)).mono ?_
    rintro e v2 ⟨rfl, hb⟩
    have D2 := Lib.hid (D1.out.chain hb); clear hb c0 c1 c2 c3 c4 c5 c6 c7 c8 c9 c10 c11
    dsimp only
    go_wp2_with fail
    refine (HRS.out _).mono ?_
    rintro e va ⟨⟨l, v, hl, rfl, hv⟩ | ⟨hn, -⟩, hb⟩
    case inr => exact absurd HT.out (hn _)
    clear hl hv
    have DA := Lib.hid (D2.out.chain hb); clear hb
    dsimp only
    go_wp2_with fail
    refine (HANS.out _ (LOW.out.chain DA.out)).mono ?_
    rintro e vb ⟨rfl, hb⟩
    have DB := Lib.hid (DA.out.chain hb); clear hb
    dsimp only
    go_wp2
    go_ret
    exact ⟨rfl, LOW.out.chain DB.out⟩
  · skip
    have HT := Lib.hid s2
    have SO := Lib.hid (fun W hW => SHO.out W hW s1)
    clear s2
    subst s1 c1 f1
    obtain ⟨c0, c1, c2, c3, c4, c5, c6, c7, c8, c9, c10, c11⟩ := SHC.out _ (SC.out.chain (Below.refl FW.heap.size FW))
    go_wp2_with fail
    refine (SO.out _ (LOW.out.chain (Below.refl _ _))).mono ?_
    rintro e v1 ⟨rfl, hb⟩
    have D1 := Lib.hid ((Below.refl FW.heap.size FW).chain hb); clear hb c0 c1 c2 c3 c4 c5 c6 c7 c8 c9 c10 c11
    dsimp only
    go_wp2_with fail
    refine (HRS.out _).mono ?_
    rintro e va ⟨⟨l, v, hl, rfl, hv⟩ | ⟨hn, -⟩, hb⟩
    case inr => exact absurd HT.out (hn _)
    clear hl hv
    have DA := Lib.hid (D1.out.chain hb); clear hb
    dsimp only
    go_wp2_with fail
    refine (HANS.out _ (LOW.out.chain DA.out)).mono ?_
    rintro e vb ⟨rfl, hb⟩
    have DB := Lib.hid (DA.out.chain hb); clear hb
    dsimp only
    go_wp2
    go_ret
    exact ⟨rfl, LOW.out.chain DB.out⟩
  · skip
    have HT := Lib.hid c2
    have CO := Lib.hid (fun W hW => CHO.out W hW c1)
    have FO := Lib.hid (fun W hW hb => FHO.out W hW hb f1)
    clear c2 f2
    subst s1 c1 f1
    obtain ⟨c0, c1, c2, c3, c4, c5, c6, c7, c8, c9, c10, c11, c12⟩ := CHC.out _ (FQ.out.chain (Below.refl FW.heap.size FW))
    go_wp2_with fail
    refine (CO.out _ (LOW.out.chain (Below.refl _ _))).mono ?_
    rintro e v1 ⟨rfl, hb⟩
    have D1 := Lib.hid ((Below.refl FW.heap.size FW).chain hb); clear hb c0 c1 c2 c3 c4 c5 c6 c7 c8 c9 c10 c11 c12
    dsimp only
    obtain ⟨c0, c1, c2, c3, c4, c5, c6, c7, c8, c9, c10, c11⟩ := FHC.out _ D1.out
    go_wp2_with fail
    refine (FO.out _ (LOW.out.chain D1.out) (FB3.out.chain D1.out)).mono ?_
    rintro e v2 ⟨rfl, hb⟩
    have D2 := Lib.hid (D1.out.chain hb); clear hb c0 c1 c2 c3 c4 c5 c6 c7 c8 c9 c10 c11
    dsimp only
    go_wp2_with fail
    refine (HRS.out _).mono ?_
    rintro e va ⟨⟨l, v, hl, rfl, hv⟩ | ⟨hn, -⟩, hb⟩
    case inr => exact absurd HT.out (hn _)
    clear hl hv
    have DA := Lib.hid (D2.out.chain hb); clear hb
    dsimp only
    go_wp2_with fail
    refine (HANS.out _ (LOW.out.chain DA.out)).mono ?_
    rintro e vb ⟨rfl, hb⟩
    have DB := Lib.hid (DA.out.chain hb); clear hb
    dsimp only
    go_wp2
    go_ret
    exact ⟨rfl, LOW.out.chain DB.out⟩
  · skip
    have HT := Lib.hid c2
    have CO := Lib.hid (fun W hW => CHO.out W hW c1)
    clear c2
    subst s1 c1 f1
    obtain ⟨c0, c1, c2, c3, c4, c5, c6, c7, c8, c9, c10, c11, c12⟩ := CHC.out _ (FQ.out.chain (Below.refl FW.heap.size FW))
    go_wp2_with fail
    refine (CO.out _ (LOW.out.chain (Below.refl _ _))).mono ?_
    rintro e v1 ⟨rfl, hb⟩
    have D1 := Lib.hid ((Below.refl FW.heap.size FW).chain hb); clear hb c0 c1 c2 c3 c4 c5 c6 c7 c8 c9 c10 c11 c12
    dsimp only
    go_wp2_with fail
    refine (HRS.out _).mono ?_
    rintro e va ⟨⟨l, v, hl, rfl, hv⟩ | ⟨hn, -⟩, hb⟩
    case inr => exact absurd HT.out (hn _)
    clear hl hv
    have DA := Lib.hid (D1.out.chain hb); clear hb
    dsimp only
    go_wp2_with fail
    refine (HANS.out _ (LOW.out.chain DA.out)).mono ?_
    rintro e vb ⟨rfl, hb⟩
    have DB := Lib.hid (DA.out.chain hb); clear hb
    dsimp only
    go_wp2
    go_ret
    exact ⟨rfl, LOW.out.chain DB.out⟩
  · skip
    have HT := Lib.hid f2
    have FO := Lib.hid (fun W hW hb => FHO.out W hW hb f1)
    clear f2
    subst s1 c1 f1
    obtain ⟨c0, c1, c2, c3, c4, c5, c6, c7, c8, c9, c10, c11⟩ := FHC.out _ (Below.refl FW.heap.size FW)
    go_wp2_with fail
    refine (FO.out _ (LOW.out.chain (Below.refl _ _)) (FB3.out.chain (Below.refl FW.heap.size FW))).mono ?_
    rintro e v1 ⟨rfl, hb⟩
    have D1 := Lib.hid ((Below.refl FW.heap.size FW).chain hb); clear hb c0 c1 c2 c3 c4 c5 c6 c7 c8 c9 c10 c11
    dsimp only
    go_wp2_with fail
    refine (HRS.out _).mono ?_
    rintro e va ⟨⟨l, v, hl, rfl, hv⟩ | ⟨hn, -⟩, hb⟩
    case inr => exact absurd HT.out (hn _)
    clear hl hv
    have DA := Lib.hid (D1.out.chain hb); clear hb
    dsimp only
    go_wp2_with fail
    refine (HANS.out _ (LOW.out.chain DA.out)).mono ?_
    rintro e vb ⟨rfl, hb⟩
    have DB := Lib.hid (DA.out.chain hb); clear hb
    dsimp only
    go_wp2
    go_ret
    exact ⟨rfl, LOW.out.chain DB.out⟩
  · skip
    subst s1 c1 f1
    go_wp2_with fail
    refine (HRS.out _).mono ?_
    rintro e va ⟨⟨l, v, hl, rfl, hv⟩ | ⟨hn, rfl⟩, hb⟩
    · clear hl hv
      have DA := Lib.hid ((Below.refl FW.heap.size FW).chain hb); clear hb
      dsimp only
      go_wp2_with fail
      refine (HANS.out _ (LOW.out.chain DA.out)).mono ?_
      rintro e vb ⟨rfl, hb⟩
      have DB := Lib.hid (DA.out.chain hb); clear hb
      dsimp only
      go_wp2
      go_ret
      exact ⟨rfl, LOW.out.chain DB.out⟩
    · clear hn
      have DA := Lib.hid ((Below.refl FW.heap.size FW).chain hb); clear hb
      dsimp only
      go_wp2_with fail
      refine (HANS.out _ (LOW.out.chain DA.out)).mono ?_
      rintro e vb ⟨rfl, hb⟩
      have DB := Lib.hid (DA.out.chain hb); clear hb
      dsimp only
      go_wp2
      go_ret
      exact ⟨rfl, LOW.out.chain DB.out⟩
end Go.Proofs.YtefnkkjmcfpiaaaDoor
