/- Texts merged by program, in build order: ClaimsRCheck, ClaimsWrong, JsonWriteP, JsonWriteV, JsonPrint, JsonRJson, ClaimsLaw, LawClaims. -/
import Derived.Test.YtcbajbpdgmmaeaaDoorC06
import Derived.Test.YtcbajbpdgmmaeaaDoorC07
import Derived.Test.YtcbajbpdgmmaeaaDoorC18
import Derived.Test.YtcbajbpdgmmaeaaDoorC17
import Derived.Test.YtcbajbpdgmmaeaaDoorC05
import Derived.Test.YtcbajbpdgmmaeaaDoorC04
import Derived.Test.YtcbajbpdgmmaeaaDoorC13
import Derived.Test.YtcbajbpdgmmaeaaDoorC03
namespace Go.Proofs.YtcbajbpdgmmaeaaDoor
open Go.RowKit
set_option linter.unusedVariables false
set_option linter.unusedSimpArgs false

set_option maxRecDepth 100000 in
set_option maxHeartbeats 16000000 in
theorem refCheck_any (s iss aud nonce : List UInt8) (now : Int) (hs : s.length ≤ 9223372036854775807) (w : World) :
    Calls Tryd.prog 14 #[.string ⟨s.toArray⟩, .string ⟨iss.toArray⟩, .string ⟨aud.toArray⟩, .string ⟨nonce.toArray⟩, .int .i64 now] w fun e w' => CheckSays (checkR s iss aud nonce now) w e w' := by
  obtain ⟨R, hR⟩ : ∃ R, w.heap.size = R := ⟨_, rfl⟩
  obtain ⟨W1, hW1⟩ : ∃ W1, W1 = w.alloc (.cells #[.int .i64 0, .int .i64 0, .string ⟨#[]⟩, .slice none 0 0, .slice none 0 0] 28) := ⟨_, rfl⟩
  have b1 : Below R w W1 := by rw [hW1, ← hR]; exact (Below.refl _ _).alloc (Nat.le_refl _) _
  have k1 : W1.heap[R]? = some (.cells #[.int .i64 0, .int .i64 0, .string ⟨#[]⟩, .slice none 0 0, .slice none 0 0] 28 (0, 0)) := by rw [hW1, ← hR]; exact heap_alloc_last w _
  have z1 : W1.heap.size = R + 1 := by rw [hW1]; simp [hR]
  have hpa := refParse_any s hs W1
  obtain ⟨S, hS⟩ : ∃ D : ByteArray, (⟨s.toArray⟩ : ByteArray) = D := ⟨_, rfl⟩
  obtain ⟨I, hI⟩ : ∃ D : ByteArray, (⟨iss.toArray⟩ : ByteArray) = D := ⟨_, rfl⟩
  obtain ⟨A, hA⟩ : ∃ D : ByteArray, (⟨aud.toArray⟩ : ByteArray) = D := ⟨_, rfl⟩
  obtain ⟨NO, hNO⟩ : ∃ D : ByteArray, (⟨nonce.toArray⟩ : ByteArray) = D := ⟨_, rfl⟩
  rw [hS] at hpa
  have hbad := @checkR_bad s iss aud nonce now
  have hnot := @checkR_not s iss aud nonce now
  have hfit := @checkR_fit s iss aud nonce now
  obtain ⟨v, hv⟩ : ∃ v, (parseV s).1 = v := ⟨_, rfl⟩
  obtain ⟨E, hE⟩ : ∃ z, (parseV s).2 = z := ⟨_, rfl⟩
  obtain ⟨RES, hRES⟩ : ∃ r, checkR s iss aud nonce now = r := ⟨_, rfl⟩
  rw [hv, hE] at hpa
  rw [hE, hRES] at hbad
  rw [hv, hE, hRES] at hnot hfit
  rw [hS, hI, hA, hNO, hRES]
  have hfo := fun (W : World) (L N : Nat) (cs : List Value) (h : VIs W L N v cs) => h.form
  have hfs := fun (W : World) (L N : Nat) (cs : List Value) (h : VIs W L N v cs) (hN : N ≤ W.heap.size) => refField_any v wSub W L N cs h hN
  have hfe := fun (W : World) (L N : Nat) (cs : List Value) (h : VIs W L N v cs) (hN : N ≤ W.heap.size) => refField_any v wExp W L N cs h hN
  have his := fun (key : List UInt8) (want : List UInt8) (W : World) (L N : Nat) (cs : List Value) (h : VIs W L N v cs) (hN : N ≤ W.heap.size) => refIs_any v key want W L N cs h hN
  have hi1 := his wIss iss
  have hi2 := his wAud aud
  have hi3 := his wNonce nonce
  rw [hI] at hi1
  rw [hA] at hi2
  rw [hNO] at hi3
  have hno := @fitV_no v iss aud nonce now
  have hyes := @fitV_yes v iss aud nonce now
  obtain ⟨u1, hu1⟩ : ∃ u, (fieldV wSub v).getD V.zero = u := ⟨_, rfl⟩
  obtain ⟨u2, hu2⟩ : ∃ u, (fieldV wExp v).getD V.zero = u := ⟨_, rfl⟩
  obtain ⟨s1, hs1⟩ : ∃ u, (fieldV wSub v).isSome = u := ⟨_, rfl⟩
  obtain ⟨s2, hs2⟩ : ∃ u, (fieldV wExp v).isSome = u := ⟨_, rfl⟩
  rw [hu1, hs1] at hfs
  rw [hu2, hs2] at hfe
  rw [hu1, hu2] at hno hyes
  rw [hu1] at hfit
  obtain ⟨i1, hii1⟩ : ∃ b, isV v wIss iss = b := ⟨_, rfl⟩
  obtain ⟨i2, hii2⟩ : ∃ b, isV v wAud aud = b := ⟨_, rfl⟩
  obtain ⟨i3, hii3⟩ : ∃ b, isV v wNonce nonce = b := ⟨_, rfl⟩
  rw [hii1] at hi1 hno hyes
  rw [hii2] at hi2 hno hyes
  rw [hii3] at hi3 hno hyes
  have hf1 := fun (W : World) (L N : Nat) (cs : List Value) (h : VIs W L N u1 cs) => h.form
  have hf2 := fun (W : World) (L N : Nat) (cs : List Value) (h : VIs W L N u2 cs) => h.form
  have HPA := Lib.hid hpa; have HBAD := Lib.hid hbad; have HNOT := Lib.hid hnot; have HFIT := Lib.hid hfit; have HFO := Lib.hid hfo; have HNO2 := Lib.hid hno; have HYES := Lib.hid hyes; have HF1 := Lib.hid hf1; have HF2 := Lib.hid hf2
  have HFS : Hid (∀ (W : World) (L N : Nat) (cs : List Value) (h : VIs W L N v cs) (hN : N ≤ W.heap.size), Calls Tryd.prog 18 #[.agg cs.toArray, .string ⟨#[115, 117, 98]⟩] W fun e w' => (∃ k n t A a b A' a' b', e = .returned (.tuple #[.agg #[.int .i64 k, .int .i64 n, .string t, .slice A a b, .slice A' a' b'], .bool s1]) ∧ VIs w' L N u1 [.int .i64 k, .int .i64 n, .string t, .slice A a b, .slice A' a' b']) ∧ Below W.heap.size W w') := Lib.hid hfs
  have HFE : Hid (∀ (W : World) (L N : Nat) (cs : List Value) (h : VIs W L N v cs) (hN : N ≤ W.heap.size), Calls Tryd.prog 18 #[.agg cs.toArray, .string ⟨#[101, 120, 112]⟩] W fun e w' => (∃ k n t A a b A' a' b', e = .returned (.tuple #[.agg #[.int .i64 k, .int .i64 n, .string t, .slice A a b, .slice A' a' b'], .bool s2]) ∧ VIs w' L N u2 [.int .i64 k, .int .i64 n, .string t, .slice A a b, .slice A' a' b']) ∧ Below W.heap.size W w') := Lib.hid hfe
  have HI1 : Hid (∀ (W : World) (L N : Nat) (cs : List Value) (h : VIs W L N v cs) (hN : N ≤ W.heap.size), Calls Tryd.prog 29 #[.agg cs.toArray, .string ⟨#[105, 115, 115]⟩, .string I] W fun e w' => e = .returned (.bool i1) ∧ Below W.heap.size W w') := Lib.hid hi1
  have HI2 : Hid (∀ (W : World) (L N : Nat) (cs : List Value) (h : VIs W L N v cs) (hN : N ≤ W.heap.size), Calls Tryd.prog 29 #[.agg cs.toArray, .string ⟨#[97, 117, 100]⟩, .string A] W fun e w' => e = .returned (.bool i2) ∧ Below W.heap.size W w') := Lib.hid hi2
  have HI3 : Hid (∀ (W : World) (L N : Nat) (cs : List Value) (h : VIs W L N v cs) (hN : N ≤ W.heap.size), Calls Tryd.prog 29 #[.agg cs.toArray, .string ⟨#[110, 111, 110, 99, 101]⟩, .string NO] W fun e w' => e = .returned (.bool i3) ∧ Below W.heap.size W w') := Lib.hid hi3
  have HR := Lib.hid hR; have HW1 := Lib.hid hW1; have B1 := Lib.hid b1; have K1 := Lib.hid k1; have Z1 := Lib.hid z1; have HNO := Lib.hid hNO
  clear hpa hbad hnot hfit hfo hno hyes hf1 hf2 hfs hfe his hi1 hi2 hi3 hR hW1 b1 k1 z1 hNO hS hI hA hv hE hRES hu1 hu2 hs1 hs2 hii1 hii2 hii3 hs
  by_cases hE0 : E = 0
  · subst hE0
    go_enter Tryd.func14, Tryd.ntmps14
    go_wp2_with fail
    rw [← HW1.out, HR.out]
    refine HPA.out.mono ?_
    rintro e w2 ⟨⟨k, n, t, VA, va, vb, VB, vc, vd, rfl, v2⟩, hb2⟩
    obtain ⟨_, _, _, _, hz⟩ := HFO.out _ _ _ _ v2
    obtain ⟨rfl, -, -⟩ := five_heads hz
    clear hz
    obtain ⟨w3, hw3⟩ : ∃ w3, w3 = w2.alloc (.cells #[.int .i64 v.kind, .int .i64 n, .string t, .slice VA va vb, .slice VB vc vd] 28) := ⟨_, rfl⟩
    have g3 : Below w2.heap.size w2 w3 := by rw [hw3]; exact (Below.refl _ _).alloc (Nat.le_refl _) _
    have q3 : w3.heap[w2.heap.size]? = some (.cells #[.int .i64 v.kind, .int .i64 n, .string t, .slice VA va vb, .slice VB vc vd] 28 (0, 0)) := by rw [hw3]; exact heap_alloc_last w2 _
    have v3 := v2.below g3
    have N3 : w2.heap.size ≤ w3.heap.size := g3.size
    have m3 : w3.heap[R]? = some (.cells #[.int .i64 0, .int .i64 0, .string ⟨#[]⟩, .slice none 0 0, .slice none 0 0] 28 (0, 0)) := blk_below (blk_below K1.out hb2) g3
    have r3 : Below R w w3 := B1.out.trans ((hb2.chain g3).mono (by have := Z1.out; omega))
    obtain ⟨⟨e0, e1, e2, e3, e4⟩, -⟩ := box_of q3
    have HW3 := Lib.hid hw3; have Q3 := Lib.hid q3; have V3 := Lib.hid v3; have M3 := Lib.hid m3; have R3 := Lib.hid r3
    rw [hw3] at e0 e1 e2 e3 e4
    clear hw3 g3 q3 v3 m3 r3 hb2 v2
    dsimp only
    go_wp2_with fail
    rw [← HW3.out]
    refine (HFS.out _ _ _ _ V3.out N3).mono ?_
    rintro e w4 ⟨⟨k4, n4, t4, A4, a4, b4, B4, c4, d4, rfl, u4⟩, hb4⟩
    obtain ⟨_, _, _, _, hz⟩ := HF1.out _ _ _ _ u4
    obtain ⟨rfl, -, rfl⟩ := five_heads hz
    clear u4 hz
    obtain ⟨w5, hw5⟩ : ∃ w5, w5 = w4.alloc (.cells #[.int .i64 u1.kind, .int .i64 n4, .string ⟨u1.text.toArray⟩, .slice A4 a4 b4, .slice B4 c4 d4] 28) := ⟨_, rfl⟩
    have g5 : Below w4.heap.size w4 w5 := by rw [hw5]; exact (Below.refl _ _).alloc (Nat.le_refl _) _
    have q5 : w5.heap[w4.heap.size]? = some (.cells #[.int .i64 u1.kind, .int .i64 n4, .string ⟨u1.text.toArray⟩, .slice A4 a4 b4, .slice B4 c4 d4] 28 (0, 0)) := by rw [hw5]; exact heap_alloc_last w4 _
    have l5 := hb4.chain g5
    obtain ⟨⟨e0, e1, e2, e3, e4⟩, -⟩ := box_of (blk_below Q3.out l5)
    have HW5 := Lib.hid hw5; have Q5 := Lib.hid q5; have L5 := Lib.hid l5
    have N5 : w2.heap.size ≤ w5.heap.size := Nat.le_trans N3 l5.size
    rw [hw5] at e0 e1 e2 e3 e4
    clear hw5 g5 q5 l5 hb4
    dsimp only
    go_wp2_with fail
    rw [← HW5.out]
    refine (HFE.out _ _ _ _ (V3.out.below (L5.out.mono N3)) N5).mono ?_
    rintro e w6 ⟨⟨k6, n6, t6, A6, a6, b6, B6, c6, d6, rfl, u6⟩, hb6⟩
    obtain ⟨_, _, _, _, hz⟩ := HF2.out _ _ _ _ u6
    obtain ⟨rfl, rfl, -⟩ := five_heads hz
    clear u6 hz
    obtain ⟨w7, hw7⟩ : ∃ w7, w7 = w6.alloc (.cells #[.int .i64 u2.kind, .int .i64 u2.num, .string t6, .slice A6 a6 b6, .slice B6 c6 d6] 28) := ⟨_, rfl⟩
    have g7 : Below w6.heap.size w6 w7 := by rw [hw7]; exact (Below.refl _ _).alloc (Nat.le_refl _) _
    have q7 : w7.heap[w6.heap.size]? = some (.cells #[.int .i64 u2.kind, .int .i64 u2.num, .string t6, .slice A6 a6 b6, .slice B6 c6 d6] 28 (0, 0)) := by rw [hw7]; exact heap_alloc_last w6 _
    have l7 := L5.out.chain (hb6.chain g7)
    have ST : ∀ W, Below w7.heap.size w7 W → (W.heap[w2.heap.size]? = some (.cells #[.int .i64 v.kind, .int .i64 n, .string t, .slice VA va vb, .slice VB vc vd] 28 (0, 0)) ∧ W.heap[w4.heap.size]? = some (.cells #[.int .i64 u1.kind, .int .i64 n4, .string ⟨u1.text.toArray⟩, .slice A4 a4 b4, .slice B4 c4 d4] 28 (0, 0)) ∧ W.heap[w6.heap.size]? = some (.cells #[.int .i64 u2.kind, .int .i64 u2.num, .string t6, .slice A6 a6 b6, .slice B6 c6 d6] 28 (0, 0)) ∧ W.heap[R]? = some (.cells #[.int .i64 0, .int .i64 0, .string ⟨#[]⟩, .slice none 0 0, .slice none 0 0] 28 (0, 0))) ∧ VIs W W1.heap.size w2.heap.size v [.int .i64 v.kind, .int .i64 n, .string t, .slice VA va vb, .slice VB vc vd] ∧ w2.heap.size ≤ W.heap.size ∧ Below R w W := fun W hb =>
      ⟨⟨blk_below Q3.out (l7.chain hb), blk_below Q5.out ((hb6.chain g7).chain hb), blk_below q7 hb, blk_below M3.out (l7.chain hb)⟩, V3.out.below ((l7.chain hb).mono N3), Nat.le_trans (Nat.le_trans N3 l7.size) hb.size, R3.out.trans ((l7.chain hb).mono (by have := R3.out.size; have := HR.out; omega))⟩
    have HW7 := Lib.hid hw7; have STH := Lib.hid ST
    clear hw7 g7 q7 l7 ST hb6 e0 e1 e2 e3 e4
    dsimp only
    go_upto_region 6 with fail
    rw [← HW7.out]
    obtain ⟨⟨c1, c2, c3, c4⟩, -⟩ := STH.out _ (Below.refl _ _)
    obtain ⟨⟨e0, e1, e2, e3, e4⟩, -⟩ := box_of c1
    obtain ⟨⟨g0, -, g2, -, -⟩, -⟩ := box_of c2
    obtain ⟨⟨h0, h1, -, -, -⟩, -⟩ := box_of c3
    obtain ⟨⟨m0, m1, m2, m3, m4⟩, f0, f1, f2, f3, f4⟩ := box_of c4
    clear c1 c2 c3 c4
    by_cases hk6 : v.kind = 6
    · have d1 : (v.kind != 6) = false := by simp [hk6]
      have HK6 := Lib.hid hk6; clear hk6
      go_wp2_with fail
      refine (HI1.out _ _ _ _ (STH.out _ (Below.refl _ _)).2.1 (STH.out _ (Below.refl _ _)).2.2.1).mono ?_
      rintro ea wa ⟨rfl, hba⟩
      have HBA := Lib.hid (hba); clear hba
      dsimp only
      clear e0 e1 e2 e3 e4 g0 g2 h0 h1 m0 m1 m2 m3 m4 f0 f1 f2 f3 f4
      obtain ⟨⟨c1, c2, c3, c4⟩, -⟩ := STH.out _ HBA.out
      obtain ⟨⟨e0, e1, e2, e3, e4⟩, -⟩ := box_of c1
      obtain ⟨⟨g0, -, g2, -, -⟩, -⟩ := box_of c2
      obtain ⟨⟨h0, h1, -, -, -⟩, -⟩ := box_of c3
      obtain ⟨⟨m0, m1, m2, m3, m4⟩, f0, f1, f2, f3, f4⟩ := box_of c4
      clear c1 c2 c3 c4
      cases i1 with
      | false =>
        go_wp2
        obtain ⟨wf, hwf⟩ : ∃ wf, wf = set5 wa R 0 (.int .i64 0) (.int .i64 0) (.string ⟨#[]⟩) (.slice none 0 0) (.slice none 0 0) := ⟨_, rfl⟩
        change bodyPost _ _ _ _ _ (set5 wa R 0 (.int .i64 0) (.int .i64 0) (.string ⟨#[]⟩) (.slice none 0 0) (.slice none 0 0))
        rw [← hwf]
        have cx := (STH.out _ HBA.out)
        have hx : wf.heap[R]? = some (.cells #[.int .i64 0, .int .i64 0, .string ⟨#[]⟩, .slice none 0 0, .slice none 0 0] 28 (0, 0)) := by
          have := set5_here (o := 0) (c0 := .int .i64 0) (c1 := .int .i64 0) (c2 := .string ⟨#[]⟩) (c3 := .slice none 0 0) (c4 := .slice none 0 0) cx.1.2.2.2
          rw [hwf]; simpa using this
        have hbf : Below w.heap.size w wf := by rw [hwf, HR.out]; exact cx.2.2.2.trans (set5_below (Nat.le_refl _))
        obtain ⟨⟨x0, x1, x2, x3, x4⟩, -⟩ := box_of hx
        have HBF := Lib.hid hbf
        obtain rfl := HNOT.out (by trivial) (HNO2.out (.inr (.inl (by trivial))))
        clear hbf hx hwf cx e0 e1 e2 e3 e4 g0 g2 h0 h1 m0 m1 m2 m3 m4 f0 f1 f2 f3 f4
        refine bodyPost_ret (v := .tuple #[.string ⟨#[]⟩, .agg #[.int .i64 0, .int .i64 0, .string ⟨#[]⟩, .slice none 0 0, .slice none 0 0], .int .i64 9]) (by simp [results, Tryd.results14, go_sem, x0, x1, x2, x3, x4]) rfl ?_
        exact ⟨⟨[_, _, _, _, _], 0, 0, rfl, zero_visC _ _ _, Nat.zero_le _⟩, HBF.out⟩
      | true =>
        go_wp2_with fail
        refine (HI2.out _ _ _ _ (STH.out _ HBA.out).2.1 (STH.out _ HBA.out).2.2.1).mono ?_
        rintro eb wb ⟨rfl, hbb⟩
        have HBB := Lib.hid (HBA.out.chain hbb); clear hbb
        dsimp only
        clear e0 e1 e2 e3 e4 g0 g2 h0 h1 m0 m1 m2 m3 m4 f0 f1 f2 f3 f4
        obtain ⟨⟨c1, c2, c3, c4⟩, -⟩ := STH.out _ HBB.out
        obtain ⟨⟨e0, e1, e2, e3, e4⟩, -⟩ := box_of c1
        obtain ⟨⟨g0, -, g2, -, -⟩, -⟩ := box_of c2
        obtain ⟨⟨h0, h1, -, -, -⟩, -⟩ := box_of c3
        obtain ⟨⟨m0, m1, m2, m3, m4⟩, f0, f1, f2, f3, f4⟩ := box_of c4
        clear c1 c2 c3 c4
        cases i2 with
        | false =>
          go_wp2
          obtain ⟨wf, hwf⟩ : ∃ wf, wf = set5 wb R 0 (.int .i64 0) (.int .i64 0) (.string ⟨#[]⟩) (.slice none 0 0) (.slice none 0 0) := ⟨_, rfl⟩
          change bodyPost _ _ _ _ _ (set5 wb R 0 (.int .i64 0) (.int .i64 0) (.string ⟨#[]⟩) (.slice none 0 0) (.slice none 0 0))
          rw [← hwf]
          have cx := (STH.out _ HBB.out)
          have hx : wf.heap[R]? = some (.cells #[.int .i64 0, .int .i64 0, .string ⟨#[]⟩, .slice none 0 0, .slice none 0 0] 28 (0, 0)) := by
            have := set5_here (o := 0) (c0 := .int .i64 0) (c1 := .int .i64 0) (c2 := .string ⟨#[]⟩) (c3 := .slice none 0 0) (c4 := .slice none 0 0) cx.1.2.2.2
            rw [hwf]; simpa using this
          have hbf : Below w.heap.size w wf := by rw [hwf, HR.out]; exact cx.2.2.2.trans (set5_below (Nat.le_refl _))
          obtain ⟨⟨x0, x1, x2, x3, x4⟩, -⟩ := box_of hx
          have HBF := Lib.hid hbf
          obtain rfl := HNOT.out (by trivial) (HNO2.out (.inr (.inr (.inl (by trivial)))))
          clear hbf hx hwf cx e0 e1 e2 e3 e4 g0 g2 h0 h1 m0 m1 m2 m3 m4 f0 f1 f2 f3 f4
          refine bodyPost_ret (v := .tuple #[.string ⟨#[]⟩, .agg #[.int .i64 0, .int .i64 0, .string ⟨#[]⟩, .slice none 0 0, .slice none 0 0], .int .i64 9]) (by simp [results, Tryd.results14, go_sem, x0, x1, x2, x3, x4]) rfl ?_
          exact ⟨⟨[_, _, _, _, _], 0, 0, rfl, zero_visC _ _ _, Nat.zero_le _⟩, HBF.out⟩
        | true =>
          by_cases hk4 : u1.kind = 4
          rotate_left
          · have d4 : (u1.kind != 4) = true := by simp [hk4]
            go_wp2
            obtain ⟨wf, hwf⟩ : ∃ wf, wf = set5 wb R 0 (.int .i64 0) (.int .i64 0) (.string ⟨#[]⟩) (.slice none 0 0) (.slice none 0 0) := ⟨_, rfl⟩
            change bodyPost _ _ _ _ _ (set5 wb R 0 (.int .i64 0) (.int .i64 0) (.string ⟨#[]⟩) (.slice none 0 0) (.slice none 0 0))
            rw [← hwf]
            have cx := (STH.out _ HBB.out)
            have hx : wf.heap[R]? = some (.cells #[.int .i64 0, .int .i64 0, .string ⟨#[]⟩, .slice none 0 0, .slice none 0 0] 28 (0, 0)) := by
              have := set5_here (o := 0) (c0 := .int .i64 0) (c1 := .int .i64 0) (c2 := .string ⟨#[]⟩) (c3 := .slice none 0 0) (c4 := .slice none 0 0) cx.1.2.2.2
              rw [hwf]; simpa using this
            have hbf : Below w.heap.size w wf := by rw [hwf, HR.out]; exact cx.2.2.2.trans (set5_below (Nat.le_refl _))
            obtain ⟨⟨x0, x1, x2, x3, x4⟩, -⟩ := box_of hx
            have HBF := Lib.hid hbf
            obtain rfl := HNOT.out (by trivial) (HNO2.out (.inr (.inr (.inr (.inl hk4)))))
            clear hbf hx hwf cx e0 e1 e2 e3 e4 g0 g2 h0 h1 m0 m1 m2 m3 m4 f0 f1 f2 f3 f4
            refine bodyPost_ret (v := .tuple #[.string ⟨#[]⟩, .agg #[.int .i64 0, .int .i64 0, .string ⟨#[]⟩, .slice none 0 0, .slice none 0 0], .int .i64 9]) (by simp [results, Tryd.results14, go_sem, x0, x1, x2, x3, x4]) rfl ?_
            exact ⟨⟨[_, _, _, _, _], 0, 0, rfl, zero_visC _ _ _, Nat.zero_le _⟩, HBF.out⟩
          have d4 : (u1.kind != 4) = false := by simp [hk4]
          have HK4 := Lib.hid hk4; clear hk4
          by_cases ht : u1.text = []
          · have d5 : (u1.text == []) = true := by simp [ht]
            have HT := Lib.hid ht; clear ht
            go_wp2
            obtain ⟨wf, hwf⟩ : ∃ wf, wf = set5 wb R 0 (.int .i64 0) (.int .i64 0) (.string ⟨#[]⟩) (.slice none 0 0) (.slice none 0 0) := ⟨_, rfl⟩
            change bodyPost _ _ _ _ _ (set5 wb R 0 (.int .i64 0) (.int .i64 0) (.string ⟨#[]⟩) (.slice none 0 0) (.slice none 0 0))
            rw [← hwf]
            have cx := (STH.out _ HBB.out)
            have hx : wf.heap[R]? = some (.cells #[.int .i64 0, .int .i64 0, .string ⟨#[]⟩, .slice none 0 0, .slice none 0 0] 28 (0, 0)) := by
              have := set5_here (o := 0) (c0 := .int .i64 0) (c1 := .int .i64 0) (c2 := .string ⟨#[]⟩) (c3 := .slice none 0 0) (c4 := .slice none 0 0) cx.1.2.2.2
              rw [hwf]; simpa using this
            have hbf : Below w.heap.size w wf := by rw [hwf, HR.out]; exact cx.2.2.2.trans (set5_below (Nat.le_refl _))
            obtain ⟨⟨x0, x1, x2, x3, x4⟩, -⟩ := box_of hx
            have HBF := Lib.hid hbf
            obtain rfl := HNOT.out (by trivial) (HNO2.out (.inr (.inr (.inr (.inr (.inl HT.out))))))
            clear hbf hx hwf cx e0 e1 e2 e3 e4 g0 g2 h0 h1 m0 m1 m2 m3 m4 f0 f1 f2 f3 f4
            refine bodyPost_ret (v := .tuple #[.string ⟨#[]⟩, .agg #[.int .i64 0, .int .i64 0, .string ⟨#[]⟩, .slice none 0 0, .slice none 0 0], .int .i64 9]) (by simp [results, Tryd.results14, go_sem, x0, x1, x2, x3, x4]) rfl ?_
            exact ⟨⟨[_, _, _, _, _], 0, 0, rfl, zero_visC _ _ _, Nat.zero_le _⟩, HBF.out⟩
          have d5 : (u1.text == []) = false := by simp [ht]
          have HT := Lib.hid ht; clear ht
          by_cases hk3 : u2.kind = 3
          rotate_left
          · have d6 : (u2.kind != 3) = true := by simp [hk3]
            go_wp2
            obtain ⟨wf, hwf⟩ : ∃ wf, wf = set5 wb R 0 (.int .i64 0) (.int .i64 0) (.string ⟨#[]⟩) (.slice none 0 0) (.slice none 0 0) := ⟨_, rfl⟩
            change bodyPost _ _ _ _ _ (set5 wb R 0 (.int .i64 0) (.int .i64 0) (.string ⟨#[]⟩) (.slice none 0 0) (.slice none 0 0))
            rw [← hwf]
            have cx := (STH.out _ HBB.out)
            have hx : wf.heap[R]? = some (.cells #[.int .i64 0, .int .i64 0, .string ⟨#[]⟩, .slice none 0 0, .slice none 0 0] 28 (0, 0)) := by
              have := set5_here (o := 0) (c0 := .int .i64 0) (c1 := .int .i64 0) (c2 := .string ⟨#[]⟩) (c3 := .slice none 0 0) (c4 := .slice none 0 0) cx.1.2.2.2
              rw [hwf]; simpa using this
            have hbf : Below w.heap.size w wf := by rw [hwf, HR.out]; exact cx.2.2.2.trans (set5_below (Nat.le_refl _))
            obtain ⟨⟨x0, x1, x2, x3, x4⟩, -⟩ := box_of hx
            have HBF := Lib.hid hbf
            obtain rfl := HNOT.out (by trivial) (HNO2.out (.inr (.inr (.inr (.inr (.inr (.inl hk3)))))))
            clear hbf hx hwf cx e0 e1 e2 e3 e4 g0 g2 h0 h1 m0 m1 m2 m3 m4 f0 f1 f2 f3 f4
            refine bodyPost_ret (v := .tuple #[.string ⟨#[]⟩, .agg #[.int .i64 0, .int .i64 0, .string ⟨#[]⟩, .slice none 0 0, .slice none 0 0], .int .i64 9]) (by simp [results, Tryd.results14, go_sem, x0, x1, x2, x3, x4]) rfl ?_
            exact ⟨⟨[_, _, _, _, _], 0, 0, rfl, zero_visC _ _ _, Nat.zero_le _⟩, HBF.out⟩
          have d6 : (u2.kind != 3) = false := by simp [hk3]
          have HK3 := Lib.hid hk3; clear hk3
          by_cases hle : u2.num ≤ now
          · have d7 : decide (u2.num ≤ now) = true := by simp [hle]
            go_wp2
            obtain ⟨wf, hwf⟩ : ∃ wf, wf = set5 wb R 0 (.int .i64 0) (.int .i64 0) (.string ⟨#[]⟩) (.slice none 0 0) (.slice none 0 0) := ⟨_, rfl⟩
            change bodyPost _ _ _ _ _ (set5 wb R 0 (.int .i64 0) (.int .i64 0) (.string ⟨#[]⟩) (.slice none 0 0) (.slice none 0 0))
            rw [← hwf]
            have cx := (STH.out _ HBB.out)
            have hx : wf.heap[R]? = some (.cells #[.int .i64 0, .int .i64 0, .string ⟨#[]⟩, .slice none 0 0, .slice none 0 0] 28 (0, 0)) := by
              have := set5_here (o := 0) (c0 := .int .i64 0) (c1 := .int .i64 0) (c2 := .string ⟨#[]⟩) (c3 := .slice none 0 0) (c4 := .slice none 0 0) cx.1.2.2.2
              rw [hwf]; simpa using this
            have hbf : Below w.heap.size w wf := by rw [hwf, HR.out]; exact cx.2.2.2.trans (set5_below (Nat.le_refl _))
            obtain ⟨⟨x0, x1, x2, x3, x4⟩, -⟩ := box_of hx
            have HBF := Lib.hid hbf
            obtain rfl := HNOT.out (by trivial) (HNO2.out (.inr (.inr (.inr (.inr (.inr (.inr (.inl hle))))))))
            clear hbf hx hwf cx e0 e1 e2 e3 e4 g0 g2 h0 h1 m0 m1 m2 m3 m4 f0 f1 f2 f3 f4
            refine bodyPost_ret (v := .tuple #[.string ⟨#[]⟩, .agg #[.int .i64 0, .int .i64 0, .string ⟨#[]⟩, .slice none 0 0, .slice none 0 0], .int .i64 9]) (by simp [results, Tryd.results14, go_sem, x0, x1, x2, x3, x4]) rfl ?_
            exact ⟨⟨[_, _, _, _, _], 0, 0, rfl, zero_visC _ _ _, Nat.zero_le _⟩, HBF.out⟩
          have d7 : decide (u2.num ≤ now) = false := by simp; omega
          have HLE := Lib.hid hle; clear hle
          by_cases hn : nonce = []
          · obtain rfl : NO = ⟨#[]⟩ := by rw [← HNO.out, hn]
            go_upto_region 8 with fail
            obtain ⟨wf, hwf⟩ : ∃ wf, wf = set5 wb R 0 (.int .i64 v.kind) (.int .i64 n) (.string t) (.slice VA va vb) (.slice VB vc vd) := ⟨_, rfl⟩
            have cx := (STH.out _ HBB.out)
            have hx : wf.heap[R]? = some (.cells #[.int .i64 v.kind, .int .i64 n, .string t, .slice VA va vb, .slice VB vc vd] 28 (0, 0)) := by
              have := set5_here (o := 0) (c0 := .int .i64 v.kind) (c1 := .int .i64 n) (c2 := .string t) (c3 := .slice VA va vb) (c4 := .slice VB vc vd) cx.1.2.2.2
              rw [hwf]; simpa using this
            have hbf : Below w.heap.size w wf := by rw [hwf, HR.out]; exact cx.2.2.2.trans (set5_below (Nat.le_refl _))
            have hvf : VIs wf W1.heap.size w2.heap.size v [.int .i64 v.kind, .int .i64 n, .string t, .slice VA va vb, .slice VB vc vd] := cx.2.1.keep2 fun q q1 q2 => World.cell?_of_block (by rw [hwf]; exact set5_there (by have := Z1.out; omega))
            have hnf : w2.heap.size ≤ wf.heap.size := by rw [hwf, set5_size]; exact cx.2.2.1
            obtain ⟨⟨x0, x1, x2, x3, x4⟩, -⟩ := box_of hx
            have HBF := Lib.hid hbf; have HVF := Lib.hid hvf; have HNF := Lib.hid hnf; have HWF := Lib.hid hwf
            obtain rfl := HFIT.out (by trivial) (HYES.out HK6.out (by trivial) (by trivial) HK4.out HT.out HK3.out (by have := HLE.out; omega) (.inl hn))
            go_region
            all_goals
              go_wp2
              change bodyPost _ _ _ _ _ (set5 wb R 0 (.int .i64 v.kind) (.int .i64 n) (.string t) (.slice VA va vb) (.slice VB vc vd)).drew
              rw [← HWF.out]
              have y0 : wf.drew.cell? ⟨R, 0, none⟩ = some (.int .i64 v.kind) := x0
              have y1 : wf.drew.cell? ⟨R, 1, none⟩ = some (.int .i64 n) := x1
              have y2 : wf.drew.cell? ⟨R, 2, none⟩ = some (.string t) := x2
              have y3 : wf.drew.cell? ⟨R, 3, none⟩ = some (.slice VA va vb) := x3
              have y4 : wf.drew.cell? ⟨R, 4, none⟩ = some (.slice VB vc vd) := x4
              clear hbf hvf hnf hx hwf cx e0 e1 e2 e3 e4 g0 g2 h0 h1 m0 m1 m2 m3 m4 f0 f1 f2 f3 f4 x0 x1 x2 x3 x4
              refine bodyPost_ret (v := .tuple #[.string ⟨u1.text.toArray⟩, .agg #[.int .i64 v.kind, .int .i64 n, .string t, .slice VA va vb, .slice VB vc vd], .int .i64 0]) (by simp [results, Tryd.results14, go_sem, y0, y1, y2, y3, y4]) rfl ?_
              exact ⟨⟨[_, _, _, _, _], W1.heap.size, w2.heap.size, rfl, VIs.keep (w := wf) (w' := wf.drew) (fun _ _ => rfl) HVF.out, HNF.out⟩, HBF.out.drew⟩
          have d8 : (NO.toList == []) = false := by rw [← HNO.out, bt_list]; simp [hn]
          go_wp2_with fail
          refine (HI3.out _ _ _ _ (STH.out _ HBB.out).2.1 (STH.out _ HBB.out).2.2.1).mono ?_
          rintro ec wc ⟨rfl, hbc⟩
          have HBC := Lib.hid (HBB.out.chain hbc); clear hbc
          dsimp only
          clear e0 e1 e2 e3 e4 g0 g2 h0 h1 m0 m1 m2 m3 m4 f0 f1 f2 f3 f4
          obtain ⟨⟨c1, c2, c3, c4⟩, -⟩ := STH.out _ HBC.out
          obtain ⟨⟨e0, e1, e2, e3, e4⟩, -⟩ := box_of c1
          obtain ⟨⟨g0, -, g2, -, -⟩, -⟩ := box_of c2
          obtain ⟨⟨h0, h1, -, -, -⟩, -⟩ := box_of c3
          obtain ⟨⟨m0, m1, m2, m3, m4⟩, f0, f1, f2, f3, f4⟩ := box_of c4
          clear c1 c2 c3 c4
          cases i3 with
          | false =>
            go_wp2
            obtain ⟨wf, hwf⟩ : ∃ wf, wf = set5 wc R 0 (.int .i64 0) (.int .i64 0) (.string ⟨#[]⟩) (.slice none 0 0) (.slice none 0 0) := ⟨_, rfl⟩
            change bodyPost _ _ _ _ _ (set5 wc R 0 (.int .i64 0) (.int .i64 0) (.string ⟨#[]⟩) (.slice none 0 0) (.slice none 0 0))
            rw [← hwf]
            have cx := (STH.out _ HBC.out)
            have hx : wf.heap[R]? = some (.cells #[.int .i64 0, .int .i64 0, .string ⟨#[]⟩, .slice none 0 0, .slice none 0 0] 28 (0, 0)) := by
              have := set5_here (o := 0) (c0 := .int .i64 0) (c1 := .int .i64 0) (c2 := .string ⟨#[]⟩) (c3 := .slice none 0 0) (c4 := .slice none 0 0) cx.1.2.2.2
              rw [hwf]; simpa using this
            have hbf : Below w.heap.size w wf := by rw [hwf, HR.out]; exact cx.2.2.2.trans (set5_below (Nat.le_refl _))
            obtain ⟨⟨x0, x1, x2, x3, x4⟩, -⟩ := box_of hx
            have HBF := Lib.hid hbf
            obtain rfl := HNOT.out (by trivial) (HNO2.out (.inr (.inr (.inr (.inr (.inr (.inr (.inr ⟨hn, by trivial⟩))))))))
            clear hbf hx hwf cx e0 e1 e2 e3 e4 g0 g2 h0 h1 m0 m1 m2 m3 m4 f0 f1 f2 f3 f4
            refine bodyPost_ret (v := .tuple #[.string ⟨#[]⟩, .agg #[.int .i64 0, .int .i64 0, .string ⟨#[]⟩, .slice none 0 0, .slice none 0 0], .int .i64 9]) (by simp [results, Tryd.results14, go_sem, x0, x1, x2, x3, x4]) rfl ?_
            exact ⟨⟨[_, _, _, _, _], 0, 0, rfl, zero_visC _ _ _, Nat.zero_le _⟩, HBF.out⟩
          | true =>
            go_upto_region 8 with fail
            obtain ⟨wf, hwf⟩ : ∃ wf, wf = set5 wc R 0 (.int .i64 v.kind) (.int .i64 n) (.string t) (.slice VA va vb) (.slice VB vc vd) := ⟨_, rfl⟩
            have cx := (STH.out _ HBC.out)
            have hx : wf.heap[R]? = some (.cells #[.int .i64 v.kind, .int .i64 n, .string t, .slice VA va vb, .slice VB vc vd] 28 (0, 0)) := by
              have := set5_here (o := 0) (c0 := .int .i64 v.kind) (c1 := .int .i64 n) (c2 := .string t) (c3 := .slice VA va vb) (c4 := .slice VB vc vd) cx.1.2.2.2
              rw [hwf]; simpa using this
            have hbf : Below w.heap.size w wf := by rw [hwf, HR.out]; exact cx.2.2.2.trans (set5_below (Nat.le_refl _))
            have hvf : VIs wf W1.heap.size w2.heap.size v [.int .i64 v.kind, .int .i64 n, .string t, .slice VA va vb, .slice VB vc vd] := cx.2.1.keep2 fun q q1 q2 => World.cell?_of_block (by rw [hwf]; exact set5_there (by have := Z1.out; omega))
            have hnf : w2.heap.size ≤ wf.heap.size := by rw [hwf, set5_size]; exact cx.2.2.1
            obtain ⟨⟨x0, x1, x2, x3, x4⟩, -⟩ := box_of hx
            have HBF := Lib.hid hbf; have HVF := Lib.hid hvf; have HNF := Lib.hid hnf; have HWF := Lib.hid hwf
            obtain rfl := HFIT.out (by trivial) (HYES.out HK6.out (by trivial) (by trivial) HK4.out HT.out HK3.out (by have := HLE.out; omega) (.inr (by trivial)))
            go_region
            all_goals
              go_wp2
              change bodyPost _ _ _ _ _ (set5 wc R 0 (.int .i64 v.kind) (.int .i64 n) (.string t) (.slice VA va vb) (.slice VB vc vd)).drew
              rw [← HWF.out]
              have y0 : wf.drew.cell? ⟨R, 0, none⟩ = some (.int .i64 v.kind) := x0
              have y1 : wf.drew.cell? ⟨R, 1, none⟩ = some (.int .i64 n) := x1
              have y2 : wf.drew.cell? ⟨R, 2, none⟩ = some (.string t) := x2
              have y3 : wf.drew.cell? ⟨R, 3, none⟩ = some (.slice VA va vb) := x3
              have y4 : wf.drew.cell? ⟨R, 4, none⟩ = some (.slice VB vc vd) := x4
              clear hbf hvf hnf hx hwf cx e0 e1 e2 e3 e4 g0 g2 h0 h1 m0 m1 m2 m3 m4 f0 f1 f2 f3 f4 x0 x1 x2 x3 x4
              refine bodyPost_ret (v := .tuple #[.string ⟨u1.text.toArray⟩, .agg #[.int .i64 v.kind, .int .i64 n, .string t, .slice VA va vb, .slice VB vc vd], .int .i64 0]) (by simp [results, Tryd.results14, go_sem, y0, y1, y2, y3, y4]) rfl ?_
              exact ⟨⟨[_, _, _, _, _], W1.heap.size, w2.heap.size, rfl, VIs.keep (w := wf) (w' := wf.drew) (fun _ _ => rfl) HVF.out, HNF.out⟩, HBF.out.drew⟩
    · have d1 : (v.kind != 6) = true := by simp [hk6]
      go_wp2
      obtain ⟨wf, hwf⟩ : ∃ wf, wf = set5 w7 R 0 (.int .i64 0) (.int .i64 0) (.string ⟨#[]⟩) (.slice none 0 0) (.slice none 0 0) := ⟨_, rfl⟩
      change bodyPost _ _ _ _ _ (set5 w7 R 0 (.int .i64 0) (.int .i64 0) (.string ⟨#[]⟩) (.slice none 0 0) (.slice none 0 0))
      rw [← hwf]
      have cx := (STH.out _ (Below.refl _ _))
      have hx : wf.heap[R]? = some (.cells #[.int .i64 0, .int .i64 0, .string ⟨#[]⟩, .slice none 0 0, .slice none 0 0] 28 (0, 0)) := by
        have := set5_here (o := 0) (c0 := .int .i64 0) (c1 := .int .i64 0) (c2 := .string ⟨#[]⟩) (c3 := .slice none 0 0) (c4 := .slice none 0 0) cx.1.2.2.2
        rw [hwf]; simpa using this
      have hbf : Below w.heap.size w wf := by rw [hwf, HR.out]; exact cx.2.2.2.trans (set5_below (Nat.le_refl _))
      obtain ⟨⟨x0, x1, x2, x3, x4⟩, -⟩ := box_of hx
      have HBF := Lib.hid hbf
      obtain rfl := HNOT.out (by trivial) (HNO2.out (.inl hk6))
      clear hbf hx hwf cx e0 e1 e2 e3 e4 g0 g2 h0 h1 m0 m1 m2 m3 m4 f0 f1 f2 f3 f4
      refine bodyPost_ret (v := .tuple #[.string ⟨#[]⟩, .agg #[.int .i64 0, .int .i64 0, .string ⟨#[]⟩, .slice none 0 0, .slice none 0 0], .int .i64 9]) (by simp [results, Tryd.results14, go_sem, x0, x1, x2, x3, x4]) rfl ?_
      exact ⟨⟨[_, _, _, _, _], 0, 0, rfl, zero_visC _ _ _, Nat.zero_le _⟩, HBF.out⟩
  · have hne : (E != 0) = true := by simpa using hE0
    obtain rfl := HBAD.out hE0
    go_enter Tryd.func14, Tryd.ntmps14
    go_wp2_with fail
    rw [← HW1.out, HR.out]
    refine HPA.out.mono ?_
    rintro e w2 ⟨⟨k, n, t, VA, va, vb, VB, vc, vd, rfl, v2⟩, hb2⟩
    have hb3 := hb2.alloc hb2.size (.cells #[.int .i64 k, .int .i64 n, .string t, .slice VA va vb, .slice VB vc vd] 28)
    have m3 := blk_below K1.out hb3
    have r3 : Below R w _ := B1.out.trans (hb3.mono (by have := Z1.out; omega))
    obtain ⟨⟨m0, m1, m2, m3', m4⟩, f0, f1, f2, f3, f4⟩ := box_of m3
    have M3 := Lib.hid m3; have R3 := Lib.hid r3
    clear m3 r3 hb2 hb3 v2
    dsimp only
    go_wp2
    obtain ⟨wf, hwf⟩ : ∃ wf, wf = set5 (w2.alloc (.cells #[.int .i64 k, .int .i64 n, .string t, .slice VA va vb, .slice VB vc vd] 28)) R 0 (.int .i64 0) (.int .i64 0) (.string ⟨#[]⟩) (.slice none 0 0) (.slice none 0 0) := ⟨_, rfl⟩
    change bodyPost _ _ _ _ _ (set5 (w2.alloc (.cells #[.int .i64 k, .int .i64 n, .string t, .slice VA va vb, .slice VB vc vd] 28)) R 0 (.int .i64 0) (.int .i64 0) (.string ⟨#[]⟩) (.slice none 0 0) (.slice none 0 0))
    rw [← hwf]
    have hx : wf.heap[R]? = some (.cells #[.int .i64 0, .int .i64 0, .string ⟨#[]⟩, .slice none 0 0, .slice none 0 0] 28 (0, 0)) := by
      have := set5_here (o := 0) (c0 := .int .i64 0) (c1 := .int .i64 0) (c2 := .string ⟨#[]⟩) (c3 := .slice none 0 0) (c4 := .slice none 0 0) M3.out
      rw [hwf]; simpa using this
    have hbf : Below w.heap.size w wf := by rw [hwf, HR.out]; exact R3.out.trans (set5_below (Nat.le_refl _))
    obtain ⟨⟨x0, x1, x2, x3, x4⟩, -⟩ := box_of hx
    have HBF := Lib.hid hbf
    clear hbf hx hwf m0 m1 m2 m3' m4 f0 f1 f2 f3 f4
    refine bodyPost_ret (v := .tuple #[.string ⟨#[]⟩, .agg #[.int .i64 0, .int .i64 0, .string ⟨#[]⟩, .slice none 0 0, .slice none 0 0], .int .i64 E]) (by simp [results, Tryd.results14, go_sem, x0, x1, x2, x3, x4]) rfl ?_
    exact ⟨⟨[_, _, _, _, _], 0, 0, rfl, zero_visC _ _ _, Nat.zero_le _⟩, HBF.out⟩
end Go.Proofs.YtcbajbpdgmmaeaaDoor
namespace Go.Proofs.YtcbajbpdgmmaeaaDoor
set_option linter.unusedSimpArgs false

def cI : List UInt8 := [105]
def cS : List UInt8 := [115]
def cA : List UInt8 := [97]
def cN : List UInt8 := [110]
/-- what is looked at: its name, where it stands, and what it should be -/
def whichK : Nat → List UInt8
  | 0 => wIss
  | 1 => wSub
  | 2 => wAud
  | 3 => wExp
  | _ => wNonce
def whichI : Nat → Nat
  | 0 => 0
  | 1 => 1
  | 2 => 2
  | 3 => 4
  | _ => 5
def whichV : Nat → V
  | 0 => textV cI
  | 1 => textV cS
  | 2 => textV cA
  | 3 => numV 50
  | _ => textV cN
def goodC : V := claimV cI cS cA cN 0 50
theorem goodC_is : goodC = .mk 6 0 [] [textV cI, textV cS, textV cA, numV 0, numV 50, textV cN] [wIss, wSub, wAud, wIat, wExp, wNonce] := rfl
/-- with one of them another value -/
def badC (j : Nat) (v : V) : V := .mk 6 0 [] ([textV cI, textV cS, textV cA, numV 0, numV 50, textV cN].set (whichI j) v) [wIss, wSub, wAud, wIat, wExp, wNonce]
theorem badC_fits (j : Nat) (v : V) (d : Nat) (hv : v.fits (d + 1) = true) : (badC j v).fits (d + 2) = true := by
  unfold badC
  rw [fits_mk]
  simp only [Bool.and_eq_true]
  refine ⟨by rw [List.length_set]; decide +kernel, (fitsAll_iff _ _).2 fun u hu => ?_⟩
  rcases List.mem_or_eq_of_mem_set hu with h | rfl
  · simp only [List.mem_cons, List.not_mem_nil, or_false] at h
    rcases h with rfl | rfl | rfl | rfl | rfl | rfl
    · exact textV_fits _ d
    · exact textV_fits _ d
    · exact textV_fits _ d
    · exact numV_fits _ (by decide) d
    · exact numV_fits _ (by decide) d
    · exact textV_fits _ d
  · exact hv
/-- may the value stand there? -/
def OkC (j : Nat) (v : V) : Prop := v = whichV j ∨ (j = 1 ∧ v.kind = 4 ∧ v.text ≠ []) ∨ (j = 3 ∧ v.kind = 3 ∧ 10 < v.num)
theorem badC_field (j : Nat) (v : V) (key : List UInt8) (i : Nat) (hk : keyAt key [wIss, wSub, wAud, wIat, wExp, wNonce] = i) (hi : i < 6) : fieldV key (badC j v) = ([textV cI, textV cS, textV cA, numV 0, numV 50, textV cN].set (whichI j) v)[i]? := by
  unfold badC
  rw [fieldV_mk, hk, if_pos ⟨rfl, hi⟩]
/-- a text, or a number, that fits is what it is by its text, or its number -/
theorem plain_text {v : V} {d : Nat} (hf : v.fits d = true) (hk : v.kind = 4) : v = textV v.text := by
  obtain ⟨k, n, t, l, ks⟩ := v
  obtain rfl : k = 4 := hk
  have H := head_says (fits_split hf).1
  have h1 := H.zero (by decide) (by decide)
  have h2 := H.list (by decide) (by decide)
  have h3 := H.none (by decide)
  obtain rfl := List.length_eq_zero_iff.1 h2
  subst h1; subst h3
  rfl
theorem plain_num {v : V} {d : Nat} (hf : v.fits d = true) (hk : v.kind = 3) : v = numV v.num := by
  obtain ⟨k, n, t, l, ks⟩ := v
  obtain rfl : k = 3 := hk
  have H := head_says (fits_split hf).1
  have h1 := H.text (by decide)
  have h2 := H.list (by decide) (by decide)
  have h3 := H.none (by decide)
  obtain rfl := List.length_eq_zero_iff.1 h2
  subst h1; subst h3
  rfl
theorem text_is {v : V} {d : Nat} (hf : v.fits d = true) (t : List UInt8) : (decide (v.kind = 4) && decide (v.text = t)) = true ↔ v = textV t := by
  simp only [Bool.and_eq_true, decide_eq_true_eq]
  constructor
  · rintro ⟨h1, h2⟩; rw [plain_text hf h1, h2]
  · rintro rfl; exact ⟨rfl, rfl⟩
theorem k0 : keyAt wIss [wIss, wSub, wAud, wIat, wExp, wNonce] = 0 := by decide +kernel
theorem k1 : keyAt wSub [wIss, wSub, wAud, wIat, wExp, wNonce] = 1 := by decide +kernel
theorem k2 : keyAt wAud [wIss, wSub, wAud, wIat, wExp, wNonce] = 2 := by decide +kernel
theorem k4 : keyAt wExp [wIss, wSub, wAud, wIat, wExp, wNonce] = 4 := by decide +kernel
theorem k5 : keyAt wNonce [wIss, wSub, wAud, wIat, wExp, wNonce] = 5 := by decide +kernel
/-- claims of which one is another value fit just if it may stand there -/
theorem bad_fit (j : Nat) (hj : j < 5) (v : V) {d : Nat} (hf : v.fits d = true) : fitV (badC j v) cI cA cN 10 = true ↔ OkC j v := by
  unfold fitV isV
  rw [badC_field j v _ 0 k0 (by decide), badC_field j v _ 1 k1 (by decide), badC_field j v _ 2 k2 (by decide), badC_field j v _ 4 k4 (by decide), badC_field j v _ 5 k5 (by decide)]
  have hcn : ¬ cN = [] := by decide
  have hcs : ¬ cS = [] := by decide
  have hkind : (badC j v).kind = 6 := rfl
  rw [hkind]
  have hT := text_is hf
  have tk : ∀ t, (textV t).kind = 4 := fun _ => rfl
  have tt : ∀ t, (textV t).text = t := fun _ => rfl
  have nk : ∀ n, (numV n).kind = 3 := fun _ => rfl
  have nn : ∀ n, (numV n).num = n := fun _ => rfl
  match j, hj with
  | 0, _ => simp [whichI, OkC, whichV, tk, tt, nk, nn, hcn, hcs, ← hT]
  | 1, _ =>
    simp [whichI, OkC, whichV, tk, tt, nk, nn, hcn, ← hT]
    intro h1 h2
    exact ⟨h1, by rw [h2]; exact hcs⟩
  | 2, _ => simp [whichI, OkC, whichV, tk, tt, nk, nn, hcn, hcs, ← hT]
  | 3, _ =>
    simp [whichI, OkC, whichV, tk, tt, nk, nn, hcn, hcs]
    rintro rfl; exact ⟨rfl, by decide⟩
  | 4, _ => simp [whichI, OkC, whichV, tk, tt, nk, nn, hcn, hcs, ← hT]
end Go.Proofs.YtcbajbpdgmmaeaaDoor
namespace Go.Proofs.YtcbajbpdgmmaeaaDoor
open Go.RowKit

end Go.Proofs.YtcbajbpdgmmaeaaDoor
namespace Go.Proofs.YtcbajbpdgmmaeaaDoor
open Go.RowKit

end Go.Proofs.YtcbajbpdgmmaeaaDoor
namespace Go.Proofs.YtcbajbpdgmmaeaaDoor
open Go.RowKit

/-- what Print answers -/
def printV (v : V) : List UInt8 := if v.fits 8 then v.show else []
end Go.Proofs.YtcbajbpdgmmaeaaDoor
namespace Go.Proofs.YtcbajbpdgmmaeaaDoor
open Go.RowKit
set_option linter.unusedVariables false
set_option linter.unusedSimpArgs false

set_option maxRecDepth 100000 in
set_option maxHeartbeats 20000000 in
theorem refJSON_any (v : V) (w : World) (L N : Nat) (cs : List Value) (hl : v.fits 8 = true → v.show.length ≤ 10000000000000) (hv : VIs w L N v cs) (hN : N ≤ w.heap.size) :
    Calls Tryd.prog 15 #[.agg cs.toArray] w fun e w' => e = .returned (.string ⟨(printV v).toArray⟩) ∧ Below w.heap.size w w' := by
  obtain ⟨A, c, A', c', rfl⟩ := hv.form
  obtain ⟨W1, hW1⟩ : ∃ W1, W1 = w.alloc (.cells #[.int .i64 v.kind, .int .i64 v.num, .string ⟨v.text.toArray⟩, .slice A v.list.length c, .slice A' v.keys.length c'] 28) := ⟨_, rfl⟩
  have b1 : Below w.heap.size w W1 := by rw [hW1]; exact (Below.refl _ _).alloc (Nat.le_refl _) _
  have x1 : W1.heap[w.heap.size]? = some (.cells #[.int .i64 v.kind, .int .i64 v.num, .string ⟨v.text.toArray⟩, .slice A v.list.length c, .slice A' v.keys.length c'] 28 (0, 0)) := by rw [hW1]; exact heap_alloc_last w _
  have v1 := hv.below (b1.mono hN)
  have hN1 : N ≤ W1.heap.size := Nat.le_trans hN b1.size
  have c1 : Calls Tryd.prog 16 #[.agg #[.int .i64 v.kind, .int .i64 v.num, .string ⟨v.text.toArray⟩, .slice A v.list.length c, .slice A' v.keys.length c'], .int .i64 8] W1 fun e w' => e = .returned (.bool (v.fits 8)) ∧ Below W1.heap.size W1 w' := refFits_any v 8 W1 L N _ (by decide) v1 hN1
  obtain ⟨⟨p0, p1, p2, p3, p4⟩, -⟩ := box_of x1
  rw [hW1] at p0 p1 p2 p3 p4
  cases hf : v.fits 8 with
  | false =>
    have hp : printV v = [] := by unfold printV; rw [hf]; rfl
    rw [hp]
    rw [hf] at c1
    have HW1 := Lib.hid hW1; have B1 := Lib.hid b1; have C1 := Lib.hid c1
    clear hW1 b1 x1 v1 c1 hv hl hp hf hN hN1
    go_enter Tryd.func15, Tryd.ntmps15
    go_wp2_with fail
    rw [← HW1.out]
    refine (C1.out).mono ?_
    rintro e2 w2 ⟨rfl, hb2⟩
    dsimp only
    have HB2 := Lib.hid hb2
    clear hb2 p0 p1 p2 p3 p4
    go_wp2_with fail
    go_ret
    exact ⟨rfl, B1.out.chain HB2.out⟩
  | true =>
    have hp : printV v = v.show := by unfold printV; rw [hf]; rfl
    have hl' := hl hf
    have hg := fits_isgood hf
    have c2 : ∀ wq, Below W1.heap.size W1 wq → Calls Tryd.prog 30 #[.agg #[.int .i64 v.kind, .int .i64 v.num, .string ⟨v.text.toArray⟩, .slice A v.list.length c, .slice A' v.keys.length c']] wq fun e w' => e = .returned (.string ⟨v.show.toArray⟩) ∧ Below wq.heap.size wq w' := fun wq hb => refShow_any v wq L N _ hg hl' (v1.below (hb.mono hN1)) (Nat.le_trans hN1 hb.size)
    obtain ⟨S, hS⟩ : ∃ S : ByteArray, (⟨v.show.toArray⟩ : ByteArray) = S := ⟨_, rfl⟩
    rw [hp, hS]
    rw [hS] at c2
    rw [hf] at c1
    have HW1 := Lib.hid hW1; have B1 := Lib.hid b1; have C1 := Lib.hid c1; have C2 := Lib.hid c2; have X1 := Lib.hid x1
    clear hW1 b1 x1 v1 c1 c2 hv hl hl' hg hp hf hN hN1 hS
    go_enter Tryd.func15, Tryd.ntmps15
    go_wp2_with fail
    rw [← HW1.out]
    refine (C1.out).mono ?_
    rintro e2 w2 ⟨rfl, hb2⟩
    dsimp only
    have hc := C2.out w2 hb2
    clear p0 p1 p2 p3 p4
    obtain ⟨⟨p0, p1, p2, p3, p4⟩, -⟩ := box_of (blk_below X1.out hb2)
    have HB2 := Lib.hid hb2; have HC := Lib.hid hc
    clear hb2 hc
    go_wp2_with fail
    refine (HC.out).mono ?_
    rintro e3 w3 ⟨rfl, hb3⟩
    dsimp only
    have HB3 := Lib.hid hb3
    clear hb3 p0 p1 p2 p3 p4
    go_wp2_with fail
    go_ret
    exact ⟨rfl, B1.out.chain (HB2.out.chain HB3.out)⟩
end Go.Proofs.YtcbajbpdgmmaeaaDoor
namespace Go.Proofs.YtcbajbpdgmmaeaaDoor
open Go.RowKit
set_option linter.unusedVariables false
set_option linter.unusedSimpArgs false

/-- a good value's text is read as it -/
theorem parse_show (v : V) (hf : v.fits 8 = true) (hl : v.show.length ≤ 4096) : parseV v.show = (v, 0) := by
  unfold parseV
  rw [if_neg (by omega), readV_of ⟨⟨8, hf⟩, rfl⟩ hl]
  simp only
  rw [if_pos hf]
theorem check_show {v : V} (hf : v.fits 8 = true) (hl : v.show.length ≤ 4096) (iss aud nonce : List UInt8) (now : Int) : checkR v.show iss aud nonce now = if fitV v iss aud nonce now then (((fieldV wSub v).getD V.zero).text, v, 0) else ([], V.zero, 9) := by
  have hp := parse_show v hf hl
  cases hfit : fitV v iss aud nonce now with
  | true => rw [checkR_fit (by rw [hp]) (by rw [hp]; exact hfit), hp]; rfl
  | false => rw [checkR_not (by rw [hp]) (by rw [hp]; exact hfit)]; rfl
set_option maxRecDepth 100000 in
theorem moment_any (n : Int) (w : World) : Calls Tryd.prog 8 #[.int .i64 n] w fun e w' => e = .returned (.bool (decide (-9007199254740992 ≤ n) && decide (n ≤ 9007199254740992))) ∧ w' = w := by
  by_cases h1 : -9007199254740992 ≤ n
  · have d1 : decide (-9007199254740992 ≤ n) = true := by simp [h1]
    rw [d1]
    go_enter Tryd.func8, Tryd.ntmps8
    go_wp2
    go_ret
    exact ⟨by simp, rfl⟩
  · have d1 : decide (-9007199254740992 ≤ n) = false := by simp [h1]
    rw [d1]
    go_enter Tryd.func8, Tryd.ntmps8
    go_wp2
    go_ret
    exact ⟨by simp, rfl⟩
end Go.Proofs.YtcbajbpdgmmaeaaDoor
namespace Go.Proofs.YtcbajbpdgmmaeaaDoor
open Go.RowKit
set_option linter.unusedVariables false
set_option linter.unusedSimpArgs false

def c1 : List UInt8 := [105]
def ansC : V := claimV cI cS cA cN 1 9
theorem ansC_fits : ansC.fits 8 = true := claimV_fits _ _ _ _ _ _ (by decide) (by decide) 6
theorem ansC_len : ansC.show.length ≤ 4096 := by decide +kernel
theorem ansC_print : printV ansC = ansC.show := by unfold printV; rw [if_pos ansC_fits]
theorem ansC_8 : checkR ansC.show cI cA cN 8 = (cS, ansC, 0) := by
  rw [check_show ansC_fits ansC_len, if_pos (by unfold ansC; rw [claim_fit _ _ _ _ _ _ _ _ _ _ (by decide) (by decide)]; decide)]
  show ((((fieldV wSub (claimV cI cS cA cN 1 9)).getD V.zero).text), ansC, (0 : Int)) = _
  rw [fSub]; rfl
theorem ansC_9 : checkR ansC.show cI cA cN 9 = ([], V.zero, 9) := by
  rw [check_show ansC_fits ansC_len, if_neg (by unfold ansC; rw [claim_fit _ _ _ _ _ _ _ _ _ _ (by decide) (by decide)]; decide)]
set_option maxRecDepth 100000 in
set_option maxHeartbeats 4000000 in
theorem answers8_any (MAKE : MakeSays) (CHECK : CodeCheck) (w : World) (hk : KitIn w.heap.size w) : Calls Tryd.prog 9 #[] w fun e w' => e = .returned (.bool true) ∧ Below w.heap.size w w' := by
  have hkb := fun W (hb : Below w.heap.size w W) => (hk.below hb).more hb.size
  have hmk := MAKE cI cS cA cN 1 9 (by decide) (by decide) (by decide) (by decide) ⟨by decide, by decide⟩ ⟨by decide, by decide⟩ w
  have hjs := fun (W : World) (L N : Nat) (cs : List Value) (h : VIs W L N ansC cs) (hN : N ≤ W.heap.size) => refJSON_any ansC W L N cs (fun _ => by have := ansC_len; omega) h hN
  have h8 := fun (W : World) (hb : Below w.heap.size w W) => CHECK ansC.show cI cA cN 8 (by have := ansC_len; omega) ⟨by decide, by decide⟩ W (hkb W hb)
  have h9 := fun (W : World) (hb : Below w.heap.size w W) => CHECK ansC.show cI cA cN 9 (by have := ansC_len; omega) ⟨by decide, by decide⟩ W (hkb W hb)
  rw [ansC_8] at h8
  rw [ansC_9] at h9
  rw [ansC_print] at hjs
  unfold CheckSays at h8 h9
  obtain ⟨T, hT⟩ : ∃ D : ByteArray, (⟨ansC.show.toArray⟩ : ByteArray) = D := ⟨_, rfl⟩
  rw [hT] at hjs h8 h9
  have hmk2 : Calls Tryd.prog 11 #[.string ⟨#[105]⟩, .string ⟨#[115]⟩, .string ⟨#[97]⟩, .string ⟨#[110]⟩, .int .i64 1, .int .i64 9] w fun e w' => (∃ cs L N, e = .returned (.agg (List.toArray cs)) ∧ VIs w' L N ansC cs ∧ N ≤ w'.heap.size) ∧ Below w.heap.size w w' := hmk
  have h8b : ∀ W, Below w.heap.size w W → Calls Tryd.prog 13 #[.string T, .string ⟨#[105]⟩, .string ⟨#[97]⟩, .string ⟨#[110]⟩, .int .i64 8] W fun e w' => (∃ cs L N, e = .returned (.tuple #[.string ⟨#[115]⟩, .agg (List.toArray cs), .int .i64 0]) ∧ VIs w' L N ansC cs ∧ N ≤ w'.heap.size) ∧ Below W.heap.size W w' := h8
  have h9b : ∀ W, Below w.heap.size w W → Calls Tryd.prog 13 #[.string T, .string ⟨#[105]⟩, .string ⟨#[97]⟩, .string ⟨#[110]⟩, .int .i64 9] W fun e w' => (∃ cs L N, e = .returned (.tuple #[.string ⟨#[]⟩, .agg (List.toArray cs), .int .i64 9]) ∧ VIs w' L N V.zero cs ∧ N ≤ w'.heap.size) ∧ Below W.heap.size W w' := h9
  have HMK := Lib.hid hmk2; have HJS := Lib.hid hjs; have H8 := Lib.hid h8b; have H9 := Lib.hid h9b; have HF := Lib.hid (fun W L N cs (h : VIs W L N ansC cs) => h.form); have HZ := Lib.hid (fun W L N cs (h : VIs W L N V.zero cs) => h.form)
  clear hmk hmk2 hjs h8 h9 h8b h9b hkb hk hT
  go_enter Tryd.func9, Tryd.ntmps9
  go_wp2_with fail
  refine HMK.out.mono ?_
  rintro e w1 ⟨⟨cs, L, N, rfl, v1, hN1⟩, hb1⟩
  obtain ⟨z1, z2, z3, z4, rfl⟩ := HF.out _ _ _ _ v1
  obtain ⟨ak, hak⟩ : ∃ z, ansC.kind = z := ⟨_, rfl⟩
  obtain ⟨an, han⟩ : ∃ z, ansC.num = z := ⟨_, rfl⟩
  obtain ⟨at', hat⟩ : ∃ z : ByteArray, (⟨ansC.text.toArray⟩ : ByteArray) = z := ⟨_, rfl⟩
  obtain ⟨al, hal⟩ : ∃ z, ansC.list.length = z := ⟨_, rfl⟩
  obtain ⟨aks, haks⟩ : ∃ z, ansC.keys.length = z := ⟨_, rfl⟩
  rw [hak, han, hat, hal, haks] at v1 ⊢
  have g2 := (Below.refl w1.heap.size w1).alloc (Nat.le_refl _) (.cells #[.int .i64 ak, .int .i64 an, .string at', .slice z1 al z2, .slice z3 aks z4] 28)
  have q2 := heap_alloc_last w1 (.cells #[.int .i64 ak, .int .i64 an, .string at', .slice z1 al z2, .slice z3 aks z4] 28)
  have v2 := v1.below (g2.mono hN1)
  have N2 := Nat.le_trans hN1 g2.size
  have B2 := Lib.hid (hb1.chain g2); have V2 := Lib.hid v2; have Q2 := Lib.hid q2
  clear g2 q2 v2 v1 hb1 hak han hat hal haks
  dsimp only
  go_wp2_with fail
  refine (HJS.out _ _ _ _ V2.out N2).mono ?_
  rintro e w3 ⟨rfl, hb3⟩
  have B3 := Lib.hid hb3; clear hb3
  dsimp only
  go_wp2_with fail
  refine (H8.out _ (B2.out.chain B3.out)).mono ?_
  rintro e w4 ⟨⟨ds, L4, N4, rfl, v4, -⟩, hb4⟩
  obtain ⟨y1, y2, y3, y4, rfl⟩ := HF.out _ _ _ _ v4
  have B4 := Lib.hid (B3.out.chain (hb4.alloc hb4.size (.cells #[.int .i64 ansC.kind, .int .i64 ansC.num, .string ⟨ansC.text.toArray⟩, .slice y1 ansC.list.length y2, .slice y3 ansC.keys.length y4] 28)))
  obtain ⟨⟨p0, p1, p2, p3, p4⟩, -⟩ := box_of (blk_below Q2.out B4.out)
  clear hb4 v4
  dsimp only
  go_wp2_with fail
  refine (HJS.out _ _ _ _ (V2.out.below (B4.out.mono N2)) (Nat.le_trans N2 B4.out.size)).mono ?_
  rintro e w5 ⟨rfl, hb5⟩
  have B5 := Lib.hid (B4.out.chain hb5); clear hb5 p0 p1 p2 p3 p4
  dsimp only
  go_wp2_with fail
  refine (H9.out _ (B2.out.chain B5.out)).mono ?_
  rintro e w6 ⟨⟨ds, L6, N6, rfl, v6, -⟩, hb6⟩
  obtain ⟨x1, x2, x3, x4, rfl⟩ := HZ.out _ _ _ _ v6
  have B6 := Lib.hid ((B2.out.chain B5.out).chain (hb6.alloc hb6.size (.cells #[.int .i64 V.zero.kind, .int .i64 V.zero.num, .string ⟨V.zero.text.toArray⟩, .slice x1 V.zero.list.length x2, .slice x3 V.zero.keys.length x4] 28)))
  clear hb6 v6
  dsimp only
  go_wp2
  go_ret
  exact ⟨rfl, B6.out⟩
end Go.Proofs.YtcbajbpdgmmaeaaDoor
