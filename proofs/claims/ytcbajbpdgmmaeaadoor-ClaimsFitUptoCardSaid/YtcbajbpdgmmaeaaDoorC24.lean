/- Texts merged by program, in build order: ClaimsCheck, ClaimsHold. -/
import Derived.Test.YtcbajbpdgmmaeaaDoorC21
import Derived.Test.YtcbajbpdgmmaeaaDoorC23
import Derived.Test.YtcbajbpdgmmaeaaDoorC20
namespace Go.Proofs.YtcbajbpdgmmaeaaDoor
open Go.RowKit
set_option linter.unusedVariables false
set_option linter.unusedSimpArgs false

theorem isV_kind {v : V} {key want : List UInt8} (h : isV v key want = true) : v.kind = 6 := by
  obtain ⟨k, n, t, l, ks⟩ := v
  unfold isV at h
  rw [fieldV_mk] at h
  by_cases hk : k = 6
  · exact hk
  · rw [if_neg (fun e => hk e.1)] at h; cases h
theorem fieldD_moment {v : V} {key : List UInt8} {d : Nat} (h : v.fits d = true) : moment ((fieldV key v).getD V.zero).num := by
  cases hf : fieldV key v with
  | none => exact ⟨by decide, by decide⟩
  | some u =>
    obtain ⟨k, n, t, l, ks⟩ := u
    have hh := head_says (fits_split (field_fits h hf).1).1
    show moment n
    unfold moment
    by_cases h3 : k = 3
    · exact hh.num h3
    · by_cases h2 : k = 2
      · have := hh.bool h2; omega
      · have := hh.zero h2 h3; omega
set_option maxRecDepth 100000 in
set_option maxHeartbeats 16000000 in
theorem codeCheck_any : CodeCheck := by
  intro s iss aud nonce now hs hn w hk
  obtain ⟨R, hR⟩ : ∃ R, w.heap.size = R := ⟨_, rfl⟩
  obtain ⟨W1, hW1⟩ : ∃ W1, W1 = w.alloc (.cells #[.int .i64 0, .int .i64 0, .string ⟨#[]⟩, .slice none 0 0, .slice none 0 0] 28) := ⟨_, rfl⟩
  have b1 : Below R w W1 := by rw [hW1, ← hR]; exact (Below.refl _ _).alloc (Nat.le_refl _) _
  have k1 : W1.heap[R]? = some (.cells #[.int .i64 0, .int .i64 0, .string ⟨#[]⟩, .slice none 0 0, .slice none 0 0] 28 (0, 0)) := by rw [hW1, ← hR]; exact heap_alloc_last w _
  have z1 : W1.heap.size = R + 1 := by rw [hW1]; simp [hR]
  have hk1 : KitIn W1.heap.size W1 := (hk.below (by rw [hR]; exact b1)).more (by omega)
  have hgood := @parseV_good s
  have hbad := @checkR_bad s iss aud nonce now
  have hnot := @checkR_not s iss aud nonce now
  have hfit := @checkR_fit s iss aud nonce now
  have hpa0 := parse_any s hs W1 hk1
  obtain ⟨v, hv⟩ : ∃ v, (parseV s).1 = v := ⟨_, rfl⟩
  obtain ⟨E, hE⟩ : ∃ z, (parseV s).2 = z := ⟨_, rfl⟩
  obtain ⟨RES, hRES⟩ : ∃ r, checkR s iss aud nonce now = r := ⟨_, rfl⟩
  rw [hv, hE] at hpa0 hgood
  rw [hE, hRES] at hbad
  rw [hv, hE, hRES] at hnot hfit
  rw [hRES]
  obtain ⟨S, hS⟩ : ∃ D : ByteArray, (⟨s.toArray⟩ : ByteArray) = D := ⟨_, rfl⟩
  obtain ⟨I, hI⟩ : ∃ D : ByteArray, (⟨iss.toArray⟩ : ByteArray) = D := ⟨_, rfl⟩
  obtain ⟨A, hA⟩ : ∃ D : ByteArray, (⟨aud.toArray⟩ : ByteArray) = D := ⟨_, rfl⟩
  obtain ⟨NO, hNO⟩ : ∃ D : ByteArray, (⟨nonce.toArray⟩ : ByteArray) = D := ⟨_, rfl⟩
  obtain ⟨T, hT⟩ : ∃ D : ByteArray, (⟨v.text.toArray⟩ : ByteArray) = D := ⟨_, rfl⟩
  obtain ⟨vk, hvk⟩ : ∃ z, v.kind = z := ⟨_, rfl⟩
  obtain ⟨vn, hvn⟩ : ∃ z, v.num = z := ⟨_, rfl⟩
  obtain ⟨ll, hll⟩ : ∃ z, v.list.length = z := ⟨_, rfl⟩
  obtain ⟨kk, hkk⟩ : ∃ z, v.keys.length = z := ⟨_, rfl⟩
  have hpa := hpa0.mono (R' := fun e w2 => (∃ VA vb VB vd, e = .returned (.tuple #[.agg #[.int .i64 vk, .int .i64 vn, .string T, .slice VA ll vb, .slice VB kk vd], .int .i64 E]) ∧ VIs w2 W1.heap.size w2.heap.size v [.int .i64 vk, .int .i64 vn, .string T, .slice VA ll vb, .slice VB kk vd]) ∧ Below W1.heap.size W1 w2) fun e w' ⟨⟨cs, he, hvi⟩, hb⟩ => by
    obtain ⟨a, b, c, d, hcs⟩ := hvi.form
    rw [hvk, hvn, hT, hll, hkk] at hcs
    subst hcs
    exact ⟨⟨a, b, c, d, he, hvi⟩, hb⟩
  clear hpa0
  rw [hS] at hpa
  by_cases hE0 : E = 0
  · subst hE0
    obtain ⟨hf8, -, -⟩ := hgood rfl
    have hsl := fits_slim 8 v hf8
    have hdp : v.depth ≤ 65537 := Nat.le_trans (fits_depth hf8) (by decide)
    have hx := @fieldD_moment v wExp 8 hf8
    have hfd := fun (W : World) (L N : Nat) (cs : List Value) (h : VIs W L N v cs) (hN : N ≤ W.heap.size) => (field_any v wSub W L N cs hsl hdp h hN).mono (R' := fun e w' => (∃ a b c d, e = .returned (.tuple #[.agg #[.int .i64 ((fieldV wSub v).getD V.zero).kind, .int .i64 ((fieldV wSub v).getD V.zero).num, .string ⟨((fieldV wSub v).getD V.zero).text.toArray⟩, .slice a ((fieldV wSub v).getD V.zero).list.length b, .slice c ((fieldV wSub v).getD V.zero).keys.length d], .bool (fieldV wSub v).isSome])) ∧ Below W.heap.size W w') fun e w' ⟨⟨ds, he, h1, _⟩, h2⟩ => by
      obtain ⟨a, b, c, d, hds⟩ := h1.form
      exact ⟨⟨a, b, c, d, by rw [he, hds]⟩, h2⟩
    have his := fun (key want : List UInt8) (W : World) (L N : Nat) (cs : List Value) (h : VIs W L N v cs) (hN : N ≤ W.heap.size) => tells_any v key want W L N cs hsl hdp h hN
    have hi1 := his wIss iss
    have hi2 := his wAud aud
    have hi3 := his wNonce nonce
    have hla := fun (W : World) (L N : Nat) (cs : List Value) (h : VIs W L N v cs) (hN : N ≤ W.heap.size) => lasts_any v now hn W L N cs hsl hdp hx h hN
    have hno0 := @fitV_no v iss aud nonce now
    have hyes0 := @fitV_yes v iss aud nonce now
    have hkd := @isV_kind v wIss iss
    rw [hI] at hi1
    rw [hA] at hi2
    rw [hNO] at hi3
    obtain ⟨u, hu⟩ : ∃ u, (fieldV wSub v).getD V.zero = u := ⟨_, rfl⟩
    obtain ⟨u2, hu2⟩ : ∃ u, (fieldV wExp v).getD V.zero = u := ⟨_, rfl⟩
    obtain ⟨so, hso⟩ : ∃ u, (fieldV wSub v).isSome = u := ⟨_, rfl⟩
    rw [hu, hso] at hfd
    rw [hu2] at hla
    rw [hu] at hfit
    rw [hu, hu2] at hno0 hyes0
    obtain ⟨i1, hii1⟩ : ∃ b, isV v wIss iss = b := ⟨_, rfl⟩
    obtain ⟨i2, hii2⟩ : ∃ b, isV v wAud aud = b := ⟨_, rfl⟩
    obtain ⟨i3, hii3⟩ : ∃ b, isV v wNonce nonce = b := ⟨_, rfl⟩
    obtain ⟨i4, hii4⟩ : ∃ b, (decide (u2.kind = 3) && decide (now < u2.num)) = b := ⟨_, rfl⟩
    rw [hii1] at hi1 hno0 hyes0 hkd
    rw [hii2] at hi2 hno0 hyes0
    rw [hii3] at hi3 hno0 hyes0
    rw [hii4] at hla
    obtain ⟨uk, un, ut, ulist, ukeys⟩ := u
    simp only [V.kind, V.num, V.text, V.list, V.keys] at hfd hfit hno0 hyes0
    obtain ⟨ul, hul⟩ : ∃ n, ulist.length = n := ⟨_, rfl⟩
    obtain ⟨us, hus⟩ : ∃ n, ukeys.length = n := ⟨_, rfl⟩
    obtain ⟨TU, hTU⟩ : ∃ D : ByteArray, (⟨ut.toArray⟩ : ByteArray) = D := ⟨_, rfl⟩
    rw [hul, hus, hTU] at hfd
    obtain ⟨tm, htm⟩ : ∃ b, (TU.toList == []) = b := ⟨_, rfl⟩
    have htm2 : (tm = true ↔ ut = []) := by rw [← htm, ← hTU, bt_list]; simp
    have h4e : ∀ b, (decide (u2.kind = 3) && decide (now < u2.num)) = b → (b = false → u2.kind ≠ 3 ∨ u2.num ≤ now) ∧ (b = true → u2.kind = 3 ∧ now < u2.num) := fun b hb => by
      subst hb
      constructor
      · intro h
        by_cases h3 : u2.kind = 3
        · right
          have h2 : ¬ now < u2.num := by intro h4; simp [h3, h4] at h
          omega
        · exact .inl h3
      · intro h; simpa using h
    have h44 := h4e i4 hii4
    have hno : ∀ (nm : Bool) (hnm : nm = (decide (uk = 4) && !tm)), (i1 = false ∨ i2 = false ∨ nm = false ∨ i4 = false ∨ (nonce ≠ [] ∧ i3 = false)) → RES = ([], V.zero, 9) := fun nm hnm h => by
      refine hnot (by trivial) (hno0 ?_)
      rcases h with h | h | h | h | ⟨h, h'⟩
      · exact .inr (.inl h)
      · exact .inr (.inr (.inl h))
      · rw [hnm] at h
        by_cases h4 : uk = 4
        · refine .inr (.inr (.inr (.inr (.inl (htm2.1 ?_)))))
          simpa [h4] using h
        · exact .inr (.inr (.inr (.inl h4)))
      · rcases h44.1 h with h | h
        · exact .inr (.inr (.inr (.inr (.inr (.inl h)))))
        · exact .inr (.inr (.inr (.inr (.inr (.inr (.inl h))))))
      · exact .inr (.inr (.inr (.inr (.inr (.inr (.inr ⟨h, h'⟩))))))
    have hyes : ∀ (nm : Bool) (hnm : nm = (decide (uk = 4) && !tm)), i1 = true → i2 = true → nm = true → i4 = true → (nonce = [] ∨ i3 = true) → RES = (ut, v, 0) := fun nm hnm a1 a2 a3 a4 a5 => by
      rw [hnm] at a3
      simp at a3
      exact hfit (by trivial) (hyes0 (hkd a1) a1 a2 a3.1 (fun e => by rw [htm2.2 e] at a3; exact absurd a3.2 (by decide)) (h44.2 a4).1 (h44.2 a4).2 a5)
    have HPA := Lib.hid hpa
    have HFD : Hid (∀ (W : World) (L N : Nat) (cs : List Value) (h : VIs W L N v cs) (hN : N ≤ W.heap.size), Calls Tryd.prog 25 #[.agg cs.toArray, .string ⟨#[115, 117, 98]⟩] W fun e w' => (∃ UA ub UB ud, e = .returned (.tuple #[.agg #[.int .i64 uk, .int .i64 un, .string TU, .slice UA ul ub, .slice UB us ud], .bool so])) ∧ Below W.heap.size W w') := Lib.hid hfd
    have HI1 : Hid (∀ (W : World) (L N : Nat) (cs : List Value) (h : VIs W L N v cs) (hN : N ≤ W.heap.size), Calls Tryd.prog 26 #[.agg cs.toArray, .string ⟨#[105, 115, 115]⟩, .string I] W fun e w' => e = .returned (.bool i1) ∧ Below W.heap.size W w') := Lib.hid hi1
    have HI2 : Hid (∀ (W : World) (L N : Nat) (cs : List Value) (h : VIs W L N v cs) (hN : N ≤ W.heap.size), Calls Tryd.prog 26 #[.agg cs.toArray, .string ⟨#[97, 117, 100]⟩, .string A] W fun e w' => e = .returned (.bool i2) ∧ Below W.heap.size W w') := Lib.hid hi2
    have HI3 : Hid (∀ (W : World) (L N : Nat) (cs : List Value) (h : VIs W L N v cs) (hN : N ≤ W.heap.size), Calls Tryd.prog 26 #[.agg cs.toArray, .string ⟨#[110, 111, 110, 99, 101]⟩, .string NO] W fun e w' => e = .returned (.bool i3) ∧ Below W.heap.size W w') := Lib.hid hi3
    have HLA := Lib.hid hla
    have HR := Lib.hid hR; have HW1 := Lib.hid hW1; have B1 := Lib.hid b1; have K1 := Lib.hid k1; have Z1 := Lib.hid z1; have HNOc := Lib.hid hNO; have HTU := Lib.hid hTU
    rw [hS, hI, hA, hNO]
    have HNO0 := Lib.hid hno; have HYES0 := Lib.hid hyes
    clear hpa hbad hnot hfit hfd his hi1 hi2 hi3 hla hno hyes hno0 hyes0 hkd hR hW1 b1 k1 z1 hk1 hNO hS hI hA hTU hv hE hRES hu hu2 hso hii1 hii2 hii3 hii4 hul hus hs hk hn hx hsl hdp hf8 hgood hT hvk hvn hll hkk h4e h44 htm2
    go_enter Tryd.func13, Tryd.ntmps13
    go_wp2_with fail
    rw [← HW1.out, HR.out]
    refine HPA.out.mono ?_
    rintro e w2 ⟨⟨VA, vb, VB, vd, rfl, v2⟩, hb2⟩
    obtain ⟨w3, hw3⟩ : ∃ w3, w3 = set5 w2 R 0 (.int .i64 vk) (.int .i64 vn) (.string T) (.slice VA ll vb) (.slice VB kk vd) := ⟨_, rfl⟩
    have k2 := blk_below K1.out hb2
    have hR1 := Z1.out
    have q3 : w3.heap[R]? = some (.cells #[.int .i64 vk, .int .i64 vn, .string T, .slice VA ll vb, .slice VB kk vd] 28 (0, 0)) := by
      have := set5_here (o := 0) (c0 := .int .i64 vk) (c1 := .int .i64 vn) (c2 := .string T) (c3 := .slice VA ll vb) (c4 := .slice VB kk vd) k2
      rw [hw3]; simpa using this
    have z3 : w3.heap.size = w2.heap.size := by rw [hw3, set5_size]
    have v3 : VIs w3 W1.heap.size w2.heap.size v [.int .i64 vk, .int .i64 vn, .string T, .slice VA ll vb, .slice VB kk vd] := v2.keep2 fun q q1 q2 => World.cell?_of_block (by rw [hw3]; exact set5_there (by omega))
    have r3 : Below R w w3 := by rw [hw3]; exact (B1.out.trans (hb2.mono (by omega))).trans (set5_below (Nat.le_refl _))
    obtain ⟨⟨e0, e1, e2, e3, e4⟩, -⟩ := box_of q3
    obtain ⟨⟨y0, y1, y2, y3, y4⟩, f0, f1, f2, f3, f4⟩ := box_of k2
    have N3 : w2.heap.size ≤ w3.heap.size := by omega
    have HW3 := Lib.hid hw3; have Q3 := Lib.hid q3; have V3 := Lib.hid v3; have R3 := Lib.hid r3; have Z3 := Lib.hid z3
    clear q3 v3 r3 hb2 v2 k2 hR1 z3
    rw [hw3] at e0 e1 e2 e3 e4
    clear hw3
    dsimp only
    go_wp2_with fail
    change Calls _ _ _ (set5 w2 R 0 (.int .i64 vk) (.int .i64 vn) (.string T) (.slice VA ll vb) (.slice VB kk vd)) _
    rw [← HW3.out]
    refine (HFD.out _ _ _ _ V3.out N3).mono ?_
    rintro e w4 ⟨⟨UA, ub, UB, ud, rfl⟩, hb4⟩
    obtain ⟨w5, hw5⟩ : ∃ w5, w5 = w4.alloc (.cells #[.int .i64 uk, .int .i64 un, .string TU, .slice UA ul ub, .slice UB us ud] 28) := ⟨_, rfl⟩
    have g5 : Below w4.heap.size w4 w5 := by rw [hw5]; exact (Below.refl _ _).alloc (Nat.le_refl _) _
    have q5 : w5.heap[w4.heap.size]? = some (.cells #[.int .i64 uk, .int .i64 un, .string TU, .slice UA ul ub, .slice UB us ud] 28 (0, 0)) := by rw [hw5]; exact heap_alloc_last w4 _
    have l5 := hb4.chain g5
    have ST : ∀ W, Below w5.heap.size w5 W → (W.cell? ⟨R, 0, none⟩ = some (.int .i64 vk) ∧ W.cell? ⟨R, 1, none⟩ = some (.int .i64 vn) ∧ W.cell? ⟨R, 2, none⟩ = some (.string T) ∧ W.cell? ⟨R, 3, none⟩ = some (.slice VA ll vb) ∧ W.cell? ⟨R, 4, none⟩ = some (.slice VB kk vd)) ∧
        (W.frozen? ⟨R, 0, none⟩ = false ∧ W.frozen? ⟨R, 1, none⟩ = false ∧ W.frozen? ⟨R, 2, none⟩ = false ∧ W.frozen? ⟨R, 3, none⟩ = false ∧ W.frozen? ⟨R, 4, none⟩ = false) ∧
        (W.cell? ⟨w4.heap.size, 0, none⟩ = some (.int .i64 uk) ∧ W.cell? ⟨w4.heap.size, 2, none⟩ = some (.string TU)) ∧
        W.heap[R]? = some (.cells #[.int .i64 vk, .int .i64 vn, .string T, .slice VA ll vb, .slice VB kk vd] 28 (0, 0)) ∧ VIs W W1.heap.size w2.heap.size v [.int .i64 vk, .int .i64 vn, .string T, .slice VA ll vb, .slice VB kk vd] ∧ w2.heap.size ≤ W.heap.size ∧ Below R w W := fun W hb => by
      have hq := blk_below Q3.out (l5.chain hb)
      have hq5 := blk_below q5 hb
      obtain ⟨p, f⟩ := box_of hq
      obtain ⟨⟨g0, -, g2, -, -⟩, -⟩ := box_of hq5
      exact ⟨p, f, ⟨g0, g2⟩, hq, V3.out.below ((l5.chain hb).mono N3), Nat.le_trans (Nat.le_trans N3 l5.size) hb.size, R3.out.trans ((l5.chain hb).mono (by have := R3.out.size; have := HR.out; omega))⟩
    have HW5 := Lib.hid hw5; have STH := Lib.hid ST
    clear hw5 g5 q5 l5 ST hb4 e0 e1 e2 e3 e4 f0 f1 f2 f3 f4 y0 y1 y2 y3 y4
    dsimp only
    go_upto_region 5 with fail
    rw [← HW5.out]
    obtain ⟨e0, e1, e2, e3, e4⟩ := (STH.out _ (Below.refl _ _)).1
    obtain ⟨f0, f1, f2, f3, f4⟩ := (STH.out _ (Below.refl _ _)).2.1
    obtain ⟨g0, g2⟩ := (STH.out _ (Below.refl _ _)).2.2.1
    by_cases hk4 : uk = 4
    · have d4 : (uk == 4) = true := by simp [hk4]
      have HNO := Lib.hid (HNO0.out (!tm) (by rw [hk4]; simp)); have HYES := Lib.hid (HYES0.out (!tm) (by rw [hk4]; simp))
      have HK4 := Lib.hid hk4; clear hk4 HNO0 HYES0
      by_cases hno : nonce = []
      · have d8 : (NO.toList == []) = true := by rw [← HNOc.out, bt_list]; simp [hno]
        go_wp2_with fail
        refine (HI1.out _ _ _ _ (STH.out _ (Below.refl _ _)).2.2.2.2.1 (STH.out _ (Below.refl _ _)).2.2.2.2.2.1).mono ?_
        rintro ea wa ⟨rfl, hbwa⟩
        have BA := Lib.hid (((Below.refl _ _)).chain hbwa); clear hbwa
        dsimp only
        clear e0 e1 e2 e3 e4 f0 f1 f2 f3 f4 g0 g2
        obtain ⟨e0, e1, e2, e3, e4⟩ := (STH.out _ BA.out).1
        obtain ⟨f0, f1, f2, f3, f4⟩ := (STH.out _ BA.out).2.1
        obtain ⟨g0, g2⟩ := (STH.out _ BA.out).2.2.1
        cases i1 with
        | false =>
          go_wp2
          obtain ⟨wf, hwf⟩ : ∃ wf, wf = set5 wa R 0 (.int .i64 0) (.int .i64 0) (.string ⟨#[]⟩) (.slice none 0 0) (.slice none 0 0) := ⟨_, rfl⟩
          change bodyPost _ _ _ _ _ (set5 wa R 0 (.int .i64 0) (.int .i64 0) (.string ⟨#[]⟩) (.slice none 0 0) (.slice none 0 0))
          rw [← hwf]
          have cx := (STH.out _ BA.out).2.2.2
          have hx : wf.heap[R]? = some (.cells #[.int .i64 0, .int .i64 0, .string ⟨#[]⟩, .slice none 0 0, .slice none 0 0] 28 (0, 0)) := by
            have := set5_here (o := 0) (c0 := .int .i64 0) (c1 := .int .i64 0) (c2 := .string ⟨#[]⟩) (c3 := .slice none 0 0) (c4 := .slice none 0 0) cx.1
            rw [hwf]; simpa using this
          have hbf : Below w.heap.size w wf := by rw [hwf, HR.out]; exact cx.2.2.2.trans (set5_below (Nat.le_refl _))
          obtain ⟨⟨x0, x1, x2, x3, x4⟩, -⟩ := box_of hx
          have HBF := Lib.hid hbf
          obtain rfl := HNO.out (.inl (by trivial))
          clear hbf hx hwf cx e0 e1 e2 e3 e4 f0 f1 f2 f3 f4 g0 g2
          refine bodyPost_ret (v := .tuple #[.string ⟨#[]⟩, .agg #[.int .i64 0, .int .i64 0, .string ⟨#[]⟩, .slice none 0 0, .slice none 0 0], .int .i64 9]) (by simp [results, Tryd.results13, go_sem, x0, x1, x2, x3, x4]) rfl ?_
          exact ⟨⟨[_, _, _, _, _], 0, 0, rfl, zero_visC _ _ _, Nat.zero_le _⟩, HBF.out⟩
        | true =>
          go_wp2_with fail
          refine (HI2.out _ _ _ _ (STH.out _ BA.out).2.2.2.2.1 (STH.out _ BA.out).2.2.2.2.2.1).mono ?_
          rintro eb wb ⟨rfl, hbwb⟩
          have BB := Lib.hid ((BA.out).chain hbwb); clear hbwb
          dsimp only
          clear e0 e1 e2 e3 e4 f0 f1 f2 f3 f4 g0 g2
          obtain ⟨e0, e1, e2, e3, e4⟩ := (STH.out _ BB.out).1
          obtain ⟨f0, f1, f2, f3, f4⟩ := (STH.out _ BB.out).2.1
          obtain ⟨g0, g2⟩ := (STH.out _ BB.out).2.2.1
          cases i2 with
          | false =>
            go_wp2
            obtain ⟨wf, hwf⟩ : ∃ wf, wf = set5 wb R 0 (.int .i64 0) (.int .i64 0) (.string ⟨#[]⟩) (.slice none 0 0) (.slice none 0 0) := ⟨_, rfl⟩
            change bodyPost _ _ _ _ _ (set5 wb R 0 (.int .i64 0) (.int .i64 0) (.string ⟨#[]⟩) (.slice none 0 0) (.slice none 0 0))
            rw [← hwf]
            have cx := (STH.out _ BB.out).2.2.2
            have hx : wf.heap[R]? = some (.cells #[.int .i64 0, .int .i64 0, .string ⟨#[]⟩, .slice none 0 0, .slice none 0 0] 28 (0, 0)) := by
              have := set5_here (o := 0) (c0 := .int .i64 0) (c1 := .int .i64 0) (c2 := .string ⟨#[]⟩) (c3 := .slice none 0 0) (c4 := .slice none 0 0) cx.1
              rw [hwf]; simpa using this
            have hbf : Below w.heap.size w wf := by rw [hwf, HR.out]; exact cx.2.2.2.trans (set5_below (Nat.le_refl _))
            obtain ⟨⟨x0, x1, x2, x3, x4⟩, -⟩ := box_of hx
            have HBF := Lib.hid hbf
            obtain rfl := HNO.out (.inr (.inl (by trivial)))
            clear hbf hx hwf cx e0 e1 e2 e3 e4 f0 f1 f2 f3 f4 g0 g2
            refine bodyPost_ret (v := .tuple #[.string ⟨#[]⟩, .agg #[.int .i64 0, .int .i64 0, .string ⟨#[]⟩, .slice none 0 0, .slice none 0 0], .int .i64 9]) (by simp [results, Tryd.results13, go_sem, x0, x1, x2, x3, x4]) rfl ?_
            exact ⟨⟨[_, _, _, _, _], 0, 0, rfl, zero_visC _ _ _, Nat.zero_le _⟩, HBF.out⟩
          | true =>
            cases tm with
            | true =>
              go_wp2
              obtain ⟨wf, hwf⟩ : ∃ wf, wf = set5 wb R 0 (.int .i64 0) (.int .i64 0) (.string ⟨#[]⟩) (.slice none 0 0) (.slice none 0 0) := ⟨_, rfl⟩
              change bodyPost _ _ _ _ _ (set5 wb R 0 (.int .i64 0) (.int .i64 0) (.string ⟨#[]⟩) (.slice none 0 0) (.slice none 0 0))
              rw [← hwf]
              have cx := (STH.out _ BB.out).2.2.2
              have hx : wf.heap[R]? = some (.cells #[.int .i64 0, .int .i64 0, .string ⟨#[]⟩, .slice none 0 0, .slice none 0 0] 28 (0, 0)) := by
                have := set5_here (o := 0) (c0 := .int .i64 0) (c1 := .int .i64 0) (c2 := .string ⟨#[]⟩) (c3 := .slice none 0 0) (c4 := .slice none 0 0) cx.1
                rw [hwf]; simpa using this
              have hbf : Below w.heap.size w wf := by rw [hwf, HR.out]; exact cx.2.2.2.trans (set5_below (Nat.le_refl _))
              obtain ⟨⟨x0, x1, x2, x3, x4⟩, -⟩ := box_of hx
              have HBF := Lib.hid hbf
              obtain rfl := HNO.out (.inr (.inr (.inl (by trivial))))
              clear hbf hx hwf cx e0 e1 e2 e3 e4 f0 f1 f2 f3 f4 g0 g2
              refine bodyPost_ret (v := .tuple #[.string ⟨#[]⟩, .agg #[.int .i64 0, .int .i64 0, .string ⟨#[]⟩, .slice none 0 0, .slice none 0 0], .int .i64 9]) (by simp [results, Tryd.results13, go_sem, x0, x1, x2, x3, x4]) rfl ?_
              exact ⟨⟨[_, _, _, _, _], 0, 0, rfl, zero_visC _ _ _, Nat.zero_le _⟩, HBF.out⟩
            | false =>
              go_wp2_with fail
              refine (HLA.out _ _ _ _ (STH.out _ BB.out).2.2.2.2.1 (STH.out _ BB.out).2.2.2.2.2.1).mono ?_
              rintro ec wc ⟨rfl, hbwc⟩
              have BC := Lib.hid ((BB.out).chain hbwc); clear hbwc
              dsimp only
              clear e0 e1 e2 e3 e4 f0 f1 f2 f3 f4 g0 g2
              obtain ⟨e0, e1, e2, e3, e4⟩ := (STH.out _ BC.out).1
              obtain ⟨f0, f1, f2, f3, f4⟩ := (STH.out _ BC.out).2.1
              obtain ⟨g0, g2⟩ := (STH.out _ BC.out).2.2.1
              cases i4 with
              | false =>
                go_wp2
                obtain ⟨wf, hwf⟩ : ∃ wf, wf = set5 wc R 0 (.int .i64 0) (.int .i64 0) (.string ⟨#[]⟩) (.slice none 0 0) (.slice none 0 0) := ⟨_, rfl⟩
                change bodyPost _ _ _ _ _ (set5 wc R 0 (.int .i64 0) (.int .i64 0) (.string ⟨#[]⟩) (.slice none 0 0) (.slice none 0 0))
                rw [← hwf]
                have cx := (STH.out _ BC.out).2.2.2
                have hx : wf.heap[R]? = some (.cells #[.int .i64 0, .int .i64 0, .string ⟨#[]⟩, .slice none 0 0, .slice none 0 0] 28 (0, 0)) := by
                  have := set5_here (o := 0) (c0 := .int .i64 0) (c1 := .int .i64 0) (c2 := .string ⟨#[]⟩) (c3 := .slice none 0 0) (c4 := .slice none 0 0) cx.1
                  rw [hwf]; simpa using this
                have hbf : Below w.heap.size w wf := by rw [hwf, HR.out]; exact cx.2.2.2.trans (set5_below (Nat.le_refl _))
                obtain ⟨⟨x0, x1, x2, x3, x4⟩, -⟩ := box_of hx
                have HBF := Lib.hid hbf
                obtain rfl := HNO.out (.inr (.inr (.inr (.inl (by trivial)))))
                clear hbf hx hwf cx e0 e1 e2 e3 e4 f0 f1 f2 f3 f4 g0 g2
                refine bodyPost_ret (v := .tuple #[.string ⟨#[]⟩, .agg #[.int .i64 0, .int .i64 0, .string ⟨#[]⟩, .slice none 0 0, .slice none 0 0], .int .i64 9]) (by simp [results, Tryd.results13, go_sem, x0, x1, x2, x3, x4]) rfl ?_
                exact ⟨⟨[_, _, _, _, _], 0, 0, rfl, zero_visC _ _ _, Nat.zero_le _⟩, HBF.out⟩
              | true =>
                go_upto_region 9 with fail
                obtain ⟨wf, hwf⟩ : ∃ wf, wf = set5 wc R 0 (.int .i64 vk) (.int .i64 vn) (.string T) (.slice VA ll vb) (.slice VB kk vd) := ⟨_, rfl⟩
                have cx := (STH.out _ BC.out).2.2.2
                have hx : wf.heap[R]? = some (.cells #[.int .i64 vk, .int .i64 vn, .string T, .slice VA ll vb, .slice VB kk vd] 28 (0, 0)) := by
                  have := set5_here (o := 0) (c0 := .int .i64 vk) (c1 := .int .i64 vn) (c2 := .string T) (c3 := .slice VA ll vb) (c4 := .slice VB kk vd) cx.1
                  rw [hwf]; simpa using this
                have hbf : Below w.heap.size w wf := by rw [hwf, HR.out]; exact cx.2.2.2.trans (set5_below (Nat.le_refl _))
                have hvf : VIs wf W1.heap.size w2.heap.size v [.int .i64 vk, .int .i64 vn, .string T, .slice VA ll vb, .slice VB kk vd] := cx.2.1.keep2 fun q q1 q2 => World.cell?_of_block (by rw [hwf]; exact set5_there (by have := Z1.out; omega))
                have hnf : w2.heap.size ≤ wf.heap.size := by rw [hwf, set5_size]; exact cx.2.2.1
                obtain ⟨⟨x0, x1, x2, x3, x4⟩, -⟩ := box_of hx
                have HBF := Lib.hid hbf; have HVF := Lib.hid hvf; have HNF := Lib.hid hnf; have HWF := Lib.hid hwf
                obtain rfl := HYES.out (by trivial) (by trivial) (by trivial) (by trivial) (.inl hno)
                go_region
                all_goals
                  go_wp2
                  change bodyPost _ _ _ _ _ (set5 wc R 0 (.int .i64 vk) (.int .i64 vn) (.string T) (.slice VA ll vb) (.slice VB kk vd)).drew
                  rw [← HWF.out]
                  have y0 : wf.drew.cell? ⟨R, 0, none⟩ = some (.int .i64 vk) := x0
                  have y1 : wf.drew.cell? ⟨R, 1, none⟩ = some (.int .i64 vn) := x1
                  have y2 : wf.drew.cell? ⟨R, 2, none⟩ = some (.string T) := x2
                  have y3 : wf.drew.cell? ⟨R, 3, none⟩ = some (.slice VA ll vb) := x3
                  have y4 : wf.drew.cell? ⟨R, 4, none⟩ = some (.slice VB kk vd) := x4
                  clear hbf hvf hnf hx hwf cx e0 e1 e2 e3 e4 f0 f1 f2 f3 f4 g0 g2 x0 x1 x2 x3 x4
                  refine bodyPost_ret (v := .tuple #[.string TU, .agg #[.int .i64 vk, .int .i64 vn, .string T, .slice VA ll vb, .slice VB kk vd], .int .i64 0]) (by simp [results, Tryd.results13, go_sem, y0, y1, y2, y3, y4]) rfl ?_
                  exact ⟨⟨[_, _, _, _, _], W1.heap.size, w2.heap.size, by rw [HTU.out], VIs.keep (w := wf) (w' := wf.drew) (fun _ _ => rfl) HVF.out, HNF.out⟩, HBF.out.drew⟩
      · have d8 : (NO.toList == []) = false := by rw [← HNOc.out, bt_list]; simp [hno]
        go_wp2_with fail
        refine (HI3.out _ _ _ _ (STH.out _ (Below.refl _ _)).2.2.2.2.1 (STH.out _ (Below.refl _ _)).2.2.2.2.2.1).mono ?_
        rintro e6 w6 ⟨rfl, hbw6⟩
        have B6 := Lib.hid (((Below.refl _ _)).chain hbw6); clear hbw6
        dsimp only
        clear e0 e1 e2 e3 e4 f0 f1 f2 f3 f4 g0 g2
        obtain ⟨e0, e1, e2, e3, e4⟩ := (STH.out _ B6.out).1
        obtain ⟨f0, f1, f2, f3, f4⟩ := (STH.out _ B6.out).2.1
        obtain ⟨g0, g2⟩ := (STH.out _ B6.out).2.2.1
        go_wp2_with fail
        refine (HI1.out _ _ _ _ (STH.out _ B6.out).2.2.2.2.1 (STH.out _ B6.out).2.2.2.2.2.1).mono ?_
        rintro ea wa ⟨rfl, hbwa⟩
        have BA := Lib.hid ((B6.out).chain hbwa); clear hbwa
        dsimp only
        clear e0 e1 e2 e3 e4 f0 f1 f2 f3 f4 g0 g2
        obtain ⟨e0, e1, e2, e3, e4⟩ := (STH.out _ BA.out).1
        obtain ⟨f0, f1, f2, f3, f4⟩ := (STH.out _ BA.out).2.1
        obtain ⟨g0, g2⟩ := (STH.out _ BA.out).2.2.1
        cases i1 with
        | false =>
          go_wp2
          obtain ⟨wf, hwf⟩ : ∃ wf, wf = set5 wa R 0 (.int .i64 0) (.int .i64 0) (.string ⟨#[]⟩) (.slice none 0 0) (.slice none 0 0) := ⟨_, rfl⟩
          change bodyPost _ _ _ _ _ (set5 wa R 0 (.int .i64 0) (.int .i64 0) (.string ⟨#[]⟩) (.slice none 0 0) (.slice none 0 0))
          rw [← hwf]
          have cx := (STH.out _ BA.out).2.2.2
          have hx : wf.heap[R]? = some (.cells #[.int .i64 0, .int .i64 0, .string ⟨#[]⟩, .slice none 0 0, .slice none 0 0] 28 (0, 0)) := by
            have := set5_here (o := 0) (c0 := .int .i64 0) (c1 := .int .i64 0) (c2 := .string ⟨#[]⟩) (c3 := .slice none 0 0) (c4 := .slice none 0 0) cx.1
            rw [hwf]; simpa using this
          have hbf : Below w.heap.size w wf := by rw [hwf, HR.out]; exact cx.2.2.2.trans (set5_below (Nat.le_refl _))
          obtain ⟨⟨x0, x1, x2, x3, x4⟩, -⟩ := box_of hx
          have HBF := Lib.hid hbf
          obtain rfl := HNO.out (.inl (by trivial))
          clear hbf hx hwf cx e0 e1 e2 e3 e4 f0 f1 f2 f3 f4 g0 g2
          refine bodyPost_ret (v := .tuple #[.string ⟨#[]⟩, .agg #[.int .i64 0, .int .i64 0, .string ⟨#[]⟩, .slice none 0 0, .slice none 0 0], .int .i64 9]) (by simp [results, Tryd.results13, go_sem, x0, x1, x2, x3, x4]) rfl ?_
          exact ⟨⟨[_, _, _, _, _], 0, 0, rfl, zero_visC _ _ _, Nat.zero_le _⟩, HBF.out⟩
        | true =>
          go_wp2_with fail
          refine (HI2.out _ _ _ _ (STH.out _ BA.out).2.2.2.2.1 (STH.out _ BA.out).2.2.2.2.2.1).mono ?_
          rintro eb wb ⟨rfl, hbwb⟩
          have BB := Lib.hid ((BA.out).chain hbwb); clear hbwb
          dsimp only
          clear e0 e1 e2 e3 e4 f0 f1 f2 f3 f4 g0 g2
          obtain ⟨e0, e1, e2, e3, e4⟩ := (STH.out _ BB.out).1
          obtain ⟨f0, f1, f2, f3, f4⟩ := (STH.out _ BB.out).2.1
          obtain ⟨g0, g2⟩ := (STH.out _ BB.out).2.2.1
          cases i2 with
          | false =>
            go_wp2
            obtain ⟨wf, hwf⟩ : ∃ wf, wf = set5 wb R 0 (.int .i64 0) (.int .i64 0) (.string ⟨#[]⟩) (.slice none 0 0) (.slice none 0 0) := ⟨_, rfl⟩
            change bodyPost _ _ _ _ _ (set5 wb R 0 (.int .i64 0) (.int .i64 0) (.string ⟨#[]⟩) (.slice none 0 0) (.slice none 0 0))
            rw [← hwf]
            have cx := (STH.out _ BB.out).2.2.2
            have hx : wf.heap[R]? = some (.cells #[.int .i64 0, .int .i64 0, .string ⟨#[]⟩, .slice none 0 0, .slice none 0 0] 28 (0, 0)) := by
              have := set5_here (o := 0) (c0 := .int .i64 0) (c1 := .int .i64 0) (c2 := .string ⟨#[]⟩) (c3 := .slice none 0 0) (c4 := .slice none 0 0) cx.1
              rw [hwf]; simpa using this
            have hbf : Below w.heap.size w wf := by rw [hwf, HR.out]; exact cx.2.2.2.trans (set5_below (Nat.le_refl _))
            obtain ⟨⟨x0, x1, x2, x3, x4⟩, -⟩ := box_of hx
            have HBF := Lib.hid hbf
            obtain rfl := HNO.out (.inr (.inl (by trivial)))
            clear hbf hx hwf cx e0 e1 e2 e3 e4 f0 f1 f2 f3 f4 g0 g2
            refine bodyPost_ret (v := .tuple #[.string ⟨#[]⟩, .agg #[.int .i64 0, .int .i64 0, .string ⟨#[]⟩, .slice none 0 0, .slice none 0 0], .int .i64 9]) (by simp [results, Tryd.results13, go_sem, x0, x1, x2, x3, x4]) rfl ?_
            exact ⟨⟨[_, _, _, _, _], 0, 0, rfl, zero_visC _ _ _, Nat.zero_le _⟩, HBF.out⟩
          | true =>
            cases tm with
            | true =>
              go_wp2
              obtain ⟨wf, hwf⟩ : ∃ wf, wf = set5 wb R 0 (.int .i64 0) (.int .i64 0) (.string ⟨#[]⟩) (.slice none 0 0) (.slice none 0 0) := ⟨_, rfl⟩
              change bodyPost _ _ _ _ _ (set5 wb R 0 (.int .i64 0) (.int .i64 0) (.string ⟨#[]⟩) (.slice none 0 0) (.slice none 0 0))
              rw [← hwf]
              have cx := (STH.out _ BB.out).2.2.2
              have hx : wf.heap[R]? = some (.cells #[.int .i64 0, .int .i64 0, .string ⟨#[]⟩, .slice none 0 0, .slice none 0 0] 28 (0, 0)) := by
                have := set5_here (o := 0) (c0 := .int .i64 0) (c1 := .int .i64 0) (c2 := .string ⟨#[]⟩) (c3 := .slice none 0 0) (c4 := .slice none 0 0) cx.1
                rw [hwf]; simpa using this
              have hbf : Below w.heap.size w wf := by rw [hwf, HR.out]; exact cx.2.2.2.trans (set5_below (Nat.le_refl _))
              obtain ⟨⟨x0, x1, x2, x3, x4⟩, -⟩ := box_of hx
              have HBF := Lib.hid hbf
              obtain rfl := HNO.out (.inr (.inr (.inl (by trivial))))
              clear hbf hx hwf cx e0 e1 e2 e3 e4 f0 f1 f2 f3 f4 g0 g2
              refine bodyPost_ret (v := .tuple #[.string ⟨#[]⟩, .agg #[.int .i64 0, .int .i64 0, .string ⟨#[]⟩, .slice none 0 0, .slice none 0 0], .int .i64 9]) (by simp [results, Tryd.results13, go_sem, x0, x1, x2, x3, x4]) rfl ?_
              exact ⟨⟨[_, _, _, _, _], 0, 0, rfl, zero_visC _ _ _, Nat.zero_le _⟩, HBF.out⟩
            | false =>
              go_wp2_with fail
              refine (HLA.out _ _ _ _ (STH.out _ BB.out).2.2.2.2.1 (STH.out _ BB.out).2.2.2.2.2.1).mono ?_
              rintro ec wc ⟨rfl, hbwc⟩
              have BC := Lib.hid ((BB.out).chain hbwc); clear hbwc
              dsimp only
              clear e0 e1 e2 e3 e4 f0 f1 f2 f3 f4 g0 g2
              obtain ⟨e0, e1, e2, e3, e4⟩ := (STH.out _ BC.out).1
              obtain ⟨f0, f1, f2, f3, f4⟩ := (STH.out _ BC.out).2.1
              obtain ⟨g0, g2⟩ := (STH.out _ BC.out).2.2.1
              cases i4 with
              | false =>
                go_wp2
                obtain ⟨wf, hwf⟩ : ∃ wf, wf = set5 wc R 0 (.int .i64 0) (.int .i64 0) (.string ⟨#[]⟩) (.slice none 0 0) (.slice none 0 0) := ⟨_, rfl⟩
                change bodyPost _ _ _ _ _ (set5 wc R 0 (.int .i64 0) (.int .i64 0) (.string ⟨#[]⟩) (.slice none 0 0) (.slice none 0 0))
                rw [← hwf]
                have cx := (STH.out _ BC.out).2.2.2
                have hx : wf.heap[R]? = some (.cells #[.int .i64 0, .int .i64 0, .string ⟨#[]⟩, .slice none 0 0, .slice none 0 0] 28 (0, 0)) := by
                  have := set5_here (o := 0) (c0 := .int .i64 0) (c1 := .int .i64 0) (c2 := .string ⟨#[]⟩) (c3 := .slice none 0 0) (c4 := .slice none 0 0) cx.1
                  rw [hwf]; simpa using this
                have hbf : Below w.heap.size w wf := by rw [hwf, HR.out]; exact cx.2.2.2.trans (set5_below (Nat.le_refl _))
                obtain ⟨⟨x0, x1, x2, x3, x4⟩, -⟩ := box_of hx
                have HBF := Lib.hid hbf
                obtain rfl := HNO.out (.inr (.inr (.inr (.inl (by trivial)))))
                clear hbf hx hwf cx e0 e1 e2 e3 e4 f0 f1 f2 f3 f4 g0 g2
                refine bodyPost_ret (v := .tuple #[.string ⟨#[]⟩, .agg #[.int .i64 0, .int .i64 0, .string ⟨#[]⟩, .slice none 0 0, .slice none 0 0], .int .i64 9]) (by simp [results, Tryd.results13, go_sem, x0, x1, x2, x3, x4]) rfl ?_
                exact ⟨⟨[_, _, _, _, _], 0, 0, rfl, zero_visC _ _ _, Nat.zero_le _⟩, HBF.out⟩
              | true =>
                cases i3 with
                | false =>
                  go_wp2
                  obtain ⟨wf, hwf⟩ : ∃ wf, wf = set5 wc R 0 (.int .i64 0) (.int .i64 0) (.string ⟨#[]⟩) (.slice none 0 0) (.slice none 0 0) := ⟨_, rfl⟩
                  change bodyPost _ _ _ _ _ (set5 wc R 0 (.int .i64 0) (.int .i64 0) (.string ⟨#[]⟩) (.slice none 0 0) (.slice none 0 0))
                  rw [← hwf]
                  have cx := (STH.out _ BC.out).2.2.2
                  have hx : wf.heap[R]? = some (.cells #[.int .i64 0, .int .i64 0, .string ⟨#[]⟩, .slice none 0 0, .slice none 0 0] 28 (0, 0)) := by
                    have := set5_here (o := 0) (c0 := .int .i64 0) (c1 := .int .i64 0) (c2 := .string ⟨#[]⟩) (c3 := .slice none 0 0) (c4 := .slice none 0 0) cx.1
                    rw [hwf]; simpa using this
                  have hbf : Below w.heap.size w wf := by rw [hwf, HR.out]; exact cx.2.2.2.trans (set5_below (Nat.le_refl _))
                  obtain ⟨⟨x0, x1, x2, x3, x4⟩, -⟩ := box_of hx
                  have HBF := Lib.hid hbf
                  obtain rfl := HNO.out (.inr (.inr (.inr (.inr ⟨hno, by trivial⟩))))
                  clear hbf hx hwf cx e0 e1 e2 e3 e4 f0 f1 f2 f3 f4 g0 g2
                  refine bodyPost_ret (v := .tuple #[.string ⟨#[]⟩, .agg #[.int .i64 0, .int .i64 0, .string ⟨#[]⟩, .slice none 0 0, .slice none 0 0], .int .i64 9]) (by simp [results, Tryd.results13, go_sem, x0, x1, x2, x3, x4]) rfl ?_
                  exact ⟨⟨[_, _, _, _, _], 0, 0, rfl, zero_visC _ _ _, Nat.zero_le _⟩, HBF.out⟩
                | true =>
                  go_upto_region 9 with fail
                  obtain ⟨wf, hwf⟩ : ∃ wf, wf = set5 wc R 0 (.int .i64 vk) (.int .i64 vn) (.string T) (.slice VA ll vb) (.slice VB kk vd) := ⟨_, rfl⟩
                  have cx := (STH.out _ BC.out).2.2.2
                  have hx : wf.heap[R]? = some (.cells #[.int .i64 vk, .int .i64 vn, .string T, .slice VA ll vb, .slice VB kk vd] 28 (0, 0)) := by
                    have := set5_here (o := 0) (c0 := .int .i64 vk) (c1 := .int .i64 vn) (c2 := .string T) (c3 := .slice VA ll vb) (c4 := .slice VB kk vd) cx.1
                    rw [hwf]; simpa using this
                  have hbf : Below w.heap.size w wf := by rw [hwf, HR.out]; exact cx.2.2.2.trans (set5_below (Nat.le_refl _))
                  have hvf : VIs wf W1.heap.size w2.heap.size v [.int .i64 vk, .int .i64 vn, .string T, .slice VA ll vb, .slice VB kk vd] := cx.2.1.keep2 fun q q1 q2 => World.cell?_of_block (by rw [hwf]; exact set5_there (by have := Z1.out; omega))
                  have hnf : w2.heap.size ≤ wf.heap.size := by rw [hwf, set5_size]; exact cx.2.2.1
                  obtain ⟨⟨x0, x1, x2, x3, x4⟩, -⟩ := box_of hx
                  have HBF := Lib.hid hbf; have HVF := Lib.hid hvf; have HNF := Lib.hid hnf; have HWF := Lib.hid hwf
                  obtain rfl := HYES.out (by trivial) (by trivial) (by trivial) (by trivial) (.inr (by trivial))
                  go_region
                  all_goals
                    go_wp2
                    change bodyPost _ _ _ _ _ (set5 wc R 0 (.int .i64 vk) (.int .i64 vn) (.string T) (.slice VA ll vb) (.slice VB kk vd)).drew
                    rw [← HWF.out]
                    have y0 : wf.drew.cell? ⟨R, 0, none⟩ = some (.int .i64 vk) := x0
                    have y1 : wf.drew.cell? ⟨R, 1, none⟩ = some (.int .i64 vn) := x1
                    have y2 : wf.drew.cell? ⟨R, 2, none⟩ = some (.string T) := x2
                    have y3 : wf.drew.cell? ⟨R, 3, none⟩ = some (.slice VA ll vb) := x3
                    have y4 : wf.drew.cell? ⟨R, 4, none⟩ = some (.slice VB kk vd) := x4
                    clear hbf hvf hnf hx hwf cx e0 e1 e2 e3 e4 f0 f1 f2 f3 f4 g0 g2 x0 x1 x2 x3 x4
                    refine bodyPost_ret (v := .tuple #[.string TU, .agg #[.int .i64 vk, .int .i64 vn, .string T, .slice VA ll vb, .slice VB kk vd], .int .i64 0]) (by simp [results, Tryd.results13, go_sem, y0, y1, y2, y3, y4]) rfl ?_
                    exact ⟨⟨[_, _, _, _, _], W1.heap.size, w2.heap.size, by rw [HTU.out], VIs.keep (w := wf) (w' := wf.drew) (fun _ _ => rfl) HVF.out, HNF.out⟩, HBF.out.drew⟩
    · have d4 : (uk == 4) = false := by simp [hk4]
      have HNO := Lib.hid (HNO0.out false (by simp [hk4]))
      clear hk4 HNO0 HYES0
      by_cases hno : nonce = []
      · have d8 : (NO.toList == []) = true := by rw [← HNOc.out, bt_list]; simp [hno]
        go_wp2_with fail
        refine (HI1.out _ _ _ _ (STH.out _ (Below.refl _ _)).2.2.2.2.1 (STH.out _ (Below.refl _ _)).2.2.2.2.2.1).mono ?_
        rintro ea wa ⟨rfl, hbwa⟩
        have BA := Lib.hid (((Below.refl _ _)).chain hbwa); clear hbwa
        dsimp only
        clear e0 e1 e2 e3 e4 f0 f1 f2 f3 f4 g0 g2
        obtain ⟨e0, e1, e2, e3, e4⟩ := (STH.out _ BA.out).1
        obtain ⟨f0, f1, f2, f3, f4⟩ := (STH.out _ BA.out).2.1
        obtain ⟨g0, g2⟩ := (STH.out _ BA.out).2.2.1
        cases i1 with
        | false =>
          go_wp2
          obtain ⟨wf, hwf⟩ : ∃ wf, wf = set5 wa R 0 (.int .i64 0) (.int .i64 0) (.string ⟨#[]⟩) (.slice none 0 0) (.slice none 0 0) := ⟨_, rfl⟩
          change bodyPost _ _ _ _ _ (set5 wa R 0 (.int .i64 0) (.int .i64 0) (.string ⟨#[]⟩) (.slice none 0 0) (.slice none 0 0))
          rw [← hwf]
          have cx := (STH.out _ BA.out).2.2.2
          have hx : wf.heap[R]? = some (.cells #[.int .i64 0, .int .i64 0, .string ⟨#[]⟩, .slice none 0 0, .slice none 0 0] 28 (0, 0)) := by
            have := set5_here (o := 0) (c0 := .int .i64 0) (c1 := .int .i64 0) (c2 := .string ⟨#[]⟩) (c3 := .slice none 0 0) (c4 := .slice none 0 0) cx.1
            rw [hwf]; simpa using this
          have hbf : Below w.heap.size w wf := by rw [hwf, HR.out]; exact cx.2.2.2.trans (set5_below (Nat.le_refl _))
          obtain ⟨⟨x0, x1, x2, x3, x4⟩, -⟩ := box_of hx
          have HBF := Lib.hid hbf
          obtain rfl := HNO.out (.inl (by trivial))
          clear hbf hx hwf cx e0 e1 e2 e3 e4 f0 f1 f2 f3 f4 g0 g2
          refine bodyPost_ret (v := .tuple #[.string ⟨#[]⟩, .agg #[.int .i64 0, .int .i64 0, .string ⟨#[]⟩, .slice none 0 0, .slice none 0 0], .int .i64 9]) (by simp [results, Tryd.results13, go_sem, x0, x1, x2, x3, x4]) rfl ?_
          exact ⟨⟨[_, _, _, _, _], 0, 0, rfl, zero_visC _ _ _, Nat.zero_le _⟩, HBF.out⟩
        | true =>
          go_wp2_with fail
          refine (HI2.out _ _ _ _ (STH.out _ BA.out).2.2.2.2.1 (STH.out _ BA.out).2.2.2.2.2.1).mono ?_
          rintro eb wb ⟨rfl, hbwb⟩
          have BB := Lib.hid ((BA.out).chain hbwb); clear hbwb
          dsimp only
          clear e0 e1 e2 e3 e4 f0 f1 f2 f3 f4 g0 g2
          obtain ⟨e0, e1, e2, e3, e4⟩ := (STH.out _ BB.out).1
          obtain ⟨f0, f1, f2, f3, f4⟩ := (STH.out _ BB.out).2.1
          obtain ⟨g0, g2⟩ := (STH.out _ BB.out).2.2.1
          cases i2 with
          | false =>
            go_wp2
            obtain ⟨wf, hwf⟩ : ∃ wf, wf = set5 wb R 0 (.int .i64 0) (.int .i64 0) (.string ⟨#[]⟩) (.slice none 0 0) (.slice none 0 0) := ⟨_, rfl⟩
            change bodyPost _ _ _ _ _ (set5 wb R 0 (.int .i64 0) (.int .i64 0) (.string ⟨#[]⟩) (.slice none 0 0) (.slice none 0 0))
            rw [← hwf]
            have cx := (STH.out _ BB.out).2.2.2
            have hx : wf.heap[R]? = some (.cells #[.int .i64 0, .int .i64 0, .string ⟨#[]⟩, .slice none 0 0, .slice none 0 0] 28 (0, 0)) := by
              have := set5_here (o := 0) (c0 := .int .i64 0) (c1 := .int .i64 0) (c2 := .string ⟨#[]⟩) (c3 := .slice none 0 0) (c4 := .slice none 0 0) cx.1
              rw [hwf]; simpa using this
            have hbf : Below w.heap.size w wf := by rw [hwf, HR.out]; exact cx.2.2.2.trans (set5_below (Nat.le_refl _))
            obtain ⟨⟨x0, x1, x2, x3, x4⟩, -⟩ := box_of hx
            have HBF := Lib.hid hbf
            obtain rfl := HNO.out (.inr (.inl (by trivial)))
            clear hbf hx hwf cx e0 e1 e2 e3 e4 f0 f1 f2 f3 f4 g0 g2
            refine bodyPost_ret (v := .tuple #[.string ⟨#[]⟩, .agg #[.int .i64 0, .int .i64 0, .string ⟨#[]⟩, .slice none 0 0, .slice none 0 0], .int .i64 9]) (by simp [results, Tryd.results13, go_sem, x0, x1, x2, x3, x4]) rfl ?_
            exact ⟨⟨[_, _, _, _, _], 0, 0, rfl, zero_visC _ _ _, Nat.zero_le _⟩, HBF.out⟩
          | true =>
            go_wp2
            obtain ⟨wf, hwf⟩ : ∃ wf, wf = set5 wb R 0 (.int .i64 0) (.int .i64 0) (.string ⟨#[]⟩) (.slice none 0 0) (.slice none 0 0) := ⟨_, rfl⟩
            change bodyPost _ _ _ _ _ (set5 wb R 0 (.int .i64 0) (.int .i64 0) (.string ⟨#[]⟩) (.slice none 0 0) (.slice none 0 0))
            rw [← hwf]
            have cx := (STH.out _ BB.out).2.2.2
            have hx : wf.heap[R]? = some (.cells #[.int .i64 0, .int .i64 0, .string ⟨#[]⟩, .slice none 0 0, .slice none 0 0] 28 (0, 0)) := by
              have := set5_here (o := 0) (c0 := .int .i64 0) (c1 := .int .i64 0) (c2 := .string ⟨#[]⟩) (c3 := .slice none 0 0) (c4 := .slice none 0 0) cx.1
              rw [hwf]; simpa using this
            have hbf : Below w.heap.size w wf := by rw [hwf, HR.out]; exact cx.2.2.2.trans (set5_below (Nat.le_refl _))
            obtain ⟨⟨x0, x1, x2, x3, x4⟩, -⟩ := box_of hx
            have HBF := Lib.hid hbf
            obtain rfl := HNO.out (.inr (.inr (.inl (by trivial))))
            clear hbf hx hwf cx e0 e1 e2 e3 e4 f0 f1 f2 f3 f4 g0 g2
            refine bodyPost_ret (v := .tuple #[.string ⟨#[]⟩, .agg #[.int .i64 0, .int .i64 0, .string ⟨#[]⟩, .slice none 0 0, .slice none 0 0], .int .i64 9]) (by simp [results, Tryd.results13, go_sem, x0, x1, x2, x3, x4]) rfl ?_
            exact ⟨⟨[_, _, _, _, _], 0, 0, rfl, zero_visC _ _ _, Nat.zero_le _⟩, HBF.out⟩
      · have d8 : (NO.toList == []) = false := by rw [← HNOc.out, bt_list]; simp [hno]
        go_wp2_with fail
        refine (HI3.out _ _ _ _ (STH.out _ (Below.refl _ _)).2.2.2.2.1 (STH.out _ (Below.refl _ _)).2.2.2.2.2.1).mono ?_
        rintro e6 w6 ⟨rfl, hbw6⟩
        have B6 := Lib.hid (((Below.refl _ _)).chain hbw6); clear hbw6
        dsimp only
        clear e0 e1 e2 e3 e4 f0 f1 f2 f3 f4 g0 g2
        obtain ⟨e0, e1, e2, e3, e4⟩ := (STH.out _ B6.out).1
        obtain ⟨f0, f1, f2, f3, f4⟩ := (STH.out _ B6.out).2.1
        obtain ⟨g0, g2⟩ := (STH.out _ B6.out).2.2.1
        go_wp2_with fail
        refine (HI1.out _ _ _ _ (STH.out _ B6.out).2.2.2.2.1 (STH.out _ B6.out).2.2.2.2.2.1).mono ?_
        rintro ea wa ⟨rfl, hbwa⟩
        have BA := Lib.hid ((B6.out).chain hbwa); clear hbwa
        dsimp only
        clear e0 e1 e2 e3 e4 f0 f1 f2 f3 f4 g0 g2
        obtain ⟨e0, e1, e2, e3, e4⟩ := (STH.out _ BA.out).1
        obtain ⟨f0, f1, f2, f3, f4⟩ := (STH.out _ BA.out).2.1
        obtain ⟨g0, g2⟩ := (STH.out _ BA.out).2.2.1
        cases i1 with
        | false =>
          go_wp2
          obtain ⟨wf, hwf⟩ : ∃ wf, wf = set5 wa R 0 (.int .i64 0) (.int .i64 0) (.string ⟨#[]⟩) (.slice none 0 0) (.slice none 0 0) := ⟨_, rfl⟩
          change bodyPost _ _ _ _ _ (set5 wa R 0 (.int .i64 0) (.int .i64 0) (.string ⟨#[]⟩) (.slice none 0 0) (.slice none 0 0))
          rw [← hwf]
          have cx := (STH.out _ BA.out).2.2.2
          have hx : wf.heap[R]? = some (.cells #[.int .i64 0, .int .i64 0, .string ⟨#[]⟩, .slice none 0 0, .slice none 0 0] 28 (0, 0)) := by
            have := set5_here (o := 0) (c0 := .int .i64 0) (c1 := .int .i64 0) (c2 := .string ⟨#[]⟩) (c3 := .slice none 0 0) (c4 := .slice none 0 0) cx.1
            rw [hwf]; simpa using this
          have hbf : Below w.heap.size w wf := by rw [hwf, HR.out]; exact cx.2.2.2.trans (set5_below (Nat.le_refl _))
          obtain ⟨⟨x0, x1, x2, x3, x4⟩, -⟩ := box_of hx
          have HBF := Lib.hid hbf
          obtain rfl := HNO.out (.inl (by trivial))
          clear hbf hx hwf cx e0 e1 e2 e3 e4 f0 f1 f2 f3 f4 g0 g2
          refine bodyPost_ret (v := .tuple #[.string ⟨#[]⟩, .agg #[.int .i64 0, .int .i64 0, .string ⟨#[]⟩, .slice none 0 0, .slice none 0 0], .int .i64 9]) (by simp [results, Tryd.results13, go_sem, x0, x1, x2, x3, x4]) rfl ?_
          exact ⟨⟨[_, _, _, _, _], 0, 0, rfl, zero_visC _ _ _, Nat.zero_le _⟩, HBF.out⟩
        | true =>
          go_wp2_with fail
          refine (HI2.out _ _ _ _ (STH.out _ BA.out).2.2.2.2.1 (STH.out _ BA.out).2.2.2.2.2.1).mono ?_
          rintro eb wb ⟨rfl, hbwb⟩
          have BB := Lib.hid ((BA.out).chain hbwb); clear hbwb
          dsimp only
          clear e0 e1 e2 e3 e4 f0 f1 f2 f3 f4 g0 g2
          obtain ⟨e0, e1, e2, e3, e4⟩ := (STH.out _ BB.out).1
          obtain ⟨f0, f1, f2, f3, f4⟩ := (STH.out _ BB.out).2.1
          obtain ⟨g0, g2⟩ := (STH.out _ BB.out).2.2.1
          cases i2 with
          | false =>
            go_wp2
            obtain ⟨wf, hwf⟩ : ∃ wf, wf = set5 wb R 0 (.int .i64 0) (.int .i64 0) (.string ⟨#[]⟩) (.slice none 0 0) (.slice none 0 0) := ⟨_, rfl⟩
            change bodyPost _ _ _ _ _ (set5 wb R 0 (.int .i64 0) (.int .i64 0) (.string ⟨#[]⟩) (.slice none 0 0) (.slice none 0 0))
            rw [← hwf]
            have cx := (STH.out _ BB.out).2.2.2
            have hx : wf.heap[R]? = some (.cells #[.int .i64 0, .int .i64 0, .string ⟨#[]⟩, .slice none 0 0, .slice none 0 0] 28 (0, 0)) := by
              have := set5_here (o := 0) (c0 := .int .i64 0) (c1 := .int .i64 0) (c2 := .string ⟨#[]⟩) (c3 := .slice none 0 0) (c4 := .slice none 0 0) cx.1
              rw [hwf]; simpa using this
            have hbf : Below w.heap.size w wf := by rw [hwf, HR.out]; exact cx.2.2.2.trans (set5_below (Nat.le_refl _))
            obtain ⟨⟨x0, x1, x2, x3, x4⟩, -⟩ := box_of hx
            have HBF := Lib.hid hbf
            obtain rfl := HNO.out (.inr (.inl (by trivial)))
            clear hbf hx hwf cx e0 e1 e2 e3 e4 f0 f1 f2 f3 f4 g0 g2
            refine bodyPost_ret (v := .tuple #[.string ⟨#[]⟩, .agg #[.int .i64 0, .int .i64 0, .string ⟨#[]⟩, .slice none 0 0, .slice none 0 0], .int .i64 9]) (by simp [results, Tryd.results13, go_sem, x0, x1, x2, x3, x4]) rfl ?_
            exact ⟨⟨[_, _, _, _, _], 0, 0, rfl, zero_visC _ _ _, Nat.zero_le _⟩, HBF.out⟩
          | true =>
            go_wp2
            obtain ⟨wf, hwf⟩ : ∃ wf, wf = set5 wb R 0 (.int .i64 0) (.int .i64 0) (.string ⟨#[]⟩) (.slice none 0 0) (.slice none 0 0) := ⟨_, rfl⟩
            change bodyPost _ _ _ _ _ (set5 wb R 0 (.int .i64 0) (.int .i64 0) (.string ⟨#[]⟩) (.slice none 0 0) (.slice none 0 0))
            rw [← hwf]
            have cx := (STH.out _ BB.out).2.2.2
            have hx : wf.heap[R]? = some (.cells #[.int .i64 0, .int .i64 0, .string ⟨#[]⟩, .slice none 0 0, .slice none 0 0] 28 (0, 0)) := by
              have := set5_here (o := 0) (c0 := .int .i64 0) (c1 := .int .i64 0) (c2 := .string ⟨#[]⟩) (c3 := .slice none 0 0) (c4 := .slice none 0 0) cx.1
              rw [hwf]; simpa using this
            have hbf : Below w.heap.size w wf := by rw [hwf, HR.out]; exact cx.2.2.2.trans (set5_below (Nat.le_refl _))
            obtain ⟨⟨x0, x1, x2, x3, x4⟩, -⟩ := box_of hx
            have HBF := Lib.hid hbf
            obtain rfl := HNO.out (.inr (.inr (.inl (by trivial))))
            clear hbf hx hwf cx e0 e1 e2 e3 e4 f0 f1 f2 f3 f4 g0 g2
            refine bodyPost_ret (v := .tuple #[.string ⟨#[]⟩, .agg #[.int .i64 0, .int .i64 0, .string ⟨#[]⟩, .slice none 0 0, .slice none 0 0], .int .i64 9]) (by simp [results, Tryd.results13, go_sem, x0, x1, x2, x3, x4]) rfl ?_
            exact ⟨⟨[_, _, _, _, _], 0, 0, rfl, zero_visC _ _ _, Nat.zero_le _⟩, HBF.out⟩
  · have hne : (E != 0) = true := by simpa using hE0
    obtain rfl := hbad hE0
    have HPA := Lib.hid hpa
    have HR := Lib.hid hR; have HW1 := Lib.hid hW1; have B1 := Lib.hid b1; have K1 := Lib.hid k1; have Z1 := Lib.hid z1
    rw [hS, hI, hA, hNO]
    clear hpa hbad hnot hfit hR hW1 b1 k1 z1 hk1 hNO hS hI hA hv hE hRES hs hk hn hgood hT hvk hvn hll hkk hE0
    go_enter Tryd.func13, Tryd.ntmps13
    go_wp2_with fail
    rw [← HW1.out, HR.out]
    refine HPA.out.mono ?_
    rintro e w2 ⟨⟨VA, vb, VB, vd, rfl, v2⟩, hb2⟩
    have k2 := blk_below K1.out hb2
    obtain ⟨w3, hw3⟩ : ∃ w3, w3 = set5 w2 R 0 (.int .i64 vk) (.int .i64 vn) (.string T) (.slice VA ll vb) (.slice VB kk vd) := ⟨_, rfl⟩
    have q3 : w3.heap[R]? = some (.cells #[.int .i64 vk, .int .i64 vn, .string T, .slice VA ll vb, .slice VB kk vd] 28 (0, 0)) := by
      have := set5_here (o := 0) (c0 := .int .i64 vk) (c1 := .int .i64 vn) (c2 := .string T) (c3 := .slice VA ll vb) (c4 := .slice VB kk vd) k2
      rw [hw3]; simpa using this
    have r3 : Below R w w3 := by rw [hw3]; exact (B1.out.trans (hb2.mono (by have := Z1.out; omega))).trans (set5_below (Nat.le_refl _))
    obtain ⟨⟨e0, e1, e2, e3, e4⟩, g0, g1, g2, g3, g4⟩ := box_of q3
    obtain ⟨⟨y0, y1, y2, y3, y4⟩, f0, f1, f2, f3, f4⟩ := box_of k2
    have HW3 := Lib.hid hw3; have Q3 := Lib.hid q3; have R3 := Lib.hid r3
    rw [hw3] at e0 e1 e2 e3 e4 g0 g1 g2 g3 g4
    clear hw3 q3 r3 hb2 v2 k2
    dsimp only
    go_wp2
    obtain ⟨wf, hwf⟩ : ∃ wf, wf = set5 w3 R 0 (.int .i64 0) (.int .i64 0) (.string ⟨#[]⟩) (.slice none 0 0) (.slice none 0 0) := ⟨_, rfl⟩
    change bodyPost _ _ _ _ _ (set5 (set5 w2 R 0 (.int .i64 vk) (.int .i64 vn) (.string T) (.slice VA ll vb) (.slice VB kk vd)) R 0 (.int .i64 0) (.int .i64 0) (.string ⟨#[]⟩) (.slice none 0 0) (.slice none 0 0))
    rw [← HW3.out, ← hwf]
    have hx : wf.heap[R]? = some (.cells #[.int .i64 0, .int .i64 0, .string ⟨#[]⟩, .slice none 0 0, .slice none 0 0] 28 (0, 0)) := by
      have := set5_here (o := 0) (c0 := .int .i64 0) (c1 := .int .i64 0) (c2 := .string ⟨#[]⟩) (c3 := .slice none 0 0) (c4 := .slice none 0 0) Q3.out
      rw [hwf]; simpa using this
    have hbf : Below w.heap.size w wf := by rw [hwf, HR.out]; exact R3.out.trans (set5_below (Nat.le_refl _))
    obtain ⟨⟨x0, x1, x2, x3, x4⟩, -⟩ := box_of hx
    have HBF := Lib.hid hbf
    clear hbf hx hwf e0 e1 e2 e3 e4 y0 y1 y2 y3 y4 f0 f1 f2 f3 f4 g0 g1 g2 g3 g4
    refine bodyPost_ret (v := .tuple #[.string ⟨#[]⟩, .agg #[.int .i64 0, .int .i64 0, .string ⟨#[]⟩, .slice none 0 0, .slice none 0 0], .int .i64 E]) (by simp [results, Tryd.results13, go_sem, x0, x1, x2, x3, x4]) rfl ?_
    exact ⟨⟨[_, _, _, _, _], 0, 0, rfl, zero_visC _ _ _, Nat.zero_le _⟩, HBF.out⟩
end Go.Proofs.YtcbajbpdgmmaeaaDoor
namespace Go.Proofs.YtcbajbpdgmmaeaaDoor
open Go.RowKit
set_option linter.unusedVariables false
theorem claimsMake_any (S1 S2 S3 S4 : ByteArray) (iat exp : Int) (h1 : S1.size ≤ maxLen) (h2 : S2.size ≤ maxLen) (h3 : S3.size ≤ maxLen) (h4 : S4.size ≤ maxLen) (hi : (Lit.int .i64 iat).wf = true) (he : (Lit.int .i64 exp).wf = true) (w : World) (hk : KitIn w.heap.size w) :
    Calls Tryd.prog 3 #[.string S1, .string S2, .string S3, .string S4, .int .i64 iat, .int .i64 exp] w fun e w' => e = .returned (.bool true) ∧ Below w.heap.size w w' := claimsMake_at makeSays_any codeCheck_any S1 S2 S3 S4 iat exp h1 h2 h3 h4 w hk
theorem claimsCheck_any (S1 S2 S3 S4 : ByteArray) (now : Int) (h1 : S1.size ≤ maxLen) (h2 : S2.size ≤ maxLen) (h3 : S3.size ≤ maxLen) (h4 : S4.size ≤ maxLen) (hn : (Lit.int .i64 now).wf = true) (w : World) (hk : KitIn w.heap.size w) :
    Calls Tryd.prog 4 #[.string S1, .string S2, .string S3, .string S4, .int .i64 now] w fun e w' => e = .returned (.bool true) ∧ Below w.heap.size w w' := claimsCheck_at makeSays_any codeCheck_any S1 S2 S3 S4 now h1 h2 h3 h4 w hk
end Go.Proofs.YtcbajbpdgmmaeaaDoor
