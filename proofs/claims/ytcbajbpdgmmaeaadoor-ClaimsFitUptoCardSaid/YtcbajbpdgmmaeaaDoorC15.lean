/- Texts merged by program, in build order: JsonRManyO. -/
import Derived.Test.YtcbajbpdgmmaeaaDoorC14
namespace Go.Proofs.YtcbajbpdgmmaeaaDoor
open Go.RowKit
set_option linter.unusedVariables false
set_option linter.unusedSimpArgs false

set_option maxRecDepth 100000 in
set_option maxHeartbeats 40000000 in
theorem manyObj (m : Nat) (ih : ∀ f s, f ≤ m → s.length ≤ 4096 → 2 * s.length + 1 ≤ f → ValT f s) (f : Nat) (r0 : List UInt8) (hf : f ≤ m + 1) (hs : (123 :: r0).length ≤ 4096) (hfs : 2 * r0.length + 2 ≤ f) : ManyT f true (123 :: r0) := by
  intro w
  obtain ⟨s, hss⟩ : ∃ s : List UInt8, 123 :: r0 = s := ⟨_, rfl⟩
  obtain ⟨S, hS⟩ : ∃ S : ByteArray, S = ⟨s.toArray⟩ := ⟨_, rfl⟩
  have hsz : S.size = s.length := by rw [hS]; show s.toArray.size = _; simp
  have hsl : s.length = r0.length + 1 := by rw [← hss]; simp
  have hpos : 0 < S.size := by omega
  have h0 : S[0] = 123 := by subst hS; subst hss; rfl
  have t0 : ((S[0].toNat : Int) == 123) = true := by rw [h0]; rfl
  have hext : ∀ n, S.extract n S.size = ⟨(s.drop n).toArray⟩ := fun n => by rw [hS]; exact ext_drop s n
  have hbg : ∀ (n : Nat) (t : List UInt8) wq, Calls Tryd.prog 48 #[.string (S.extract n S.size), .string ⟨t.toArray⟩] wq fun e w' => e = .returned (.bool (beginsB (s.drop n) t)) ∧ wq = w' := fun n t wq => by rw [hext]; exact begins_at _ _ wq
  rw [hss] at hs ⊢
  rw [← hS]
  obtain ⟨RES, hRES⟩ : ∃ RES, manyR f true s = RES := ⟨_, rfl⟩
  rw [hRES]
  obtain ⟨R, hR⟩ : ∃ R, w.heap.size = R := ⟨_, rfl⟩
  obtain ⟨W2, hW2⟩ : ∃ W2, W2 = ((w.alloc (.cells #[.int .i64 0, .int .i64 0, .string ⟨#[]⟩, .slice none 0 0, .slice none 0 0] 28)).alloc (.cells #[.int .i64 6, .int .i64 0, .string ⟨#[]⟩, .slice none 0 0, .slice none 0 0] 28)) := ⟨_, rfl⟩
  have gst : GSt R 6 w W2 (.slice none 0 0) (.slice none 0 0) [] [] [] := by
    refine ⟨?_, ?_, ⟨rfl, .inl ⟨rfl, rfl⟩⟩, ⟨rfl, .inl ⟨rfl, rfl⟩⟩, fun i hi => absurd hi (Nat.not_lt_zero _), ?_, ?_⟩
    · rw [hW2, ← hR]
      have := heap_alloc_last (w.alloc (.cells #[.int .i64 0, .int .i64 0, .string ⟨#[]⟩, .slice none 0 0, .slice none 0 0] 28)) (.cells #[.int .i64 6, .int .i64 0, .string ⟨#[]⟩, .slice none 0 0, .slice none 0 0] 28)
      simpa using this
    · rw [hW2, ← hR, Below.heap_alloc _ _ _ (by simp)]; exact heap_alloc_last w _
    · rw [hW2, ← hR]; exact ((Below.refl _ _).alloc (Nat.le_refl _) _).alloc (by simp) _
    · rw [hW2, ← hR]; simp
  obtain ⟨z1, hz1⟩ : ∃ z, beginsB (s.drop 1) [125] = z := ⟨_, rfl⟩
  have hb1 := fun wq => hbg 1 [125] wq
  rw [hz1] at hb1
  have hR1 : RES = if z1 then (.mk 6 0 [] [] [], 2) else loopT f true (s.drop 1) 1 [] [] := by
    rw [← hRES, ← hz1]; unfold manyR; simp
  have HB1 := Lib.hid hb1; have GST := Lib.hid gst; have HR := Lib.hid hR; have HW2 := Lib.hid hW2; have IH := Lib.hid ih; have HBG := Lib.hid hbg; have HEXT := Lib.hid hext; have HSZ := Lib.hid hsz; have HSS := Lib.hid hsl; have HRR := Lib.hid hR1; have HS := Lib.hid hS
  clear hb1 gst hR hW2 ih hbg hext hRES hz1 h0 hss hS hsl hR1 hsz
  cases z1 with
  | true =>
    have e : RES = (.mk 6 0 [] [] [], 2) := HRR.out
    subst e
    obtain ⟨⟨e0, e1, e2, e3, e4⟩, f0, f1, f2, f3, f4⟩ := box_of GST.out.var
    obtain ⟨⟨p0, p1, p2, p3, p4⟩, q0, q1, q2, q3, q4⟩ := box_of GST.out.res
    rw [HW2.out, ← HR.out] at e0 e1 e2 e3 e4 f0 f1 f2 f3 f4 p0 p1 p2 p3 p4 q0 q1 q2 q3 q4
    go_enter Tryd.func50, Tryd.ntmps50
    go_wp2_with (go_at_call 48; refine (HB1.out _).mono ?_; rintro e1 w1 ⟨rfl, rfl⟩)
    refine bodyPost_ret (v := .tuple #[.agg #[.int .i64 6, .int .i64 0, .string ⟨#[]⟩, .slice none 0 0, .slice none 0 0], .int .i64 2]) (by simp [results, Tryd.results50, go_sem]) rfl ?_
    refine ⟨⟨_, _, _, _, _, _, _, _, _, rfl, VIs.mk (t := []) (l := []) (ks := []) ⟨by simp, by simp, by simp, by simp⟩ (.inl rfl) (.inl rfl)⟩, ((Below.refl _ _).alloc (Nat.le_refl _) _).alloc (by simp) _⟩
  | false =>
    have e : RES = loopT f true (s.drop 1) 1 [] [] := HRR.out
    have ER := Lib.hid e
    clear e HRR
    obtain ⟨i0, hi, hz0, hz1, hz2⟩ := info_parts Tryd.infoVal
    obtain ⟨j0, hj, hy0, hy1, hy2⟩ := info_parts Tryd.infoStrG
    go_enter Tryd.func50, Tryd.ntmps50
    go_wp2_with (go_at_call 48; refine (HB1.out _).mono ?_; rintro e1 w1 ⟨rfl, rfl⟩)
    rw [← HW2.out, HR.out]
    go_loopw [6] (fun iv wr => ∃ (n f1 : Nat) (l : List V) (lv : Value) (xs : List Value) (kv : Value) (ks : List (List UInt8)), iv = .int .i64 n ∧ 1 ≤ n ∧ n ≤ S.size ∧ l.length ≤ n ∧ ks.length = l.length ∧ (∀ x ∈ ks, x.length ≤ 9223372036854775807) ∧ f1 ≤ m + 1 ∧ 2 * (S.size - n) + 2 ≤ f1 ∧ loopT f1 true (s.drop n) n ks l = RES ∧ GSt R 6 w wr lv (kv) l ks xs) (fun iv _ => S.size - (intOf iv).toNat)
    case atStart => exact ⟨1, f, [], _, [], _, [], rfl, Nat.le_refl _, by omega, Nat.zero_le _, rfl, (by simp), hf, by have := HSZ.out; have := HSS.out; omega, ER.out.symm, GST.out⟩
    case round =>
      obtain ⟨n, f1, l, lv, xs, kv, ks, rfl, hn1, hn2, hln, hkn, hkb, hf1, hf2, hG, gst⟩ := hrel
      obtain ⟨f2, rfl⟩ : ∃ f2, f1 = f2 + 1 := ⟨f1 - 1, by omega⟩
      rw [loopT_succ] at hG
      obtain ⟨LA, lc, rfl⟩ := own_form gst.rowL
      obtain ⟨KA, kc, rfl⟩ := own_form gst.rowK
      have hS4 : S.size ≤ 4096 := by have := HSZ.out; omega
      have hwd := fun wq => refWord_says (S.extract n S.size) (by rw [ByteArray.size_extract]; omega) wq
      have hwl : (S.extract n S.size).data.toList = s.drop n := by rw [HEXT.out n]
      rw [hwl] at hwd
      have v0 := (box_of gst.var).1.1
      have hsz := gst.size
      have GS := Lib.hid gst; have HKB0 := Lib.hid hkb; have HKN := Lib.hid hkn
      clear hwl hkb hkn
      obtain ⟨K, hK⟩ : ∃ K, keyT true (s.drop n) ks = K := ⟨_, rfl⟩
      rw [hK] at hG
      by_cases hgood : ∃ t j, wordT ((s.drop n).drop 1) [] 1 = some (t, j) ∧ beginsB (s.drop n) [34] = true
      rotate_left
      · have e0 : K = none := hK.symm.trans (by
          unfold keyT
          rw [if_pos rfl]
          by_cases hb : beginsB (s.drop n) [34] = true
          · rw [if_pos hb]
            cases hw : wordT ((s.drop n).drop 1) [] 1 with
            | none => rfl
            | some z => exact absurd ⟨z.1, z.2, hw, hb⟩ hgood
          · rw [if_neg hb])
        subst e0
        have e : RES = (.mk 6 0 [] l ks, 0) := hG.symm
        subst e
        have hwd2 : ∀ wq, Calls Tryd.prog 49 #[.string (S.extract n S.size)] wq fun e w' => e = .returned (.tuple #[.string ⟨#[]⟩, .int .i64 0]) ∧ Below wq.heap.size wq w' := fun wq => (hwd wq).mono fun e w' ⟨h1, h2⟩ => by
          rcases h1 with ⟨t, j, h3, h4, _⟩ | ⟨_, h3⟩
          · exact absurd ⟨t, j, h3, h4⟩ hgood
          · exact ⟨h3, h2⟩
        have HW := Lib.hid hwd2
        clear hwd2 hwd hG hK hgood gst
        go_wp2_with fail
        refine (HW.out _).mono ?_
        rintro e2 w2 ⟨rfl, hb2⟩
        dsimp only
        have g2 := GS.out.later hb2
        obtain ⟨⟨e0, e1, e2, e3, e4⟩, f0, f1, f2', f3, f4⟩ := box_of g2.var
        obtain ⟨⟨p0, p1, p2, p3, p4⟩, q0, q1, q2, q3, q4⟩ := box_of g2.res
        have G2 := Lib.hid g2; clear g2 hb2
        go_wp2_with fail
        obtain ⟨wf, hwf⟩ : ∃ wf, wf = set5 w2 R 0 (.int .i64 6) (.int .i64 0) (.string ⟨#[]⟩) (.slice LA l.length lc) (.slice KA ks.length kc) := ⟨_, rfl⟩
        change bodyPost _ _ _ _ _ (set5 w2 R 0 (.int .i64 6) (.int .i64 0) (.string ⟨#[]⟩) (.slice LA l.length lc) (.slice KA ks.length kc))
        rw [← hwf]
        have hx : wf.heap[R]? = some (.cells #[.int .i64 6, .int .i64 0, .string ⟨#[]⟩, .slice LA l.length lc, .slice KA ks.length kc] 28 (0, 0)) := by rw [hwf]; exact set5_here G2.out.res
        have hbf : Below R w wf := by rw [hwf]; exact G2.out.low.trans (set5_below (Nat.le_refl _))
        have hvf : VIs wf R wf.heap.size (.mk 6 0 [] l ks) [.int .i64 6, .int .i64 0, .string ⟨#[]⟩, .slice LA l.length lc, .slice KA ks.length kc] := G2.out.done (by omega) (by have := HKN.out; omega) HKB0.out (fun b hb => by rw [hwf]; exact set5_there hb) (by rw [hwf, set5_size])
        obtain ⟨⟨x0, x1, x2, x3, x4⟩, -⟩ := box_of hx
        have HBF := Lib.hid hbf; have HVF := Lib.hid hvf
        clear hbf hvf hwf hx e0 e1 e2 e3 e4 f0 f1 f2' f3 f4 p0 p1 p2 p3 p4 q0 q1 q2 q3 q4
        refine bodyPost_ret (v := .tuple #[.agg #[.int .i64 6, .int .i64 0, .string ⟨#[]⟩, .slice LA l.length lc, .slice KA ks.length kc], .int .i64 0]) (by simp [results, Tryd.results50, go_sem, x0, x1, x2, x3, x4]) rfl ?_
        rw [HR.out]
        exact ⟨⟨_, _, _, _, _, _, _, _, _, rfl, HVF.out⟩, HBF.out⟩
      · obtain ⟨t, j, hw, hb⟩ := hgood
        have hwle := wordT_le _ _ _ _ _ _ (Nat.le_refl _) hw
        have hbl := begins_len hb
        simp only [List.length_drop, List.length_nil, List.length_singleton] at hwle hbl
        have hnj : n + j ≤ S.size := by have := HSZ.out; omega
        have htl : t.length ≤ 4096 := by omega
        have hj0 : 0 < j := by omega
        have dj : ((j : Int) == 0) = false := by simp; omega
        have hwd2 : ∀ wq, Calls Tryd.prog 49 #[.string (S.extract n S.size)] wq fun e w' => e = .returned (.tuple #[.string ⟨t.toArray⟩, .int .i64 (j : Int)]) ∧ Below wq.heap.size wq w' := fun wq => (hwd wq).mono fun e w' ⟨h1, h2⟩ => by
          rcases h1 with ⟨t2, j2, h3, h4, h5⟩ | ⟨h3, _⟩
          · rw [hw] at h3; injection h3 with h3; injection h3 with h6 h7
            subst h6; subst h7; exact ⟨h5, h2⟩
          · rcases h3 with h3 | h3
            · rw [hw] at h3; cases h3
            · rw [hb] at h3; cases h3
        have hc := fun wq => HBG.out (n + j) [58] wq
        obtain ⟨zc, hzc⟩ : ∃ z, beginsB (s.drop (n + j)) [58] = z := ⟨_, rfl⟩
        rw [hzc] at hc
        have hK2 : K = if zc then some (ks ++ [t], j + 1) else none := hK.symm.trans (by
          unfold keyT
          rw [if_pos rfl, if_pos hb, hw]
          dsimp only
          rw [List.drop_drop, hzc])
        have hcc : zc = true → n + j + 1 ≤ S.size := fun h => by
          rw [h] at hzc
          have := begins_len hzc
          rw [List.length_drop, List.length_singleton] at this
          have := HSZ.out; omega
        have HW := Lib.hid hwd2; have HC := Lib.hid hc
        clear hwd2 hwd hc hK hw hb hwle hbl hzc
        cases zc with
        | false =>
          have e0 : K = none := hK2
          subst e0
          have e : RES = (.mk 6 0 [] l ks, 0) := hG.symm
          subst e
          clear hG hK2 hcc gst
          go_wp2_with fail
          refine (HW.out _).mono ?_
          rintro e2 w2 ⟨rfl, hb2⟩
          dsimp only
          have g2 := GS.out.later hb2
          obtain ⟨⟨e0, e1, e2, e3, e4⟩, f0, f1, f2', f3, f4⟩ := box_of g2.var
          obtain ⟨⟨p0, p1, p2, p3, p4⟩, q0, q1, q2, q3, q4⟩ := box_of g2.res
          have G2 := Lib.hid g2; clear g2 hb2
          go_wp2_with (go_at_call 48; refine (HC.out _).mono ?_; rintro e3 w3 ⟨rfl, rfl⟩)
          obtain ⟨wf, hwf⟩ : ∃ wf, wf = set5 w2 R 0 (.int .i64 6) (.int .i64 0) (.string ⟨#[]⟩) (.slice LA l.length lc) (.slice KA ks.length kc) := ⟨_, rfl⟩
          change bodyPost _ _ _ _ _ (set5 w2 R 0 (.int .i64 6) (.int .i64 0) (.string ⟨#[]⟩) (.slice LA l.length lc) (.slice KA ks.length kc))
          rw [← hwf]
          have hx : wf.heap[R]? = some (.cells #[.int .i64 6, .int .i64 0, .string ⟨#[]⟩, .slice LA l.length lc, .slice KA ks.length kc] 28 (0, 0)) := by rw [hwf]; exact set5_here G2.out.res
          have hbf : Below R w wf := by rw [hwf]; exact G2.out.low.trans (set5_below (Nat.le_refl _))
          have hvf : VIs wf R wf.heap.size (.mk 6 0 [] l ks) [.int .i64 6, .int .i64 0, .string ⟨#[]⟩, .slice LA l.length lc, .slice KA ks.length kc] := G2.out.done (by omega) (by have := HKN.out; omega) HKB0.out (fun b hb => by rw [hwf]; exact set5_there hb) (by rw [hwf, set5_size])
          obtain ⟨⟨x0, x1, x2, x3, x4⟩, -⟩ := box_of hx
          have HBF := Lib.hid hbf; have HVF := Lib.hid hvf
          clear hbf hvf hwf hx e0 e1 e2 e3 e4 f0 f1 f2' f3 f4 p0 p1 p2 p3 p4 q0 q1 q2 q3 q4
          refine bodyPost_ret (v := .tuple #[.agg #[.int .i64 6, .int .i64 0, .string ⟨#[]⟩, .slice LA l.length lc, .slice KA ks.length kc], .int .i64 0]) (by simp [results, Tryd.results50, go_sem, x0, x1, x2, x3, x4]) rfl ?_
          rw [HR.out]
          exact ⟨⟨_, _, _, _, _, _, _, _, _, rfl, HVF.out⟩, HBF.out⟩
        | true =>
          have e0 : K = some (ks ++ [t], j + 1) := hK2
          subst e0
          have hnj1 := hcc rfl
          dsimp only at hG
          clear hK2 hcc gst
          have hrd := (read_all f2).1 (s.drop (n + j + 1))
          have hval0 := IH.out f2 (s.drop (n + j + 1)) (by omega) (by rw [List.length_drop]; omega) (by rw [List.length_drop]; have := HSZ.out; omega)
          have hdd : (s.drop n).drop (j + 1) = s.drop (n + j + 1) := by rw [List.drop_drop]; rfl
          rw [hdd] at hG
          obtain ⟨⟨x, k⟩, hv⟩ : ∃ y, valueT f2 (s.drop (n + j + 1)) = y := ⟨_, rfl⟩
          unfold ValT at hval0
          rw [hv] at hG hval0 hrd
          rw [← HEXT.out (n + j + 1)] at hval0
          dsimp only at hG hval0 hrd
          simp only [List.drop_drop, ← Nat.add_assoc, ↓reduceIte] at hG
          have hkl : n + j + 1 + k ≤ S.size := by have := hrd.1; rw [List.length_drop] at this; have := HSZ.out; omega
          have HG0 := Lib.hid hG; have HV0 := Lib.hid hval0
          clear hG hval0 hrd hv hdd
          go_wp2_with fail
          refine (HW.out _).mono ?_
          rintro e2 w2 ⟨rfl, hb2⟩
          dsimp only
          obtain ⟨IT, hIT⟩ : ∃ IT, IT = Obj.cells #[.string ⟨t.toArray⟩] 9 := ⟨_, rfl⟩
          have g3 := GS.out.later hb2
          have g4 := GS.out.later (hb2.alloc hb2.size IT)
          have hzw := hb2.size
          rw [hIT] at g4
          obtain ⟨⟨e0, e1, e2, e3, e4⟩, f0, f1, f2', f3, f4⟩ := box_of g3.var
          have G4 := Lib.hid g4; have HB2 := Lib.hid hb2
          have hRlt : R + 1 < w2.heap.size := by omega
          have hkl9 := HKN.out
          have HKL9 := Lib.hid hkl9
          clear g3 g4 hb2 hIT hkl9
          have hkz : ks.length ≤ 4096 := by have := HKN.out; omega
          go_wp2_with (first
            | (go_at_call 48; refine (HC.out _).mono ?_; rintro e3 w3 ⟨rfl, rfl⟩)
            | (at_builtin; go_loud (refine wpList_append_own_at _ rfl (.tmp 47) (.tmp 49) 26 rfl (R + 2) 9 j0 _ 1 16 Tryd.underlying26 hj hy0 hy1 hy2 rfl (by decide) _ _ _ rfl G4.out.rowK ⟨_, 0, none⟩ 1 1 [.string ⟨t.toArray⟩] rfl rfl (new_cells _ #[_] _) (by intro u hu; simp at hu; subst hu; rfl) (by unfold maxLen; omega) (by omega) (by simp; omega) ?_; intro v5 w5 hown hgrow hnil hat; obtain ⟨KB, kd, rfl⟩ := own_form hown; obtain ⟨⟨p0, p1, p2, p3, p4⟩, q0, q1, q2, q3, q4⟩ := box_of (G4.out.varK hgrow))))
          have g6 := G4.out.key t hown hgrow hat
          obtain ⟨wk, hwk⟩ : ∃ wk, wk = w5.setCell ⟨R + 1, 4, none⟩ (.slice KB (ks.length + 1) kd) := ⟨_, rfl⟩
          rw [← hwk] at g6 ⊢
          clear hwk e0 e1 e2 e3 e4 f0 f1 f2' f3 f4 p0 p1 p2 p3 p4 q0 q1 q2 q3 q4 hown hgrow hnil hat hzw hRlt
          have hval := HV0.out wk
          have hG := HG0.out
          have hsz := g6.size
          have hkb6 : ShortK (ks ++ [t]) := fun z hz => by
            rcases List.mem_append.1 hz with h | h
            · exact HKB0.out z h
            · simp at h; subst h; omega
          have HKB := Lib.hid hkb6
          have HV := Lib.hid hval; have GK := Lib.hid g6
          clear g6 hval hkb6 HV0 HG0 HW HC G4 HKB0 HB2
          by_cases hk0 : k = 0
          · subst hk0
            have e : RES = (.mk 6 0 [] l (ks ++ [t]), 0) := hG.symm
            subst e
            clear hG
            refine (HV.out).mono ?_
            rintro e2 w3 ⟨⟨k', n', tt, A, a, b, A', a', b', rfl, hx⟩, hb2⟩
            dsimp only
            have hb3 := hb2.alloc hb2.size (.cells #[.int .i64 k', .int .i64 n', .string tt, .slice A a b, .slice A' a' b'] 28)
            have g2 := GK.out.later hb3
            obtain ⟨⟨e0, e1, e2, e3, e4⟩, f0, f1, f2', f3, f4⟩ := box_of g2.var
            obtain ⟨⟨p0, p1, p2, p3, p4⟩, q0, q1, q2, q3, q4⟩ := box_of g2.res
            have G2 := Lib.hid g2; clear g2 hb3 hx hb2
            go_wp2_with fail
            obtain ⟨wf, hwf⟩ : ∃ wf, wf = set5 (w3.alloc (.cells #[.int .i64 k', .int .i64 n', .string tt, .slice A a b, .slice A' a' b'] 28)) R 0 (.int .i64 6) (.int .i64 0) (.string ⟨#[]⟩) (.slice LA l.length lc) (.slice KB (ks.length + 1) kd) := ⟨_, rfl⟩
            change bodyPost _ _ _ _ _ (set5 (w3.alloc (.cells #[.int .i64 k', .int .i64 n', .string tt, .slice A a b, .slice A' a' b'] 28)) R 0 (.int .i64 6) (.int .i64 0) (.string ⟨#[]⟩) (.slice LA l.length lc) (.slice KB (ks.length + 1) kd))
            rw [← hwf]
            have hx : wf.heap[R]? = some (.cells #[.int .i64 6, .int .i64 0, .string ⟨#[]⟩, .slice LA l.length lc, .slice KB (ks.length + 1) kd] 28 (0, 0)) := by rw [hwf]; exact set5_here G2.out.res
            have hbf : Below R w wf := by rw [hwf]; exact G2.out.low.trans (set5_below (Nat.le_refl _))
            have hvf : VIs wf R wf.heap.size (.mk 6 0 [] l (ks ++ [t])) [.int .i64 6, .int .i64 0, .string ⟨#[]⟩, .slice LA l.length lc, .slice KB (ks.length + 1) kd] := G2.out.done (by omega) (by simp; omega) HKB.out (fun b hb => by rw [hwf]; exact set5_there hb) (by rw [hwf, set5_size])
            obtain ⟨⟨x0, x1, x2, x3, x4⟩, -⟩ := box_of hx
            have HBF := Lib.hid hbf; have HVF := Lib.hid hvf
            clear hbf hvf hwf hx e0 e1 e2 e3 e4 f0 f1 f2' f3 f4 p0 p1 p2 p3 p4 q0 q1 q2 q3 q4
            refine bodyPost_ret (v := .tuple #[.agg #[.int .i64 6, .int .i64 0, .string ⟨#[]⟩, .slice LA l.length lc, .slice KB (ks.length + 1) kd], .int .i64 0]) (by simp [results, Tryd.results50, go_sem, x0, x1, x2, x3, x4]) rfl ?_
            rw [HR.out]
            exact ⟨⟨_, _, _, _, _, _, _, _, _, rfl, HVF.out⟩, HBF.out⟩
          · rw [if_neg hk0] at hG
            have hE1 := fun wq => HBG.out ((n + j + 1) + k) [125] wq
            have hE2 := fun wq => HBG.out ((n + j + 1) + k) [44] wq
            obtain ⟨zE, hzE⟩ : ∃ z, beginsB (s.drop ((n + j + 1) + k)) [125] = z := ⟨_, rfl⟩
            obtain ⟨zC, hzC⟩ : ∃ z, beginsB (s.drop ((n + j + 1) + k)) [44] = z := ⟨_, rfl⟩
            rw [hzE] at hE1 hG
            rw [hzC] at hE2 hG
            have hcl : zC = true → (n + j + 1) + k + 1 ≤ S.size := fun h => by
              rw [h] at hzC
              have := begins_len hzC
              rw [List.length_drop, List.length_singleton] at this
              have := HSZ.out; omega
            have HG := Lib.hid hG; have HE1 := Lib.hid hE1; have HE2 := Lib.hid hE2; have HCL := Lib.hid hcl
            have d0 : ((k : Int) == 0) = false := by simp; omega
            clear hG hE1 hE2 hzE hzC hcl
            refine (HV.out).mono ?_
            rintro e2 w3 ⟨⟨k', n', tt, A, a, b, A', a', b', rfl, hx⟩, hb2⟩
            dsimp only
            obtain ⟨IT, hIT⟩ : ∃ IT, IT = Obj.cells #[.int .i64 k', .int .i64 n', .string tt, .slice A a b, .slice A' a' b'] 28 := ⟨_, rfl⟩
            have hb3 := hb2.alloc hb2.size IT
            have g3 := GK.out.later hb3
            have g4 := GK.out.later (hb3.alloc hb3.size IT)
            have hx4 := hx.below (((Below.refl w3.heap.size w3).alloc (Nat.le_refl _) IT).alloc (by simp) IT)
            have hzw := hb2.size
            rw [hIT] at g3 g4 hx4 hb3
            obtain ⟨⟨e0, e1, e2, e3, e4⟩, f0, f1, f2', f3, f4⟩ := box_of g3.var
            obtain ⟨-, y0, y1, y2, y3, y4⟩ := box_of g4.var
            have G4 := Lib.hid g4; have HX4 := Lib.hid hx4; have HB3 := Lib.hid hb3
            clear g3 g4 hx4 hb3 hx hIT
            have hRlt : R + 1 < w3.heap.size := by have := GK.out.size; omega
            go_wp2_with (at_builtin; go_loud (refine wpList_append_own_at _ rfl (.tmp 67) (.tmp 69) 25 rfl (R + 2) 28 i0 _ 5 80 Tryd.underlying25 hi hz0 hz1 hz2 rfl (by decide) _ _ _ rfl G4.out.rowL ⟨_, 0, none⟩ 1 1 [.int .i64 k', .int .i64 n', .string tt, .slice A a b, .slice A' a' b'] rfl rfl (new_cells1 _ _ #[_, _, _, _, _] _) (by intro u hu; simp at hu; rcases hu with rfl | rfl | rfl | rfl | rfl <;> rfl) (by unfold maxLen; omega) (by omega) (by simp; omega) ?_; intro v5 w5 hown hgrow hnil hat; obtain ⟨A5, c5, rfl⟩ := own_form hown; obtain ⟨⟨p0, p1, p2, p3, p4⟩, q0, q1, q2, q3, q4⟩ := box_of (G4.out.varL hgrow)))
            have g6 := G4.out.item x HX4.out hsz (by simp; omega) (fun g hg => by
              have h1 := GK.out.rowL.lt g; have h2 := GK.out.rowK.lt g
              rcases hg with hg | hg
              · have := (h1 hg).2; omega
              · have := (h2 hg).2; omega) hown hgrow hat
            obtain ⟨w6, hw6⟩ : ∃ w6, w6 = w5.setCell ⟨R + 1, 3, none⟩ (.slice A5 (l.length + 1) c5) := ⟨_, rfl⟩
            rw [← hw6] at g6 ⊢
            have G6 := Lib.hid g6
            clear hw6 e0 e1 e2 e3 e4 f0 f1 f2' f3 f4 y0 y1 y2 y3 y4 p0 p1 p2 p3 p4 q0 q1 q2 q3 q4 hown hgrow hnil hat
            obtain ⟨⟨e0, e1, e2, e3, e4⟩, f0, f1, f2', f3, f4⟩ := box_of g6.var
            obtain ⟨⟨p0, p1, p2, p3, p4⟩, q0, q1, q2, q3, q4⟩ := box_of g6.res
            clear g6
            cases zE with
            | true =>
              have e : RES = (.mk 6 0 [] (l ++ [x]) (ks ++ [t]), (n + j + 1) + k + 1) := HG.out.symm.trans (if_pos rfl)
              subst e
              refine (HE1.out _).mono ?_
              rintro e7 w7 ⟨rfl, rfl⟩
              dsimp only
              go_wp2_with fail
              obtain ⟨wf, hwf⟩ : ∃ wf, wf = set5 w6 R 0 (.int .i64 6) (.int .i64 0) (.string ⟨#[]⟩) (.slice A5 (l.length + 1) c5) (.slice KB (ks.length + 1) kd) := ⟨_, rfl⟩
              change bodyPost _ _ _ _ _ (set5 w6 R 0 (.int .i64 6) (.int .i64 0) (.string ⟨#[]⟩) (.slice A5 (l.length + 1) c5) (.slice KB (ks.length + 1) kd))
              rw [← hwf]
              have hx : wf.heap[R]? = some (.cells #[.int .i64 6, .int .i64 0, .string ⟨#[]⟩, .slice A5 (l.length + 1) c5, .slice KB (ks.length + 1) kd] 28 (0, 0)) := by rw [hwf]; exact set5_here G6.out.res
              have hbf : Below R w wf := by rw [hwf]; exact G6.out.low.trans (set5_below (Nat.le_refl _))
              have hvf : VIs wf R wf.heap.size (.mk 6 0 [] (l ++ [x]) (ks ++ [t])) [.int .i64 6, .int .i64 0, .string ⟨#[]⟩, .slice A5 (l.length + 1) c5, .slice KB (ks.length + 1) kd] := G6.out.done (by simp; omega) (by simp; omega) HKB.out (fun b hb => by rw [hwf]; exact set5_there hb) (by rw [hwf, set5_size])
              obtain ⟨⟨x0, x1, x2, x3, x4⟩, -⟩ := box_of hx
              have HBF := Lib.hid hbf; have HVF := Lib.hid hvf
              clear hbf hvf hwf hx e0 e1 e2 e3 e4 f0 f1 f2' f3 f4 p0 p1 p2 p3 p4 q0 q1 q2 q3 q4
              refine bodyPost_ret (v := .tuple #[.agg #[.int .i64 6, .int .i64 0, .string ⟨#[]⟩, .slice A5 (l.length + 1) c5, .slice KB (ks.length + 1) kd], .int .i64 (((n + j + 1) : Int) + k + 1)]) (by simp [results, Tryd.results50, go_sem, x0, x1, x2, x3, x4]) rfl ?_
              rw [HR.out]
              exact ⟨⟨_, _, _, _, _, _, _, _, _, rfl, HVF.out⟩, HBF.out⟩
            | false =>
              cases zC with
              | true =>
                have e : loopT f2 true (s.drop (n + j + 1 + k + 1)) ((n + j + 1) + k + 1) (ks ++ [t]) (l ++ [x]) = RES := by
                  have h := HG.out
                  simp only [Bool.false_eq_true, if_false, if_true] at h
                  exact h
                have EE := Lib.hid e
                have hcl := HCL.out rfl
                clear e
                refine (HE1.out _).mono ?_
                rintro e7 w7 ⟨rfl, rfl⟩
                dsimp only
                go_wp2_with (go_at_call 48; refine (HE2.out _).mono ?_; rintro e8 w8 ⟨rfl, rfl⟩)
                clear e0 e1 e2 e3 e4 f0 f1 f2' f3 f4 p0 p1 p2 p3 p4 q0 q1 q2 q3 q4
                have hsz9 := HSZ.out
                exact ⟨⟨(n + j + 1) + k + 1, f2, l ++ [x], _, _, _, _, by go_num, by omega, by omega, by simp; omega, by have := HKN.out; simp; omega, HKB.out, by omega, by omega, EE.out, G6.out⟩, by simp [intOf]; omega⟩
              | false =>
                have e : RES = (.mk 6 0 [] (l ++ [x]) (ks ++ [t]), 0) := HG.out.symm.trans (by simp)
                subst e
                refine (HE1.out _).mono ?_
                rintro e7 w7 ⟨rfl, rfl⟩
                dsimp only
                go_wp2_with (go_at_call 48; refine (HE2.out _).mono ?_; rintro e8 w8 ⟨rfl, rfl⟩)
                obtain ⟨wf, hwf⟩ : ∃ wf, wf = set5 w6 R 0 (.int .i64 6) (.int .i64 0) (.string ⟨#[]⟩) (.slice A5 (l.length + 1) c5) (.slice KB (ks.length + 1) kd) := ⟨_, rfl⟩
                change bodyPost _ _ _ _ _ (set5 w6 R 0 (.int .i64 6) (.int .i64 0) (.string ⟨#[]⟩) (.slice A5 (l.length + 1) c5) (.slice KB (ks.length + 1) kd))
                rw [← hwf]
                have hx : wf.heap[R]? = some (.cells #[.int .i64 6, .int .i64 0, .string ⟨#[]⟩, .slice A5 (l.length + 1) c5, .slice KB (ks.length + 1) kd] 28 (0, 0)) := by rw [hwf]; exact set5_here G6.out.res
                have hbf : Below R w wf := by rw [hwf]; exact G6.out.low.trans (set5_below (Nat.le_refl _))
                have hvf : VIs wf R wf.heap.size (.mk 6 0 [] (l ++ [x]) (ks ++ [t])) [.int .i64 6, .int .i64 0, .string ⟨#[]⟩, .slice A5 (l.length + 1) c5, .slice KB (ks.length + 1) kd] := G6.out.done (by simp; omega) (by simp; omega) HKB.out (fun b hb => by rw [hwf]; exact set5_there hb) (by rw [hwf, set5_size])
                obtain ⟨⟨x0, x1, x2, x3, x4⟩, -⟩ := box_of hx
                have HBF := Lib.hid hbf; have HVF := Lib.hid hvf
                clear hbf hvf hwf hx e0 e1 e2 e3 e4 f0 f1 f2' f3 f4 p0 p1 p2 p3 p4 q0 q1 q2 q3 q4
                refine bodyPost_ret (v := .tuple #[.agg #[.int .i64 6, .int .i64 0, .string ⟨#[]⟩, .slice A5 (l.length + 1) c5, .slice KB (ks.length + 1) kd], .int .i64 0]) (by simp [results, Tryd.results50, go_sem, x0, x1, x2, x3, x4]) rfl ?_
                rw [HR.out]
                exact ⟨⟨_, _, _, _, _, _, _, _, _, rfl, HVF.out⟩, HBF.out⟩
end Go.Proofs.YtcbajbpdgmmaeaaDoor
