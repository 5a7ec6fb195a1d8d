/- JSON: the reference's Parse. -/
import Derived.Test.YtoijjcbcmjdggaaDoorJsonRValue
import Derived.Test.YtoijjcbcmjdggaaDoorJsonRFits
import Derived.Test.YtoijjcbcmjdggaaDoorJsonRShow
namespace Go.Proofs.YtoijjcbcmjdggaaDoor
open Go.RowKit
set_option linter.unusedVariables false
set_option linter.unusedSimpArgs false

theorem ba_list (l : List UInt8) : (⟨l.toArray⟩ : ByteArray).toList = l := by simp
theorem ba_ne {a b : ByteArray} (h : a ≠ b) : (a == b) = false := by
  show (a.data == b.data) = false
  rw [beq_eq_false_iff_ne]
  exact fun e => h (ByteArray.ext e)
theorem ba_eq (a : ByteArray) : (a == a) = true := by
  show (a.data == a.data) = true
  simp
theorem str_injR {a b : List UInt8} (h : (⟨a.toArray⟩ : ByteArray) = ⟨b.toArray⟩) : a = b := by
  injection h with h; simpa using h
theorem zero_isR (w : World) (L N : Nat) : VIs w L N V.zero [.int .i64 0, .int .i64 0, .string ⟨#[]⟩, .slice none 0 0, .slice none 0 0] := VIs.mk (t := []) (l := []) (ks := []) ⟨by simp, by simp, by simp, by simp⟩ (.inl rfl) (.inl rfl)
set_option maxRecDepth 100000 in
set_option maxHeartbeats 40000000 in
theorem refParse_any (s : List UInt8) (hs : s.length ≤ 9223372036854775807) (w : World) :
    Calls Tryd.prog 18 #[.string ⟨s.toArray⟩] w fun e w' => (∃ k n t A a b A' a' b', e = .returned (.tuple #[.agg #[.int .i64 k, .int .i64 n, .string t, .slice A a b, .slice A' a' b'], .int .i64 (parseV s).2]) ∧
      VIs w' w.heap.size w'.heap.size (parseV s).1 [.int .i64 k, .int .i64 n, .string t, .slice A a b, .slice A' a' b']) ∧ Below w.heap.size w w' := by
  obtain ⟨PV, hPV⟩ : ∃ PV, parseV s = PV := ⟨_, rfl⟩
  rw [hPV]
  obtain ⟨S, hS⟩ : ∃ S : ByteArray, S = ⟨s.toArray⟩ := ⟨_, rfl⟩
  have hsz : S.size = s.length := by rw [hS]; show s.toArray.size = _; simp
  rw [← hS]
  obtain ⟨W1, hW1⟩ : ∃ W1, W1 = w.alloc (.cells #[.int .i64 0, .int .i64 0, .string ⟨#[]⟩, .slice none 0 0, .slice none 0 0] 25) := ⟨_, rfl⟩
  have x1 : W1.heap[w.heap.size]? = some (.cells #[.int .i64 0, .int .i64 0, .string ⟨#[]⟩, .slice none 0 0, .slice none 0 0] 25 (0, 0)) := by rw [hW1]; exact heap_alloc_last w _
  have b1 : Below w.heap.size w W1 := by rw [hW1]; exact (Below.refl _ _).alloc (Nat.le_refl _) _
  have z1 : W1.heap.size = w.heap.size + 1 := by rw [hW1]; simp
  have HW1 := Lib.hid hW1; have HX1 := Lib.hid x1; have HB1 := Lib.hid b1; have HZ1 := Lib.hid z1; have HS := Lib.hid hS
  clear hW1 x1 b1 z1 hS
  by_cases hl : 4096 < S.size
  · have d1 : decide ((4096 : Int) < (S.size : Int)) = true := by simp; omega
    have e : PV = (V.zero, 3) := hPV.symm.trans (by unfold parseV; rw [if_pos (by omega)])
    subst e
    have hsz' := Lib.hid hsz
    clear hsz hPV hs
    go_enter Tryd.func18, Tryd.ntmps18
    go_wp2_with fail
    refine bodyPost_ret (v := .tuple #[.agg #[.int .i64 0, .int .i64 0, .string ⟨#[]⟩, .slice none 0 0, .slice none 0 0], .int .i64 3]) (by simp [results, Tryd.results18, go_sem]) rfl ?_
    exact ⟨⟨_, _, _, _, _, _, _, _, _, rfl, zero_isR _ _ _⟩, (Below.refl _ _).alloc (Nat.le_refl _) _⟩
  · have d1 : decide ((4096 : Int) < (S.size : Int)) = false := by simp; omega
    have hval := value_allT (2 * s.length + 2) (2 * s.length + 2) s (Nat.le_refl _) (by omega) (by omega) W1
    have hrd := (read_all (2 * s.length + 2)).1 s
    have hPV2 : PV = match valueT (2 * s.length + 2) s with
      | (v, n) => match (if n = s.length ∧ v.fits 5000 = true ∧ v.show = s then some v else none) with
        | none => (V.zero, 2)
        | some v => if v.fits 8 then (v, 0) else (V.zero, 4) := by
      rw [← hPV]; unfold parseV readV
      rw [if_neg (by omega)]
      cases valueT (2 * s.length + 2) s
      rfl
    obtain ⟨⟨v, n⟩, hv⟩ : ∃ y, valueT (2 * s.length + 2) s = y := ⟨_, rfl⟩
    rw [hv] at hval hrd hPV2
    dsimp only at hval hrd hPV2
    rw [← HS.out] at hval
    rw [← hsz] at hPV2
    have hnS : n ≤ 4096 := by have := hrd.1; omega
    have hgs : v.fits 5000 = true → n ≠ 0 → v.show.length ≤ 10000000000000 := fun h1 h2 => by
      have := show_wt v.size v (Nat.le_refl _) (fits_isgood h1)
      have := hrd.2 h2
      omega
    have HV := Lib.hid hval; have HP := Lib.hid hPV2; have HSZ := Lib.hid hsz; have HGS := Lib.hid hgs
    clear hval hrd hPV2 hPV hv hgs hs hsz
    by_cases hn0 : n = 0
    · subst hn0
      have e : PV = (V.zero, 2) := HP.out.trans (by
        rw [if_neg (fun h => by
          have h1 := show_pos v
          rw [h.2.2] at h1
          have := HSZ.out
          omega)])
      subst e
      clear HP
      go_enter Tryd.func18, Tryd.ntmps18
      go_wp2_with fail
      rw [← HW1.out]
      refine (HV.out).mono ?_
      rintro e2 w2 ⟨⟨k', n', tt, A, a, b, A', a', b', rfl, hx⟩, hb2⟩
      dsimp only
      have hBW : Below W1.heap.size W1 (w2.alloc (.cells #[.int .i64 k', .int .i64 n', .string tt, .slice A a b, .slice A' a' b'] 25)) := hb2.alloc hb2.size _
      have hRW : (w2.alloc (.cells #[.int .i64 k', .int .i64 n', .string tt, .slice A a b, .slice A' a' b'] 25)).heap[w.heap.size]? = some (.cells #[.int .i64 0, .int .i64 0, .string ⟨#[]⟩, .slice none 0 0, .slice none 0 0] 25 (0, 0)) := (hBW.block w.heap.size (by have := HZ1.out; omega)).trans HX1.out
      obtain ⟨⟨p0, p1, p2, p3, p4⟩, q0, q1, q2, q3, q4⟩ := box_of hRW
      have HBW := Lib.hid hBW; have HRW := Lib.hid hRW
      clear hBW hRW
      clear hb2 hx
      go_wp2_with fail
      obtain ⟨wf, hwf⟩ : ∃ wf, wf = set5 (w2.alloc (.cells #[.int .i64 k', .int .i64 n', .string tt, .slice A a b, .slice A' a' b'] 25)) w.heap.size 0 (.int .i64 0) (.int .i64 0) (.string ⟨#[]⟩) (.slice none 0 0) (.slice none 0 0) := ⟨_, rfl⟩
      change bodyPost _ _ _ _ _ (set5 (w2.alloc (.cells #[.int .i64 k', .int .i64 n', .string tt, .slice A a b, .slice A' a' b'] 25)) w.heap.size 0 (.int .i64 0) (.int .i64 0) (.string ⟨#[]⟩) (.slice none 0 0) (.slice none 0 0))
      rw [← hwf]
      have hy : wf.heap[w.heap.size]? = some (.cells #[.int .i64 0, .int .i64 0, .string ⟨#[]⟩, .slice none 0 0, .slice none 0 0] 25 (0, 0)) := by rw [hwf]; exact set5_here HRW.out
      have hbf : Below w.heap.size w wf := by rw [hwf]; exact (HB1.out.trans (HBW.out.mono (by have := HZ1.out; omega))).trans (set5_below (Nat.le_refl _))
      obtain ⟨⟨g0, g1, g2, g3, g4⟩, -⟩ := box_of hy
      have HBF := Lib.hid hbf
      clear hbf hwf hy p0 p1 p2 p3 p4 q0 q1 q2 q3 q4
      refine bodyPost_ret (v := .tuple #[.agg #[.int .i64 0, .int .i64 0, .string ⟨#[]⟩, .slice none 0 0, .slice none 0 0], .int .i64 2]) (by simp [results, Tryd.results18, go_sem, g0, g1, g2, g3, g4]) rfl ?_
      exact ⟨⟨_, _, _, _, _, _, _, _, _, rfl, zero_isR _ _ _⟩, HBF.out⟩
    have d2 : ((n : Int) == 0) = false := by simp; omega
    by_cases hnl : n = S.size
    rotate_left
    · have d3 : ((n : Int) == (S.size : Int)) = false := by simp; omega
      have d3b : ((n : Int) != (S.size : Int)) = true := by simp; omega
      have e : PV = (V.zero, 2) := HP.out.trans (by rw [if_neg (fun h => hnl h.1)])
      subst e
      clear HP
      go_enter Tryd.func18, Tryd.ntmps18
      go_wp2_with fail
      rw [← HW1.out]
      refine (HV.out).mono ?_
      rintro e2 w2 ⟨⟨k', n', tt, A, a, b, A', a', b', rfl, hx⟩, hb2⟩
      dsimp only
      have hBW : Below W1.heap.size W1 (w2.alloc (.cells #[.int .i64 k', .int .i64 n', .string tt, .slice A a b, .slice A' a' b'] 25)) := hb2.alloc hb2.size _
      have hRW : (w2.alloc (.cells #[.int .i64 k', .int .i64 n', .string tt, .slice A a b, .slice A' a' b'] 25)).heap[w.heap.size]? = some (.cells #[.int .i64 0, .int .i64 0, .string ⟨#[]⟩, .slice none 0 0, .slice none 0 0] 25 (0, 0)) := (hBW.block w.heap.size (by have := HZ1.out; omega)).trans HX1.out
      obtain ⟨⟨p0, p1, p2, p3, p4⟩, q0, q1, q2, q3, q4⟩ := box_of hRW
      have HBW := Lib.hid hBW; have HRW := Lib.hid hRW
      clear hBW hRW
      clear hb2 hx
      go_wp2_with fail
      obtain ⟨wf, hwf⟩ : ∃ wf, wf = set5 (w2.alloc (.cells #[.int .i64 k', .int .i64 n', .string tt, .slice A a b, .slice A' a' b'] 25)) w.heap.size 0 (.int .i64 0) (.int .i64 0) (.string ⟨#[]⟩) (.slice none 0 0) (.slice none 0 0) := ⟨_, rfl⟩
      change bodyPost _ _ _ _ _ (set5 (w2.alloc (.cells #[.int .i64 k', .int .i64 n', .string tt, .slice A a b, .slice A' a' b'] 25)) w.heap.size 0 (.int .i64 0) (.int .i64 0) (.string ⟨#[]⟩) (.slice none 0 0) (.slice none 0 0))
      rw [← hwf]
      have hy : wf.heap[w.heap.size]? = some (.cells #[.int .i64 0, .int .i64 0, .string ⟨#[]⟩, .slice none 0 0, .slice none 0 0] 25 (0, 0)) := by rw [hwf]; exact set5_here HRW.out
      have hbf : Below w.heap.size w wf := by rw [hwf]; exact (HB1.out.trans (HBW.out.mono (by have := HZ1.out; omega))).trans (set5_below (Nat.le_refl _))
      obtain ⟨⟨g0, g1, g2, g3, g4⟩, -⟩ := box_of hy
      have HBF := Lib.hid hbf
      clear hbf hwf hy p0 p1 p2 p3 p4 q0 q1 q2 q3 q4
      refine bodyPost_ret (v := .tuple #[.agg #[.int .i64 0, .int .i64 0, .string ⟨#[]⟩, .slice none 0 0, .slice none 0 0], .int .i64 2]) (by simp [results, Tryd.results18, go_sem, g0, g1, g2, g3, g4]) rfl ?_
      exact ⟨⟨_, _, _, _, _, _, _, _, _, rfl, zero_isR _ _ _⟩, HBF.out⟩
    subst hnl
    have d3 : ((S.size : Int) == (S.size : Int)) = true := by simp
    obtain ⟨F5, hF5⟩ : ∃ F5, v.fits 5000 = F5 := ⟨_, rfl⟩
    cases F5 with
    | false =>
      have e : PV = (V.zero, 2) := HP.out.trans (by rw [if_neg (fun h => by rw [hF5] at h; cases h.2.1)])
      subst e
      clear HP
      go_enter Tryd.func18, Tryd.ntmps18
      go_wp2_with fail
      rw [← HW1.out]
      refine (HV.out).mono ?_
      rintro e2 w2 ⟨⟨k', n', tt, A, a, b, A', a', b', rfl, hx⟩, hb2⟩
      dsimp only
      obtain ⟨W3, hW3⟩ : ∃ W3, W3 = w2.alloc (.cells #[.int .i64 k', .int .i64 n', .string tt, .slice A a b, .slice A' a' b'] 25) := ⟨_, rfl⟩
      have b3 : Below W1.heap.size W1 W3 := by rw [hW3]; exact hb2.alloc hb2.size _
      have z3 : W3.heap.size = w2.heap.size + 1 := by rw [hW3]; simp
      have y3 : W3.heap[w2.heap.size]? = some (.cells #[.int .i64 k', .int .i64 n', .string tt, .slice A a b, .slice A' a' b'] 25 (0, 0)) := by rw [hW3]; exact heap_alloc_last w2 _
      have r3 := (b3.block w.heap.size (by have := HZ1.out; omega)).trans HX1.out
      have v3 : VIs W3 W1.heap.size w2.heap.size v [.int .i64 k', .int .i64 n', .string tt, .slice A a b, .slice A' a' b'] := by rw [hW3]; exact hx.below ((Below.refl _ _).alloc (Nat.le_refl _) _)
      have hlt2 : w.heap.size < w2.heap.size := by have := HZ1.out; have := hb2.size; omega
      have B3 := Lib.hid b3; have Z3 := Lib.hid z3; have Y3 := Lib.hid y3; have R3 := Lib.hid r3; have V3 := Lib.hid v3; have HW3 := Lib.hid hW3
      obtain ⟨⟨m0, m1, m2, m3, m4⟩, -⟩ := box_of y3
      have hfit := fun (d : Nat) (hd : d ≤ 1000000) wq (hb : Below W3.heap.size W3 wq) => refFits_any v d wq _ _ _ hd (v3.below (hb.mono (by omega))) (by have := hb.size; omega)
      have FIT := Lib.hid hfit
      have h5 : Calls Tryd.prog 13 #[.agg #[.int .i64 k', .int .i64 n', .string tt, .slice A a b, .slice A' a' b'], .int .i64 5000] W3 fun e w' => e = .returned (.bool (v.fits 5000)) ∧ Below W3.heap.size W3 w' := hfit 5000 (by decide) W3 (Below.refl _ _)
      rw [hF5] at h5
      have H5 := Lib.hid h5
      clear hfit h5
      clear hb2 hx b3 z3 y3 r3 v3 hW3
      go_wp2_with fail
      rw [← HW3.out]
      refine (H5.out).mono ?_
      rintro e4 w4 ⟨rfl, hb4⟩
      dsimp only
      have hBW : Below W1.heap.size W1 w4 := B3.out.trans (hb4.mono B3.out.size)
      have hRW : w4.heap[w.heap.size]? = some (.cells #[.int .i64 0, .int .i64 0, .string ⟨#[]⟩, .slice none 0 0, .slice none 0 0] 25 (0, 0)) := (hBW.block w.heap.size (by have := HZ1.out; omega)).trans HX1.out
      obtain ⟨⟨p0, p1, p2, p3, p4⟩, q0, q1, q2, q3, q4⟩ := box_of hRW
      have HBW := Lib.hid hBW; have HRW := Lib.hid hRW
      clear hBW hRW
      clear hb4 m0 m1 m2 m3 m4
      go_wp2_with fail
      obtain ⟨wf, hwf⟩ : ∃ wf, wf = set5 w4 w.heap.size 0 (.int .i64 0) (.int .i64 0) (.string ⟨#[]⟩) (.slice none 0 0) (.slice none 0 0) := ⟨_, rfl⟩
      change bodyPost _ _ _ _ _ (set5 w4 w.heap.size 0 (.int .i64 0) (.int .i64 0) (.string ⟨#[]⟩) (.slice none 0 0) (.slice none 0 0))
      rw [← hwf]
      have hy : wf.heap[w.heap.size]? = some (.cells #[.int .i64 0, .int .i64 0, .string ⟨#[]⟩, .slice none 0 0, .slice none 0 0] 25 (0, 0)) := by rw [hwf]; exact set5_here HRW.out
      have hbf : Below w.heap.size w wf := by rw [hwf]; exact (HB1.out.trans (HBW.out.mono (by have := HZ1.out; omega))).trans (set5_below (Nat.le_refl _))
      obtain ⟨⟨g0, g1, g2, g3, g4⟩, -⟩ := box_of hy
      have HBF := Lib.hid hbf
      clear hbf hwf hy p0 p1 p2 p3 p4 q0 q1 q2 q3 q4
      refine bodyPost_ret (v := .tuple #[.agg #[.int .i64 0, .int .i64 0, .string ⟨#[]⟩, .slice none 0 0, .slice none 0 0], .int .i64 2]) (by simp [results, Tryd.results18, go_sem, g0, g1, g2, g3, g4]) rfl ?_
      exact ⟨⟨_, _, _, _, _, _, _, _, _, rfl, zero_isR _ _ _⟩, HBF.out⟩
    | true =>
      have hgood := fits_isgood hF5
      have hlen := HGS.out hF5 hn0
      by_cases hsh : v.show = s
      rotate_left
      · have e : PV = (V.zero, 2) := HP.out.trans (by rw [if_neg (fun h => hsh h.2.2)])
        subst e
        clear HP
        obtain ⟨T, hT⟩ : ∃ T : ByteArray, (⟨v.show.toArray⟩ : ByteArray) = T := ⟨_, rfl⟩
        have d4 : (T == S) = false := by
          refine ba_ne ?_
          rw [← hT, HS.out]
          exact fun e => hsh (str_injR e)
        have d4c : (T.toList == S.toList) = false := by
          rw [beq_eq_false_iff_ne, ← hT, HS.out, ba_list, ba_list]
          exact hsh
        have d4b : (!(T.toList == S.toList)) = true := by rw [d4c]; rfl
        go_enter Tryd.func18, Tryd.ntmps18
        go_wp2_with fail
        rw [← HW1.out]
        refine (HV.out).mono ?_
        rintro e2 w2 ⟨⟨k', n', tt, A, a, b, A', a', b', rfl, hx⟩, hb2⟩
        dsimp only
        obtain ⟨W3, hW3⟩ : ∃ W3, W3 = w2.alloc (.cells #[.int .i64 k', .int .i64 n', .string tt, .slice A a b, .slice A' a' b'] 25) := ⟨_, rfl⟩
        have b3 : Below W1.heap.size W1 W3 := by rw [hW3]; exact hb2.alloc hb2.size _
        have z3 : W3.heap.size = w2.heap.size + 1 := by rw [hW3]; simp
        have y3 : W3.heap[w2.heap.size]? = some (.cells #[.int .i64 k', .int .i64 n', .string tt, .slice A a b, .slice A' a' b'] 25 (0, 0)) := by rw [hW3]; exact heap_alloc_last w2 _
        have r3 := (b3.block w.heap.size (by have := HZ1.out; omega)).trans HX1.out
        have v3 : VIs W3 W1.heap.size w2.heap.size v [.int .i64 k', .int .i64 n', .string tt, .slice A a b, .slice A' a' b'] := by rw [hW3]; exact hx.below ((Below.refl _ _).alloc (Nat.le_refl _) _)
        have hlt2 : w.heap.size < w2.heap.size := by have := HZ1.out; have := hb2.size; omega
        have B3 := Lib.hid b3; have Z3 := Lib.hid z3; have Y3 := Lib.hid y3; have R3 := Lib.hid r3; have V3 := Lib.hid v3; have HW3 := Lib.hid hW3
        obtain ⟨⟨m0, m1, m2, m3, m4⟩, -⟩ := box_of y3
        have hfit := fun (d : Nat) (hd : d ≤ 1000000) wq (hb : Below W3.heap.size W3 wq) => refFits_any v d wq _ _ _ hd (v3.below (hb.mono (by omega))) (by have := hb.size; omega)
        have FIT := Lib.hid hfit
        have h5 : Calls Tryd.prog 13 #[.agg #[.int .i64 k', .int .i64 n', .string tt, .slice A a b, .slice A' a' b'], .int .i64 5000] W3 fun e w' => e = .returned (.bool (v.fits 5000)) ∧ Below W3.heap.size W3 w' := hfit 5000 (by decide) W3 (Below.refl _ _)
        rw [hF5] at h5
        have H5 := Lib.hid h5
        clear hfit h5
        have hsho := fun wq (hb : Below W3.heap.size W3 wq) => refShow_any v wq _ _ _ hgood hlen (v3.below (hb.mono (by omega))) (by have := hb.size; omega)
        rw [hT] at hsho
        have SHO := Lib.hid hsho
        clear hsho
        clear hb2 hx b3 z3 r3 v3 hW3 hT hsh hgood hlen
        go_wp2_with fail
        rw [← HW3.out]
        refine (H5.out).mono ?_
        rintro e4 w4 ⟨rfl, hb4⟩
        dsimp only
        have y4 := (hb4.block w2.heap.size (by have := Z3.out; omega)).trans y3
        clear m0 m1 m2 m3 m4
        obtain ⟨⟨m0, m1, m2, m3, m4⟩, -⟩ := box_of y4
        have HB4 := Lib.hid hb4; have Y4 := Lib.hid y4
        clear hb4 y4 y3
        go_wp2_with fail
        refine (SHO.out _ HB4.out).mono ?_
        rintro e5 w5 ⟨rfl, hb5⟩
        dsimp only
        have hb35 := HB4.out.trans (hb5.mono HB4.out.size)
        have y5 := (hb5.block w2.heap.size (by have := Z3.out; have := HB4.out.size; omega)).trans Y4.out
        have HB35 := Lib.hid hb35; have Y5 := Lib.hid y5
        clear hb5 m0 m1 m2 m3 m4 hb35 y5
        have hBW : Below W1.heap.size W1 w5 := B3.out.trans (HB35.out.mono B3.out.size)
        have hRW : w5.heap[w.heap.size]? = some (.cells #[.int .i64 0, .int .i64 0, .string ⟨#[]⟩, .slice none 0 0, .slice none 0 0] 25 (0, 0)) := (hBW.block w.heap.size (by have := HZ1.out; omega)).trans HX1.out
        obtain ⟨⟨p0, p1, p2, p3, p4⟩, q0, q1, q2, q3, q4⟩ := box_of hRW
        have HBW := Lib.hid hBW; have HRW := Lib.hid hRW
        clear hBW hRW
        go_wp2_with fail
        obtain ⟨wf, hwf⟩ : ∃ wf, wf = set5 w5 w.heap.size 0 (.int .i64 0) (.int .i64 0) (.string ⟨#[]⟩) (.slice none 0 0) (.slice none 0 0) := ⟨_, rfl⟩
        change bodyPost _ _ _ _ _ (set5 w5 w.heap.size 0 (.int .i64 0) (.int .i64 0) (.string ⟨#[]⟩) (.slice none 0 0) (.slice none 0 0))
        rw [← hwf]
        have hy : wf.heap[w.heap.size]? = some (.cells #[.int .i64 0, .int .i64 0, .string ⟨#[]⟩, .slice none 0 0, .slice none 0 0] 25 (0, 0)) := by rw [hwf]; exact set5_here HRW.out
        have hbf : Below w.heap.size w wf := by rw [hwf]; exact (HB1.out.trans (HBW.out.mono (by have := HZ1.out; omega))).trans (set5_below (Nat.le_refl _))
        obtain ⟨⟨g0, g1, g2, g3, g4⟩, -⟩ := box_of hy
        have HBF := Lib.hid hbf
        clear hbf hwf hy p0 p1 p2 p3 p4 q0 q1 q2 q3 q4
        refine bodyPost_ret (v := .tuple #[.agg #[.int .i64 0, .int .i64 0, .string ⟨#[]⟩, .slice none 0 0, .slice none 0 0], .int .i64 2]) (by simp [results, Tryd.results18, go_sem, g0, g1, g2, g3, g4]) rfl ?_
        exact ⟨⟨_, _, _, _, _, _, _, _, _, rfl, zero_isR _ _ _⟩, HBF.out⟩
      · obtain ⟨F8, hF8⟩ : ∃ F8, v.fits 8 = F8 := ⟨_, rfl⟩
        have hT : (⟨v.show.toArray⟩ : ByteArray) = S := by rw [hsh, HS.out]
        have d4 : (S == S) = true := ba_eq S
        have d4b : (S != S) = false := by unfold bne; rw [d4]; rfl
        have e : PV = if F8 then (v, 0) else (V.zero, 4) := HP.out.trans (by rw [if_pos ⟨rfl, hF5, hsh⟩, ← hF8])
        clear HP
        cases F8 with
        | false =>
          have e2 : PV = (V.zero, 4) := e
          subst e2
          clear e
          go_enter Tryd.func18, Tryd.ntmps18
          go_wp2_with fail
          rw [← HW1.out]
          refine (HV.out).mono ?_
          rintro e2 w2 ⟨⟨k', n', tt, A, a, b, A', a', b', rfl, hx⟩, hb2⟩
          dsimp only
          obtain ⟨W3, hW3⟩ : ∃ W3, W3 = w2.alloc (.cells #[.int .i64 k', .int .i64 n', .string tt, .slice A a b, .slice A' a' b'] 25) := ⟨_, rfl⟩
          have b3 : Below W1.heap.size W1 W3 := by rw [hW3]; exact hb2.alloc hb2.size _
          have z3 : W3.heap.size = w2.heap.size + 1 := by rw [hW3]; simp
          have y3 : W3.heap[w2.heap.size]? = some (.cells #[.int .i64 k', .int .i64 n', .string tt, .slice A a b, .slice A' a' b'] 25 (0, 0)) := by rw [hW3]; exact heap_alloc_last w2 _
          have r3 := (b3.block w.heap.size (by have := HZ1.out; omega)).trans HX1.out
          have v3 : VIs W3 W1.heap.size w2.heap.size v [.int .i64 k', .int .i64 n', .string tt, .slice A a b, .slice A' a' b'] := by rw [hW3]; exact hx.below ((Below.refl _ _).alloc (Nat.le_refl _) _)
          have hlt2 : w.heap.size < w2.heap.size := by have := HZ1.out; have := hb2.size; omega
          have B3 := Lib.hid b3; have Z3 := Lib.hid z3; have Y3 := Lib.hid y3; have R3 := Lib.hid r3; have V3 := Lib.hid v3; have HW3 := Lib.hid hW3
          obtain ⟨⟨m0, m1, m2, m3, m4⟩, -⟩ := box_of y3
          have hfit := fun (d : Nat) (hd : d ≤ 1000000) wq (hb : Below W3.heap.size W3 wq) => refFits_any v d wq _ _ _ hd (v3.below (hb.mono (by omega))) (by have := hb.size; omega)
          have FIT := Lib.hid hfit
          have h5 : Calls Tryd.prog 13 #[.agg #[.int .i64 k', .int .i64 n', .string tt, .slice A a b, .slice A' a' b'], .int .i64 5000] W3 fun e w' => e = .returned (.bool (v.fits 5000)) ∧ Below W3.heap.size W3 w' := hfit 5000 (by decide) W3 (Below.refl _ _)
          rw [hF5] at h5
          have H5 := Lib.hid h5
          clear hfit h5
          have hsho := fun wq (hb : Below W3.heap.size W3 wq) => refShow_any v wq _ _ _ hgood hlen (v3.below (hb.mono (by omega))) (by have := hb.size; omega)
          rw [hT] at hsho
          have SHO := Lib.hid hsho
          clear hsho
          have h8 : ∀ wq, Below W3.heap.size W3 wq → Calls Tryd.prog 13 #[.agg #[.int .i64 k', .int .i64 n', .string tt, .slice A a b, .slice A' a' b'], .int .i64 8] wq fun e w' => e = .returned (.bool false) ∧ Below wq.heap.size wq w' := fun wq hb => by rw [← hF8]; exact FIT.out 8 (by decide) wq hb
          have H8 := Lib.hid h8
          clear h8
          clear hb2 hx b3 z3 r3 v3 hW3 hT hsh hgood hlen
          go_wp2_with fail
          rw [← HW3.out]
          refine (H5.out).mono ?_
          rintro e4 w4 ⟨rfl, hb4⟩
          dsimp only
          have y4 := (hb4.block w2.heap.size (by have := Z3.out; omega)).trans y3
          clear m0 m1 m2 m3 m4
          obtain ⟨⟨m0, m1, m2, m3, m4⟩, -⟩ := box_of y4
          have HB4 := Lib.hid hb4; have Y4 := Lib.hid y4
          clear hb4 y4 y3
          go_wp2_with fail
          refine (SHO.out _ HB4.out).mono ?_
          rintro e5 w5 ⟨rfl, hb5⟩
          dsimp only
          have hb35 := HB4.out.trans (hb5.mono HB4.out.size)
          have y5 := (hb5.block w2.heap.size (by have := Z3.out; have := HB4.out.size; omega)).trans Y4.out
          have HB35 := Lib.hid hb35; have Y5 := Lib.hid y5
          clear hb5 m0 m1 m2 m3 m4 hb35 y5
          obtain ⟨⟨m0, m1, m2, m3, m4⟩, -⟩ := box_of Y5.out
          go_wp2_with fail
          refine (H8.out _ HB35.out).mono ?_
          rintro e6 w6 ⟨rfl, hb6⟩
          dsimp only
          have hb36 := HB35.out.trans (hb6.mono HB35.out.size)
          have HB36 := Lib.hid hb36
          clear m0 m1 m2 m3 m4
          clear hb6 hb36
          have hBW : Below W1.heap.size W1 w6 := B3.out.trans (HB36.out.mono B3.out.size)
          have hRW : w6.heap[w.heap.size]? = some (.cells #[.int .i64 0, .int .i64 0, .string ⟨#[]⟩, .slice none 0 0, .slice none 0 0] 25 (0, 0)) := (hBW.block w.heap.size (by have := HZ1.out; omega)).trans HX1.out
          obtain ⟨⟨p0, p1, p2, p3, p4⟩, q0, q1, q2, q3, q4⟩ := box_of hRW
          have HBW := Lib.hid hBW; have HRW := Lib.hid hRW
          clear hBW hRW
          go_wp2_with fail
          obtain ⟨wf, hwf⟩ : ∃ wf, wf = set5 w6 w.heap.size 0 (.int .i64 0) (.int .i64 0) (.string ⟨#[]⟩) (.slice none 0 0) (.slice none 0 0) := ⟨_, rfl⟩
          change bodyPost _ _ _ _ _ (set5 w6 w.heap.size 0 (.int .i64 0) (.int .i64 0) (.string ⟨#[]⟩) (.slice none 0 0) (.slice none 0 0))
          rw [← hwf]
          have hy : wf.heap[w.heap.size]? = some (.cells #[.int .i64 0, .int .i64 0, .string ⟨#[]⟩, .slice none 0 0, .slice none 0 0] 25 (0, 0)) := by rw [hwf]; exact set5_here HRW.out
          have hbf : Below w.heap.size w wf := by rw [hwf]; exact (HB1.out.trans (HBW.out.mono (by have := HZ1.out; omega))).trans (set5_below (Nat.le_refl _))
          obtain ⟨⟨g0, g1, g2, g3, g4⟩, -⟩ := box_of hy
          have HBF := Lib.hid hbf
          clear hbf hwf hy p0 p1 p2 p3 p4 q0 q1 q2 q3 q4
          refine bodyPost_ret (v := .tuple #[.agg #[.int .i64 0, .int .i64 0, .string ⟨#[]⟩, .slice none 0 0, .slice none 0 0], .int .i64 4]) (by simp [results, Tryd.results18, go_sem, g0, g1, g2, g3, g4]) rfl ?_
          exact ⟨⟨_, _, _, _, _, _, _, _, _, rfl, zero_isR _ _ _⟩, HBF.out⟩
        | true =>
          have e2 : PV = (v, 0) := e
          subst e2
          clear e
          go_enter Tryd.func18, Tryd.ntmps18
          go_wp2_with fail
          rw [← HW1.out]
          refine (HV.out).mono ?_
          rintro e2 w2 ⟨⟨k', n', tt, A, a, b, A', a', b', rfl, hx⟩, hb2⟩
          dsimp only
          obtain ⟨W3, hW3⟩ : ∃ W3, W3 = w2.alloc (.cells #[.int .i64 k', .int .i64 n', .string tt, .slice A a b, .slice A' a' b'] 25) := ⟨_, rfl⟩
          have b3 : Below W1.heap.size W1 W3 := by rw [hW3]; exact hb2.alloc hb2.size _
          have z3 : W3.heap.size = w2.heap.size + 1 := by rw [hW3]; simp
          have y3 : W3.heap[w2.heap.size]? = some (.cells #[.int .i64 k', .int .i64 n', .string tt, .slice A a b, .slice A' a' b'] 25 (0, 0)) := by rw [hW3]; exact heap_alloc_last w2 _
          have r3 := (b3.block w.heap.size (by have := HZ1.out; omega)).trans HX1.out
          have v3 : VIs W3 W1.heap.size w2.heap.size v [.int .i64 k', .int .i64 n', .string tt, .slice A a b, .slice A' a' b'] := by rw [hW3]; exact hx.below ((Below.refl _ _).alloc (Nat.le_refl _) _)
          have hlt2 : w.heap.size < w2.heap.size := by have := HZ1.out; have := hb2.size; omega
          have B3 := Lib.hid b3; have Z3 := Lib.hid z3; have Y3 := Lib.hid y3; have R3 := Lib.hid r3; have V3 := Lib.hid v3; have HW3 := Lib.hid hW3
          obtain ⟨⟨m0, m1, m2, m3, m4⟩, -⟩ := box_of y3
          have hfit := fun (d : Nat) (hd : d ≤ 1000000) wq (hb : Below W3.heap.size W3 wq) => refFits_any v d wq _ _ _ hd (v3.below (hb.mono (by omega))) (by have := hb.size; omega)
          have FIT := Lib.hid hfit
          have h5 : Calls Tryd.prog 13 #[.agg #[.int .i64 k', .int .i64 n', .string tt, .slice A a b, .slice A' a' b'], .int .i64 5000] W3 fun e w' => e = .returned (.bool (v.fits 5000)) ∧ Below W3.heap.size W3 w' := hfit 5000 (by decide) W3 (Below.refl _ _)
          rw [hF5] at h5
          have H5 := Lib.hid h5
          clear hfit h5
          have hsho := fun wq (hb : Below W3.heap.size W3 wq) => refShow_any v wq _ _ _ hgood hlen (v3.below (hb.mono (by omega))) (by have := hb.size; omega)
          rw [hT] at hsho
          have SHO := Lib.hid hsho
          clear hsho
          have h8 : ∀ wq, Below W3.heap.size W3 wq → Calls Tryd.prog 13 #[.agg #[.int .i64 k', .int .i64 n', .string tt, .slice A a b, .slice A' a' b'], .int .i64 8] wq fun e w' => e = .returned (.bool true) ∧ Below wq.heap.size wq w' := fun wq hb => by rw [← hF8]; exact FIT.out 8 (by decide) wq hb
          have H8 := Lib.hid h8
          clear h8
          clear hb2 hx b3 z3 r3 v3 hW3 hT hsh hgood hlen
          go_wp2_with fail
          rw [← HW3.out]
          refine (H5.out).mono ?_
          rintro e4 w4 ⟨rfl, hb4⟩
          dsimp only
          have y4 := (hb4.block w2.heap.size (by have := Z3.out; omega)).trans y3
          clear m0 m1 m2 m3 m4
          obtain ⟨⟨m0, m1, m2, m3, m4⟩, -⟩ := box_of y4
          have HB4 := Lib.hid hb4; have Y4 := Lib.hid y4
          clear hb4 y4 y3
          go_wp2_with fail
          refine (SHO.out _ HB4.out).mono ?_
          rintro e5 w5 ⟨rfl, hb5⟩
          dsimp only
          have hb35 := HB4.out.trans (hb5.mono HB4.out.size)
          have y5 := (hb5.block w2.heap.size (by have := Z3.out; have := HB4.out.size; omega)).trans Y4.out
          have HB35 := Lib.hid hb35; have Y5 := Lib.hid y5
          clear hb5 m0 m1 m2 m3 m4 hb35 y5
          obtain ⟨⟨m0, m1, m2, m3, m4⟩, -⟩ := box_of Y5.out
          go_wp2_with fail
          refine (H8.out _ HB35.out).mono ?_
          rintro e6 w6 ⟨rfl, hb6⟩
          dsimp only
          have hb36 := HB35.out.trans (hb6.mono HB35.out.size)
          have HB36 := Lib.hid hb36
          clear m0 m1 m2 m3 m4
          have y6 := (hb6.block w2.heap.size (by have := Z3.out; have := HB35.out.size; omega)).trans Y5.out
          obtain ⟨⟨m0, m1, m2, m3, m4⟩, -⟩ := box_of y6
          have V6 := Lib.hid (V3.out.below (hb36.mono (by have := Z3.out; omega)))
          have HS6 := Lib.hid hb36.size
          clear hb6 hb36 y6
          have hBW : Below W1.heap.size W1 w6 := B3.out.trans (HB36.out.mono B3.out.size)
          have hRW : w6.heap[w.heap.size]? = some (.cells #[.int .i64 0, .int .i64 0, .string ⟨#[]⟩, .slice none 0 0, .slice none 0 0] 25 (0, 0)) := (hBW.block w.heap.size (by have := HZ1.out; omega)).trans HX1.out
          obtain ⟨⟨p0, p1, p2, p3, p4⟩, q0, q1, q2, q3, q4⟩ := box_of hRW
          have HBW := Lib.hid hBW; have HRW := Lib.hid hRW
          clear hBW hRW
          go_wp2_with fail
          obtain ⟨wf, hwf⟩ : ∃ wf, wf = set5 w6 w.heap.size 0 (.int .i64 k') (.int .i64 n') (.string tt) (.slice A a b) (.slice A' a' b') := ⟨_, rfl⟩
          change bodyPost _ _ _ _ _ (set5 w6 w.heap.size 0 (.int .i64 k') (.int .i64 n') (.string tt) (.slice A a b) (.slice A' a' b'))
          rw [← hwf]
          have hy : wf.heap[w.heap.size]? = some (.cells #[.int .i64 k', .int .i64 n', .string tt, .slice A a b, .slice A' a' b'] 25 (0, 0)) := by rw [hwf]; exact set5_here HRW.out
          have hbf : Below w.heap.size w wf := by rw [hwf]; exact (HB1.out.trans (HBW.out.mono (by have := HZ1.out; omega))).trans (set5_below (Nat.le_refl _))
          have hvf : VIs wf w.heap.size wf.heap.size v [.int .i64 k', .int .i64 n', .string tt, .slice A a b, .slice A' a' b'] := by
            have hsf : wf.heap.size = w6.heap.size := by rw [hwf, set5_size]
            rw [hsf]
            have h1 := HZ1.out; have h2 := Z3.out; have h3 := HS6.out
            exact (V6.out.keep2 fun p h1 h2 => World.cell?_of_block (w := w6) (by rw [hwf]; exact set5_there (by omega))).more (by omega) (by omega)
          obtain ⟨⟨g0, g1, g2, g3, g4⟩, -⟩ := box_of hy
          have HBF := Lib.hid hbf; have HVF := Lib.hid hvf
          clear hbf hvf hwf hy p0 p1 p2 p3 p4 q0 q1 q2 q3 q4 m0 m1 m2 m3 m4
          refine bodyPost_ret (v := .tuple #[.agg #[.int .i64 k', .int .i64 n', .string tt, .slice A a b, .slice A' a' b'], .int .i64 0]) (by simp [results, Tryd.results18, go_sem, g0, g1, g2, g3, g4]) rfl ?_
          exact ⟨⟨_, _, _, _, _, _, _, _, _, rfl, HVF.out⟩, HBF.out⟩
end Go.Proofs.YtoijjcbcmjdggaaDoor
