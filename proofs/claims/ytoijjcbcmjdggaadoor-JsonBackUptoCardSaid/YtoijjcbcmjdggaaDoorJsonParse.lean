/- JSON: the code's Parse. -/
import Derived.Test.YtoijjcbcmjdggaaDoorJsonValue
import Derived.Test.YtoijjcbcmjdggaaDoorJsonFits
import Derived.Test.YtoijjcbcmjdggaaDoorJsonCodeV
namespace Go.Proofs.YtoijjcbcmjdggaaDoor
open Go.RowKit

theorem zero_cells (w : World) (L N : Nat) : VIs w L N V.zero [.int .i64 0, .int .i64 0, .string ⟨#[]⟩, .slice none 0 0, .slice none 0 0] := plain_is w L N 0 0 [] (by simp)
set_option maxRecDepth 100000 in
set_option maxHeartbeats 20000000 in
theorem parse_any (s : List UInt8) (hs : s.length ≤ 9223372036854775807) (w : World) (hk : KitIn w.heap.size w) :
    Calls Tryd.prog 15 #[.string ⟨s.toArray⟩] w fun e w' => (∃ cs, e = .returned (.tuple #[.agg cs.toArray, .int .i64 (parseV s).2]) ∧ VIs w' w.heap.size w'.heap.size (parseV s).1 cs) ∧ Below w.heap.size w w' := by
  obtain ⟨PV, hPV⟩ : ∃ PV, parseV s = PV := ⟨_, rfl⟩
  rw [hPV]
  rw [← parseC_eq (2 * s.length + 1) s (by omega)] at hPV
  obtain ⟨S, hS⟩ : ∃ S : ByteArray, (⟨s.toArray⟩ : ByteArray) = S := ⟨_, rfl⟩
  have hsz : S.size = s.length := by rw [← hS, str_sizeL]
  obtain ⟨R, hR⟩ : ∃ R, w.heap.size = R := ⟨_, rfl⟩
  obtain ⟨W1, hW1⟩ : ∃ W1, W1 = w.alloc (.cells #[.int .i64 0, .int .i64 0, .string ⟨#[]⟩, .slice none 0 0, .slice none 0 0] 25) := ⟨_, rfl⟩
  have b1 : Below R w W1 := by rw [hW1, ← hR]; exact (Below.refl _ _).alloc (Nat.le_refl _) _
  have z1 : W1.heap.size = R + 1 := by rw [hW1, ← hR]; simp
  have r1 : W1.heap[R]? = some (.cells #[.int .i64 0, .int .i64 0, .string ⟨#[]⟩, .slice none 0 0, .slice none 0 0] 25 (0, 0)) := by
    rw [hW1, ← hR]; exact heap_alloc_last w _
  have k1 := hk.below (b1.mono (by omega))
  have hS0 : S.size ≤ 9223372036854775807 := by omega
  by_cases hl : 4096 < s.length
  · have e : PV = (V.zero, 3) := hPV.symm.trans (by unfold parseC; rw [if_pos hl])
    subst e
    rw [hS]
    have hl2 : 4096 < S.size := by omega
    have HR := Lib.hid hR; have HW1 := Lib.hid hW1; have HB1 := Lib.hid b1; have R1 := Lib.hid r1; have Z1 := Lib.hid z1; have K1 := Lib.hid k1
    clear hR hW1 b1 r1 z1 k1 hk hPV hS hsz hl hs
    obtain ⟨⟨e0, e1, e2, e3, e4⟩, f0, f1, f2, f3, f4⟩ := box_of R1.out
    go_enter Tryd.func15, Tryd.ntmps15
    go_wp2_with fail
    refine bodyPost_ret (v := .tuple #[.agg #[.int .i64 0, .int .i64 0, .string ⟨#[]⟩, .slice none 0 0, .slice none 0 0], .int .i64 3]) (by simp [results, Tryd.results15, go_sem]) rfl ?_
    exact ⟨⟨[_, _, _, _, _], rfl, zero_cells _ _ _⟩, (Below.refl _ _).alloc (Nat.le_refl _) _⟩
  · have hvs := value_all w.heap.size (2 * s.length + 1) (2 * s.length + 1) s (Nat.le_refl _) (by omega) (Nat.le_refl _)
    rw [show parseC (2 * s.length + 1) s = (match valueC (2 * s.length + 1) s with
      | some (v, []) => if v.good then (if v.depth ≤ 8 then (v, 0) else (V.zero, 4)) else (V.zero, 2)
      | _ => (V.zero, 2)) from by unfold parseC; rw [if_neg hl]; rfl] at hPV
    have hval : Calls Tryd.prog 28 #[.string ⟨s.toArray⟩] W1 fun e w' => Outs (valueC (2 * s.length + 1) s) W1 e w' := hvs W1 k1 (by omega)
    rw [hS] at hval ⊢
    have hl2 : ¬ 4096 < S.size := by omega
    have hl3 : S.size ≤ 4096 := by omega
    have HR := Lib.hid hR; have HW1 := Lib.hid hW1; have HB1 := Lib.hid b1; have R1 := Lib.hid r1; have Z1 := Lib.hid z1; have K1 := Lib.hid k1; have HV := Lib.hid hval; have HPV := Lib.hid hPV
    clear hR hW1 b1 r1 z1 k1 hk hPV hS hsz hl hs hvs hval
    obtain ⟨VC, hVC⟩ : ∃ VC, valueC (2 * s.length + 1) s = VC := ⟨_, rfl⟩
    rw [hVC] at HPV HV
    clear hVC
    go_enter Tryd.func15, Tryd.ntmps15
    go_wp2_with fail
    rw [← HW1.out, HR.out]
    refine (HV.out).mono ?_
    rintro e2 w2 ⟨⟨k, n, t, A, a, b, A', a', b', rest, ok, rfl, hok⟩, hb2⟩
    dsimp only
    have hz2 := hb2.size
    obtain ⟨IT, hIT⟩ : ∃ IT, IT = Obj.cells #[.int .i64 k, .int .i64 n, .string t, .slice A a b, .slice A' a' b'] 25 := ⟨_, rfl⟩
    have hb3 := hb2.alloc hb2.size IT
    have r3 := (hb3.block R (by have := Z1.out; omega)).trans R1.out
    have bw3 : Below R w (w2.alloc IT) := HB1.out.trans (hb3.mono (by have := Z1.out; omega))
    rw [hIT] at hb3 r3 bw3
    have HB3 := Lib.hid hb3; have R3 := Lib.hid r3; have BW3 := Lib.hid bw3
    clear hb3 r3 bw3 hIT hb2
    obtain ⟨⟨e0, e1, e2, e3, e4⟩, f0, f1, f2, f3, f4⟩ := box_of R3.out
    cases VC with
    | none =>
      have hok' : ok = false := hok
      have e : PV = (V.zero, 2) := HPV.out.symm
      subst hok'; subst e
      clear hok
      go_wp2_with fail
      obtain ⟨wf, hwf⟩ : ∃ wf, wf = set5 (w2.alloc (.cells #[.int .i64 k, .int .i64 n, .string t, .slice A a b, .slice A' a' b'] 25)) R 0 (.int .i64 0) (.int .i64 0) (.string ⟨#[]⟩) (.slice none 0 0) (.slice none 0 0) := ⟨_, rfl⟩
      change bodyPost _ _ _ _ _ (set5 (w2.alloc (.cells #[.int .i64 k, .int .i64 n, .string t, .slice A a b, .slice A' a' b'] 25)) R 0 (.int .i64 0) (.int .i64 0) (.string ⟨#[]⟩) (.slice none 0 0) (.slice none 0 0))
      rw [← hwf]
      have hx9 : wf.heap[R]? = some (.cells #[.int .i64 0, .int .i64 0, .string ⟨#[]⟩, .slice none 0 0, .slice none 0 0] 25 (0, 0)) := by rw [hwf]; exact set5_here R3.out
      have hbf : Below R w wf := by rw [hwf]; exact BW3.out.trans (set5_below (Nat.le_refl _))
      obtain ⟨⟨x0, x1, x2, x3, x4⟩, -⟩ := box_of hx9
      have HBF := Lib.hid hbf
      clear hbf hwf hx9 e0 e1 e2 e3 e4 f0 f1 f2 f3 f4
      refine bodyPost_ret (v := .tuple #[.agg #[.int .i64 0, .int .i64 0, .string ⟨#[]⟩, .slice none 0 0, .slice none 0 0], .int .i64 2]) (by simp [results, Tryd.results15, go_sem, x0, x1, x2, x3, x4]) rfl ?_
      exact ⟨⟨[_, _, _, _, _], rfl, zero_cells _ _ _⟩, by rw [HR.out]; exact HBF.out⟩
    | some y =>
      obtain ⟨x, r⟩ := y
      obtain ⟨hok1, hok2, hx⟩ := hok
      subst hok1; subst hok2
      cases rest with
      | cons c rest =>
        have e : PV = (V.zero, 2) := HPV.out.symm
        subst e
        go_wp2_with fail
        obtain ⟨wf, hwf⟩ : ∃ wf, wf = set5 (w2.alloc (.cells #[.int .i64 k, .int .i64 n, .string t, .slice A a b, .slice A' a' b'] 25)) R 0 (.int .i64 0) (.int .i64 0) (.string ⟨#[]⟩) (.slice none 0 0) (.slice none 0 0) := ⟨_, rfl⟩
        change bodyPost _ _ _ _ _ (set5 (w2.alloc (.cells #[.int .i64 k, .int .i64 n, .string t, .slice A a b, .slice A' a' b'] 25)) R 0 (.int .i64 0) (.int .i64 0) (.string ⟨#[]⟩) (.slice none 0 0) (.slice none 0 0))
        rw [← hwf]
        have hx9 : wf.heap[R]? = some (.cells #[.int .i64 0, .int .i64 0, .string ⟨#[]⟩, .slice none 0 0, .slice none 0 0] 25 (0, 0)) := by rw [hwf]; exact set5_here R3.out
        have hbf : Below R w wf := by rw [hwf]; exact BW3.out.trans (set5_below (Nat.le_refl _))
        obtain ⟨⟨x0, x1, x2, x3, x4⟩, -⟩ := box_of hx9
        have HBF := Lib.hid hbf
        clear hbf hwf hx9 e0 e1 e2 e3 e4 f0 f1 f2 f3 f4
        refine bodyPost_ret (v := .tuple #[.agg #[.int .i64 0, .int .i64 0, .string ⟨#[]⟩, .slice none 0 0, .slice none 0 0], .int .i64 2]) (by simp [results, Tryd.results15, go_sem, x0, x1, x2, x3, x4]) rfl ?_
        exact ⟨⟨[_, _, _, _, _], rfl, zero_cells _ _ _⟩, by rw [HR.out]; exact HBF.out⟩
      | nil =>
        have hx3 : VIs (w2.alloc (.cells #[.int .i64 k, .int .i64 n, .string t, .slice A a b, .slice A' a' b'] 25)) W1.heap.size (w2.alloc (.cells #[.int .i64 k, .int .i64 n, .string t, .slice A a b, .slice A' a' b'] 25)).heap.size x [.int .i64 k, .int .i64 n, .string t, .slice A a b, .slice A' a' b'] := (hx.below ((Below.refl w2.heap.size w2).alloc (Nat.le_refl _) (.cells #[.int .i64 k, .int .i64 n, .string t, .slice A a b, .slice A' a' b'] 25))).more (Nat.le_refl _) (by simp)
        have h53 : Five (w2.alloc (.cells #[.int .i64 k, .int .i64 n, .string t, .slice A a b, .slice A' a' b'] 25)) w2.heap.size 0 [.int .i64 k, .int .i64 n, .string t, .slice A a b, .slice A' a' b'] := five_new hx 25
        have hfit := fits_any x (w2.alloc (.cells #[.int .i64 k, .int .i64 n, .string t, .slice A a b, .slice A' a' b'] 25)) W1.heap.size (w2.alloc (.cells #[.int .i64 k, .int .i64 n, .string t, .slice A a b, .slice A' a' b'] 25)).heap.size w2.heap.size 0 _ h53 (by simp) hx3 (Nat.le_refl _)
        have hG : PV = if x.good then (if x.depth ≤ 8 then (x, 0) else (V.zero, 4)) else (V.zero, 2) := HPV.out.symm
        have hs3 : (w2.alloc (.cells #[.int .i64 k, .int .i64 n, .string t, .slice A a b, .slice A' a' b'] 25)).heap.size = w2.heap.size + 1 := by simp
        have hwit : ∀ w4, Below (w2.alloc (.cells #[.int .i64 k, .int .i64 n, .string t, .slice A a b, .slice A' a' b'] 25)).heap.size (w2.alloc (.cells #[.int .i64 k, .int .i64 n, .string t, .slice A a b, .slice A' a' b'] 25)) w4 → Calls Tryd.prog 25 #[.pointer (some ⟨w2.heap.size, 0, none⟩), .int .i64 8] w4 fun e w' => e = .returned (.bool (decide (x.depth ≤ 8))) ∧ Below w4.heap.size w4 w' := fun w4 hb =>
          within_any x 8 w4 W1.heap.size (w2.alloc (.cells #[.int .i64 k, .int .i64 n, .string t, .slice A a b, .slice A' a' b'] 25)).heap.size w2.heap.size 0 _ (by decide) (h53.keep (by rw [hs3]; omega) fun z hz => hb.cell hz) (by simp) (hx3.below hb) hb.size
        cases hg : x.good with
        | false =>
          rw [hg] at hG hfit
          have e : PV = (V.zero, 2) := hG
          subst e
          have FIT := Lib.hid hfit
          clear hfit hwit hG hx3 h53 hx hg HPV hs3
          go_wp2_with fail
          refine (FIT.out).mono ?_
          rintro e4 w4 ⟨rfl, hb4⟩
          dsimp only
          have r4 := (hb4.block R (by have := Z1.out; simp; omega)).trans R3.out
          have bw4 := BW3.out.trans (hb4.mono (by have := Z1.out; simp; omega))
          have R4 := Lib.hid r4; have BW4 := Lib.hid bw4
          clear e0 e1 e2 e3 e4 f0 f1 f2 f3 f4 r4 bw4
          obtain ⟨⟨e0, e1, e2, e3, e4⟩, f0, f1, f2, f3, f4⟩ := box_of R4.out
          go_wp2_with fail
          obtain ⟨wf, hwf⟩ : ∃ wf, wf = set5 (w4) R 0 (.int .i64 0) (.int .i64 0) (.string ⟨#[]⟩) (.slice none 0 0) (.slice none 0 0) := ⟨_, rfl⟩
          change bodyPost _ _ _ _ _ (set5 (w4) R 0 (.int .i64 0) (.int .i64 0) (.string ⟨#[]⟩) (.slice none 0 0) (.slice none 0 0))
          rw [← hwf]
          have hx9 : wf.heap[R]? = some (.cells #[.int .i64 0, .int .i64 0, .string ⟨#[]⟩, .slice none 0 0, .slice none 0 0] 25 (0, 0)) := by rw [hwf]; exact set5_here R4.out
          have hbf : Below R w wf := by rw [hwf]; exact BW4.out.trans (set5_below (Nat.le_refl _))
          obtain ⟨⟨x0, x1, x2, x3, x4⟩, -⟩ := box_of hx9
          have HBF := Lib.hid hbf
          clear hbf hwf hx9 e0 e1 e2 e3 e4 f0 f1 f2 f3 f4
          refine bodyPost_ret (v := .tuple #[.agg #[.int .i64 0, .int .i64 0, .string ⟨#[]⟩, .slice none 0 0, .slice none 0 0], .int .i64 2]) (by simp [results, Tryd.results15, go_sem, x0, x1, x2, x3, x4]) rfl ?_
          exact ⟨⟨[_, _, _, _, _], rfl, zero_cells _ _ _⟩, by rw [HR.out]; exact HBF.out⟩
        | true =>
          rw [hg] at hG hfit
          have FIT := Lib.hid hfit
          have HWIT := Lib.hid hwit; have HG := Lib.hid hG; have HX3 := Lib.hid hx3; have H53 := Lib.hid h53
          clear hfit hwit hG hx3 h53 hx hg HPV hs3
          go_wp2_with fail
          refine (FIT.out).mono ?_
          rintro e4 w4 ⟨rfl, hb4⟩
          dsimp only
          have hb44 := hb4
          have r4 := (hb4.block R (by have := Z1.out; simp; omega)).trans R3.out
          have bw4 := BW3.out.trans (hb4.mono (by have := Z1.out; simp; omega))
          have R4 := Lib.hid r4; have BW4 := Lib.hid bw4
          have hwi4 := HWIT.out w4 hb4
          have z4 := hb4.size
          simp only [World.size_alloc] at z4
          have h54 : Five w4 w2.heap.size 0 [.int .i64 k, .int .i64 n, .string t, .slice A a b, .slice A' a' b'] := H53.out.keep (by simp) fun z hz => hb4.cell hz
          have hx4 := HX3.out.below hb4
          clear e0 e1 e2 e3 e4 f0 f1 f2 f3 f4 r4 bw4 hb44 hb4
          by_cases hd : x.depth ≤ 8
          · rw [decide_eq_true hd] at hwi4
            have e : PV = (x, 0) := HG.out.trans (by rw [if_pos trivial, if_pos hd])
            subst e
            have HWI4 := Lib.hid hwi4; have H54 := Lib.hid h54; have HX4 := Lib.hid hx4
            clear hwi4 h54 hx4 hd HWIT FIT HG
            go_wp2_with fail
            refine (HWI4.out).mono ?_
            rintro e5 w5 ⟨rfl, hb5⟩
            dsimp only
            have hz1 := Z1.out
            have hz5 := hb5.size
            have r5 := (hb5.block R (by omega)).trans R4.out
            have bw5 := BW4.out.trans (hb5.mono (by omega))
            have h55 : Five w5 w2.heap.size 0 [.int .i64 k, .int .i64 n, .string t, .slice A a b, .slice A' a' b'] := H54.out.keep (N := w4.heap.size) (by omega) fun z hz => hb5.cell hz
            have hx5 := HX4.out.below (hb5.mono (by simp; omega))
            obtain ⟨d0, d1, d2, d3, d4, hd, m0, m1, m2, m3, m4⟩ := h55
            injection hd with i0 hd; injection hd with i1 hd; injection hd with i2 hd; injection hd with i3 hd; injection hd with i4 hd
            subst i0; subst i1; subst i2; subst i3; subst i4
            obtain ⟨⟨e0, e1, e2, e3, e4⟩, f0, f1, f2, f3, f4⟩ := box_of r5
            have R5 := Lib.hid r5; have BW5 := Lib.hid bw5; have HX5 := Lib.hid hx5; have HZ1 := Lib.hid hz1; have HZ5 := Lib.hid hz5; have Z4 := Lib.hid z4
            clear r5 bw5 hx5 hb5 hd hz1 hz5 z4
            go_wp2_with fail
            obtain ⟨wf, hwf⟩ : ∃ wf, wf = set5 w5 R 0 (.int .i64 k) (.int .i64 n) (.string t) (.slice A a b) (.slice A' a' b') := ⟨_, rfl⟩
            change bodyPost _ _ _ _ _ (set5 w5 R 0 (.int .i64 k) (.int .i64 n) (.string t) (.slice A a b) (.slice A' a' b'))
            rw [← hwf]
            have hx9 : wf.heap[R]? = some (.cells #[.int .i64 k, .int .i64 n, .string t, .slice A a b, .slice A' a' b'] 25 (0, 0)) := by rw [hwf]; exact set5_here R5.out
            have hbf : Below R w wf := by rw [hwf]; exact BW5.out.trans (set5_below (Nat.le_refl _))
            have hvf : VIs wf w.heap.size wf.heap.size x [.int .i64 k, .int .i64 n, .string t, .slice A a b, .slice A' a' b'] := by
              have hsf : wf.heap.size = w5.heap.size := by rw [hwf, set5_size]
              rw [hsf]
              have hz1 := HZ1.out; have hrr := HR.out; have hz5 := HZ5.out; have z4 := Z4.out
              refine (HX5.out.keep2 fun q h1 h2 => ?_).more (by omega) (by simp; omega)
              have hne : q.block ≠ R := by omega
              exact World.cell?_of_block (w := w5) (by rw [hwf]; exact set5_there hne)
            obtain ⟨⟨x0, x1, x2, x3, x4⟩, -⟩ := box_of hx9
            have HBF := Lib.hid hbf; have HVF := Lib.hid hvf
            clear hbf hwf hx9 hvf e0 e1 e2 e3 e4 f0 f1 f2 f3 f4 m0 m1 m2 m3 m4
            refine bodyPost_ret (v := .tuple #[.agg #[.int .i64 k, .int .i64 n, .string t, .slice A a b, .slice A' a' b'], .int .i64 0]) (by simp [results, Tryd.results15, go_sem, x0, x1, x2, x3, x4]) rfl ?_
            exact ⟨⟨[_, _, _, _, _], rfl, HVF.out⟩, by rw [HR.out]; exact HBF.out⟩
          · rw [decide_eq_false hd] at hwi4
            have e : PV = (V.zero, 4) := HG.out.trans (by rw [if_pos trivial, if_neg hd])
            subst e
            have HWI4 := Lib.hid hwi4
            clear hwi4 h54 hx4 hd HWIT FIT HG
            go_wp2_with fail
            refine (HWI4.out).mono ?_
            rintro e5 w5 ⟨rfl, hb5⟩
            dsimp only
            have r5 := (hb5.block R (by have := Z1.out; omega)).trans R4.out
            have bw5 := BW4.out.trans (hb5.mono (by have := Z1.out; omega))
            obtain ⟨⟨e0, e1, e2, e3, e4⟩, f0, f1, f2, f3, f4⟩ := box_of r5
            have R5 := Lib.hid r5; have BW5 := Lib.hid bw5
            clear r5 bw5 hb5
            go_wp2_with fail
            obtain ⟨wf, hwf⟩ : ∃ wf, wf = set5 (w5) R 0 (.int .i64 0) (.int .i64 0) (.string ⟨#[]⟩) (.slice none 0 0) (.slice none 0 0) := ⟨_, rfl⟩
            change bodyPost _ _ _ _ _ (set5 (w5) R 0 (.int .i64 0) (.int .i64 0) (.string ⟨#[]⟩) (.slice none 0 0) (.slice none 0 0))
            rw [← hwf]
            have hx9 : wf.heap[R]? = some (.cells #[.int .i64 0, .int .i64 0, .string ⟨#[]⟩, .slice none 0 0, .slice none 0 0] 25 (0, 0)) := by rw [hwf]; exact set5_here R5.out
            have hbf : Below R w wf := by rw [hwf]; exact BW5.out.trans (set5_below (Nat.le_refl _))
            obtain ⟨⟨x0, x1, x2, x3, x4⟩, -⟩ := box_of hx9
            have HBF := Lib.hid hbf
            clear hbf hwf hx9 e0 e1 e2 e3 e4 f0 f1 f2 f3 f4
            refine bodyPost_ret (v := .tuple #[.agg #[.int .i64 0, .int .i64 0, .string ⟨#[]⟩, .slice none 0 0, .slice none 0 0], .int .i64 4]) (by simp [results, Tryd.results15, go_sem, x0, x1, x2, x3, x4]) rfl ?_
            exact ⟨⟨[_, _, _, _, _], rfl, zero_cells _ _ _⟩, by rw [HR.out]; exact HBF.out⟩
end Go.Proofs.YtoijjcbcmjdggaaDoor
