/- JSON: the law JsonReads. -/
import Derived.Test.YtoijjcbcmjdggaaDoorJsonRParse
import Derived.Test.YtoijjcbcmjdggaaDoorJsonAnswers
namespace Go.Proofs.YtoijjcbcmjdggaaDoor
open Go.RowKit
set_option linter.unusedVariables false
set_option linter.unusedSimpArgs false

theorem parse_cases (s : List UInt8) : ((parseV s).2 = 0 ∧ (parseV s).1.fits 8 = true ∧ (parseV s).1.show = s ∧ s.length ≤ 4096) ∨ ((parseV s).1 = V.zero ∧ (parseV s).2 ≠ 0) := by
  unfold parseV
  by_cases h : 4096 < s.length
  · rw [if_pos h]; exact .inr ⟨rfl, by decide⟩
  · rw [if_neg h]
    cases hr : readV s with
    | none => exact .inr ⟨rfl, by decide⟩
    | some v =>
      dsimp only
      by_cases h8 : v.fits 8 = true
      · rw [if_pos h8]
        exact .inl ⟨rfl, h8, (readV_some hr).2, by omega⟩
      · rw [if_neg h8]; exact .inr ⟨rfl, by decide⟩
set_option maxRecDepth 100000 in
set_option maxHeartbeats 40000000 in
theorem jsonReads_at (s : List UInt8) (hs : s.length ≤ 9223372036854775807) (w : World) (hk : KitIn w.heap.size w) : Calls Tryd.prog 4 #[.string ⟨s.toArray⟩] w fun e w' => e = .returned (.bool true) ∧ Below w.heap.size w w' := by
  have hp := parse_any s hs w hk
  have hr := fun wq => refParse_any s hs wq
  have hc := parse_cases s
  obtain ⟨PV, hPV⟩ : ∃ PV, parseV s = PV := ⟨_, rfl⟩
  rw [hPV] at hp hr hc
  obtain ⟨v, E⟩ := PV
  dsimp only at hp hr hc
  obtain ⟨S, hS⟩ : ∃ S : ByteArray, (⟨s.toArray⟩ : ByteArray) = S := ⟨_, rfl⟩
  rw [hS] at hp hr ⊢
  have HP := Lib.hid hp; have HR := Lib.hid hr; have HK := Lib.hid hk; have HS := Lib.hid hS; have HC := Lib.hid hc
  clear hp hr hk hPV hS hs hc
  go_enter Tryd.func4, Tryd.ntmps4
  go_wp2_with fail
  refine (HP.out).mono ?_
  rintro e2 w2 ⟨⟨cs, rfl, hv⟩, hb2⟩
  dsimp only
  obtain ⟨A, c, A', c', rfl⟩ := hv.form
  obtain ⟨W3, hW3⟩ : ∃ W3, W3 = w2.alloc (.cells #[.int .i64 v.kind, .int .i64 v.num, .string ⟨v.text.toArray⟩, .slice A v.list.length c, .slice A' v.keys.length c'] 25) := ⟨_, rfl⟩
  have b3 : Below w.heap.size w W3 := by rw [hW3]; exact hb2.alloc hb2.size _
  have z3 : W3.heap.size = w2.heap.size + 1 := by rw [hW3]; simp
  have x3 : W3.heap[w2.heap.size]? = some (.cells #[.int .i64 v.kind, .int .i64 v.num, .string ⟨v.text.toArray⟩, .slice A v.list.length c, .slice A' v.keys.length c'] 25 (0, 0)) := by rw [hW3]; exact heap_alloc_last w2 _
  have v3 := hv.below (w' := W3) (by rw [hW3]; exact (Below.refl _ _).alloc (Nat.le_refl _) _)
  have HW3 := Lib.hid hW3; have B3 := Lib.hid b3; have Z3 := Lib.hid z3; have X3 := Lib.hid x3; have V3 := Lib.hid v3
  clear hW3 b3 z3 x3 v3 hv hb2
  go_wp2_with fail
  rw [← HW3.out]
  refine (HR.out W3).mono ?_
  rintro e4 w4 ⟨⟨k, n, t, B, b, B', b', d, d', rfl, hu⟩, hb4⟩
  dsimp only
  obtain ⟨W5, hW5⟩ : ∃ W5, W5 = w4.alloc (.cells #[.int .i64 k, .int .i64 n, .string t, .slice B b B', .slice b' d d'] 25) := ⟨_, rfl⟩
  have hb4s := hb4.size
  have b5 : Below W3.heap.size W3 W5 := by rw [hW5]; exact hb4.alloc hb4s _
  have z5 : W5.heap.size = w4.heap.size + 1 := by rw [hW5]; simp
  have y5 : W5.heap[w4.heap.size]? = some (.cells #[.int .i64 k, .int .i64 n, .string t, .slice B b B', .slice b' d d'] 25 (0, 0)) := by rw [hW5]; exact heap_alloc_last w4 _
  have x5 := (b5.block w2.heap.size (by have := Z3.out; omega)).trans X3.out
  have v5 := V3.out.below (b5.mono (by have := Z3.out; omega))
  have u5 := hu.below (w' := W5) (by rw [hW5]; exact (Below.refl _ _).alloc (Nat.le_refl _) _)
  have bw5 : Below w.heap.size w W5 := B3.out.trans (b5.mono B3.out.size)
  have k5 := (HK.out.below bw5).more bw5.size
  have hlt2 : w2.heap.size < W5.heap.size := by have := Z3.out; have := b5.size; omega
  have hlt4 : w4.heap.size < W5.heap.size := by omega
  have HW5 := Lib.hid hW5; have Y5 := Lib.hid y5; have X5 := Lib.hid x5; have V5 := Lib.hid v5; have U5 := Lib.hid u5; have BW5 := Lib.hid bw5; have K5 := Lib.hid k5; have Z5 := Lib.hid z5
  have L2 := Lib.hid hlt2; have L4 := Lib.hid hlt4; have B5 := Lib.hid b5
  have hm1 : w2.heap.size ≤ W5.heap.size := by omega
  have hm2 : w4.heap.size ≤ W5.heap.size := by omega
  have M1 := Lib.hid hm1; have M2 := Lib.hid hm2
  rcases HC.out with ⟨hE, h8, hsh, hle⟩ | ⟨hz, hE⟩
  · subst hE
    obtain ⟨⟨p0, p1, p2, p3, p4⟩, -⟩ := box_of x5
    rw [hW5] at p0 p1 p2 p3 p4
    have ha := answers_any W5 k5
    have HA := Lib.hid ha
    have hT : (⟨(printV v).toArray⟩ : ByteArray) = S := by unfold printV; rw [if_pos h8, hsh, HS.out]
    have HT := Lib.hid hT
    have hpl : v.fits 8 = true → v.show.length ≤ 140737488355328 := fun _ => by rw [hsh]; omega
    have HPL := Lib.hid hpl
    clear hW5 b5 z5 y5 x5 v5 u5 bw5 k5 hlt2 hlt4 hm1 hm2 hu hb4 hb4s ha hT hsh h8 hle hpl HC
    go_wp2_with fail
    rw [← HW5.out]
    refine (HA.out).mono ?_
    rintro e6 w6 ⟨rfl, hb6⟩
    dsimp only
    have x6 := (hb6.block w2.heap.size L2.out).trans X5.out
    have y6 := (hb6.block w4.heap.size L4.out).trans Y5.out
    have hs6 := hb6.size
    have hsa := refSame_any v v w6 _ _ _ _ _ _ (V5.out.below (hb6.mono M1.out)) (U5.out.below (hb6.mono M2.out)) (Nat.le_trans M1.out hs6) (Nat.le_trans M2.out hs6)
    clear p0 p1 p2 p3 p4
    obtain ⟨⟨p0, p1, p2, p3, p4⟩, -⟩ := box_of x6
    obtain ⟨⟨q0, q1, q2, q3, q4⟩, -⟩ := box_of y6
    have HSA := Lib.hid hsa; have X6 := Lib.hid x6; have HB6 := Lib.hid hb6
    clear x6 y6 hsa hb6 hs6
    go_wp2_with fail
    refine (HSA.out).mono ?_
    rintro e7 w7 ⟨r, rfl, hr, hb7⟩
    obtain rfl : r = true := hr.2 (by first | trivial | rfl)
    dsimp only
    have x7 := (hb7.block w2.heap.size (by have := HB6.out.size; have := L2.out; omega)).trans X6.out
    have hb57 := HB6.out.trans (hb7.mono HB6.out.size)
    have hpr := print_any v w7 _ _ _ HPL.out (V5.out.below (hb57.mono M1.out)) (Nat.le_trans M1.out hb57.size) ((K5.out.below hb57).more hb57.size)
    rw [HT.out] at hpr
    clear p0 p1 p2 p3 p4 q0 q1 q2 q3 q4
    obtain ⟨⟨p0, p1, p2, p3, p4⟩, -⟩ := box_of x7
    have HPR := Lib.hid hpr; have HB57 := Lib.hid hb57
    clear x7 hpr hb7 hb57 hr
    go_wp2_with fail
    refine (HPR.out).mono ?_
    rintro e8 w8 ⟨rfl, hb8⟩
    dsimp only
    have hb9 : Below w.heap.size w w8 := BW5.out.trans ((HB57.out.trans (hb8.mono HB57.out.size)).mono BW5.out.size)
    have HB9 := Lib.hid hb9
    clear hb8 hb9 p0 p1 p2 p3 p4
    go_wp2_with fail
    go_ret
    exact ⟨rfl, HB9.out⟩
  · subst hz
    have d0 : (E == 0) = false := by simpa using hE
    have d0b : (E != 0) = true := by simpa using hE
    have d0c := Lib.hid hE
    have hsa := refSame_any V.zero V.zero W5 _ _ 0 0 _ _ (V5.out) (zero_isR W5 0 0) M1.out (Nat.zero_le _)
    obtain ⟨⟨p0, p1, p2, p3, p4⟩, -⟩ := box_of x5
    rw [hW5] at p0 p1 p2 p3 p4
    have HSA := Lib.hid hsa
    clear hW5 b5 z5 y5 x5 v5 u5 bw5 k5 hlt2 hlt4 hm1 hm2 hu hb4 hb4s hsa HC
    go_wp2_with fail
    rw [← HW5.out]
    refine (HSA.out).mono ?_
    rintro e6 w6 ⟨r, rfl, hr, hb6⟩
    obtain rfl : r = true := hr.2 (by first | trivial | rfl)
    dsimp only
    have hb56 : Below w.heap.size w w6 := BW5.out.trans (hb6.mono BW5.out.size)
    have ha := answers_any w6 ((HK.out.below hb56).more hb56.size)
    have HA := Lib.hid ha; have HB56 := Lib.hid hb56
    clear hb6 hb56 ha hr p0 p1 p2 p3 p4
    go_wp2_with fail
    refine (HA.out).mono ?_
    rintro e8 w8 ⟨rfl, hb8⟩
    dsimp only
    have hb9 : Below w.heap.size w w8 := HB56.out.trans (hb8.mono HB56.out.size)
    have HB9 := Lib.hid hb9
    clear hb8 hb9
    go_wp2_with fail
    go_ret
    exact ⟨rfl, HB9.out⟩
theorem jsonReads_law (x0 : ByteArray) (w0 : x0.size ≤ maxLen) (w : World) (hk : KitIn w.heap.size w) : Calls Tryd.prog 4 #[.string x0] w fun e w' => e = .returned (.bool true) ∧ Below w.heap.size w w' := by
  obtain ⟨⟨l⟩⟩ := x0
  exact jsonReads_at l w0 w hk
end Go.Proofs.YtoijjcbcmjdggaaDoor
