/- JSON: the code's write: an object's items. -/
import Derived.Test.YtoijjcbcmjdggaaDoorJsonWrite
namespace Go.Proofs.YtoijjcbcmjdggaaDoor
open Go.RowKit

set_option maxRecDepth 100000 in
set_option maxHeartbeats 2000000 in
/-- the items of an object -/
theorem writePairs (n : Int) (t : List UInt8) (l : List V) (ks : List (List UInt8)) (ih : ∀ i (h : i < l.length), WriteSays l[i]) (w : World) (B b : Nat) (acc : List UInt8) (L N p o : Nat) (cs : List Value)
    (hg : (V.mk 6 n t l ks).good = true) (hlen : acc.length + (V.pairs l ks).length ≤ 140737488355328) (h : Bld w B b acc) (hBw : B ≤ w.heap.size) (h5 : Five w p o cs) (hpN : p < N) (hv : VIs w L N (.mk 6 n t l ks) cs) (hN : N ≤ B) (hk : KitIn B w) :
    Calls Tryd.prog 40 #[.pointer (some ⟨b, 0, none⟩), .pointer (some ⟨p, o, none⟩)] w fun e w' => e = .returned (.tuple #[]) ∧ Bld w' B b (acc ++ V.pairs l ks) ∧ Below B w w' := by
  obtain ⟨⟨ml, -, -, -⟩, A, c, A', c', rfl, h1, h2⟩ := hv.out
  have hkl := (good_head hg).keys rfl
  obtain ⟨c0, c1, c2, c3, c4, e, m0, m1, m2, m3, m4⟩ := h5
  injection e with e0 e; injection e with e1 e; injection e with e2 e; injection e with e3 e; injection e with e4 e
  subst e0; subst e1; subst e2; subst e3; subst e4
  have hpr := pairs_len l ks
  have hgi := fun i hi => good_item hg i hi
  obtain ⟨nl, hnl⟩ : ∃ nl, l.length = nl := ⟨_, rfl⟩
  have hall : V.pairs (l.take nl) ks = V.pairs l ks := by rw [← hnl, List.take_length]
  rw [hnl] at ml m3 hkl
  rw [hkl] at m4
  have KL := Lib.hid hkl; have H1 := Lib.hid h1
  have NL := Lib.hid hnl; have H2 := Lib.hid h2; have PR := Lib.hid hpr; have GI := Lib.hid hgi; have IH := Lib.hid ih; have KI := Lib.hid hk; have ALL := Lib.hid hall
  obtain ⟨T, hT⟩ : ∃ T, (V.pairs l ks).length = T := ⟨_, rfl⟩
  rw [hT] at hlen PR
  have hz := pairs_zero l ks
  have HB := Lib.hid h; have HZ := Lib.hid hz
  clear hnl hkl hv h1 h2 hpr hgi hg ih hk hall hT h hz m1 m2
  go_enter Tryd.func40, Tryd.ntmps40
  go_wp2
  go_loopw [10] (fun i wr => ∃ j : Nat, j ≤ nl ∧ i = .int .i64 j ∧ Bld wr B b (acc ++ V.pairs (l.take j) ks) ∧ Below B w wr) (fun i _ => nl - (intOf i).toNat)
  case atStart => exact ⟨0, Nat.zero_le _, rfl, by rw [HZ.out, List.append_nil]; exact HB.out, Below.refl _ _⟩
  case round =>
    obtain ⟨j, hj, rfl, hb, hw⟩ := hrel
    have hs : B ≤ wr.heap.size := Nat.le_trans hBw hw.size
    have m3' := (hw.cell (p := ⟨p, o + 3, none⟩) (by show p < _; omega)).trans m3
    have m4' := (hw.cell (p := ⟨p, o + 4, none⟩) (by show p < _; omega)).trans m4
    have m0' := (hw.cell (p := ⟨p, o, none⟩) (by show p < _; omega)).trans m0
    have BL := Lib.hid hb; clear hb
    by_cases hlt : j < nl
    · have hjl : j < l.length := by have := NL.out; omega
      obtain ⟨q, r, rfl, _, hqN, xs, hx5, hxv⟩ := VIs.item H2.out j hjl
      have hjk : j < ks.length := by have := KL.out; omega
      obtain ⟨kb, ko, rfl, _, hkN, hkc⟩ := VIs.key H1.out j hjk
      have hkw := (hw.cell (p := ⟨kb, ko + j, none⟩) (by show kb < _; omega)).trans hkc
      have hj1 := PR.out (j + 1)
      have hc := fun (ac : List UInt8) wq (hwq : Below B w wq) => IH.out j hjl wq B b ac L N q (r + j * 5) xs (GI.out j hjl)
      have hc := fun (ac : List UInt8) wq (hwq : Below B w wq) h1 h2 => hc ac wq hwq h1 h2 (Nat.le_trans hBw hwq.size) (hx5.keep hqN (fun s hs => hwq.cell (Nat.lt_of_lt_of_le hs hN))) hqN (hxv.below (hwq.mono hN)) hN (KI.out.below hwq)
      have hn0 := pairs_one l ks; have hn1 := pairs_next l ks j hjl hjk
      have HC := Lib.hid hc; have HW := Lib.hid hw
      clear hc hx5 hxv
      by_cases h0 : 0 < j
      · have hn := hn1 h0
        have t0 : decide ((0 : Int) < j) = true := by simp; omega
        rw [hn] at hj1
        have HN := Lib.hid hn
        clear hn hn0 hn1
        generalize l[j] = x at *
        generalize ks[j] = key at *
        generalize V.pairs (l.take j) ks = it at *
        simp only [List.length_append, List.length_cons] at hj1
        have ha1 : (acc ++ it).length + 1 ≤ 140737488355328 := by rw [List.length_append]; omega
        have ha2 : ((acc ++ it) ++ [44]).length + (quoteJ key).length ≤ 140737488355328 := by simp only [List.length_append, List.length_cons, List.length_nil]; omega
        have ha3 : (((acc ++ it) ++ [44]) ++ quoteJ key).length + 1 ≤ 140737488355328 := by simp only [List.length_append, List.length_cons, List.length_nil]; omega
        have ha4 : ((((acc ++ it) ++ [44]) ++ quoteJ key) ++ [58]).length + x.show.length ≤ 140737488355328 := by simp only [List.length_append, List.length_cons, List.length_nil]; omega
        have A1 := Lib.hid ha1; have A2 := Lib.hid ha2; have A3 := Lib.hid ha3; have A4 := Lib.hid ha4; clear ha1 ha2 ha3 ha4
        go_wp2_with fail
        refine (wbI B b (acc ++ it) 44 44 rfl _ BL.out A1.out hs).mono ?_
        rintro e1 w1 ⟨rfl, hb1, hw1⟩
        have n3 := (hw1.cell (p := ⟨p, o + 3, none⟩) (by show p < _; omega)).trans m3'
        have n0 := (hw1.cell (p := ⟨p, o, none⟩) (by show p < _; omega)).trans m0'
        have n4 := (hw1.cell (p := ⟨p, o + 4, none⟩) (by show p < _; omega)).trans m4'
        have nk := (hw1.cell (p := ⟨kb, ko + j, none⟩) (by show kb < _; omega)).trans hkw
        dsimp only
        go_wp2_with (first
          | (go_at_call 38; with_reducible refine (quote_any B b ((acc ++ it) ++ [44]) key _ A2.out hb1 (Nat.le_trans hs hw1.size)).mono ?_; rintro e2 w2 ⟨rfl, hb2, hw2⟩; have p3 := (hw2.cell (p := ⟨p, o + 3, none⟩) (by show p < _; omega)).trans n3)
          | (go_at_call 39; with_reducible refine (wbI B b (((acc ++ it) ++ [44]) ++ quoteJ key) 58 58 rfl _ hb2 A3.out (Nat.le_trans hs (Nat.le_trans hw1.size hw2.size))).mono ?_; rintro e3 w3 ⟨rfl, hb3, hw3⟩; have q3 := (hw3.cell (p := ⟨p, o + 3, none⟩) (by show p < _; omega)).trans p3)
          | (go_at_call 23; with_reducible refine (HC.out ((((acc ++ it) ++ [44]) ++ quoteJ key) ++ [58]) _ (((HW.out.trans hw1).trans hw2).trans hw3) A4.out hb3).mono ?_; rintro e4 w4 ⟨rfl, hb4, hw4⟩))
        go_roundw
        case rel => exact ⟨j + 1, by omega, by go_num, by rw [HN.out]; simpa using hb4, (((HW.out.trans hw1).trans hw2).trans hw3).trans hw4⟩
        case measure => simp [intOf]; omega
      · obtain rfl : j = 0 := by omega
        have hn := hn0 hjl hjk
        have HN := Lib.hid hn
        rw [hn] at hj1
        rw [HZ.out, List.append_nil] at BL
        clear hn hn0 hn1
        generalize l[0] = x at *
        generalize ks[0] = key at *
        simp only [Nat.zero_mul, Nat.add_zero] at HC hkw
        simp only [List.length_append, List.length_cons] at hj1
        have ha2 : acc.length + (quoteJ key).length ≤ 140737488355328 := by omega
        have ha3 : (acc ++ quoteJ key).length + 1 ≤ 140737488355328 := by simp only [List.length_append]; omega
        have ha4 : ((acc ++ quoteJ key) ++ [58]).length + x.show.length ≤ 140737488355328 := by simp only [List.length_append, List.length_cons, List.length_nil]; omega
        have A2 := Lib.hid ha2; have A3 := Lib.hid ha3; have A4 := Lib.hid ha4; clear ha2 ha3 ha4
        go_wp2_with (first
          | (go_at_call 38; with_reducible refine (quote_any B b acc key _ A2.out BL.out hs).mono ?_; rintro e2 w2 ⟨rfl, hb2, hw2⟩; have p3 := (hw2.cell (p := ⟨p, o + 3, none⟩) (by show p < _; omega)).trans m3')
          | (go_at_call 39; with_reducible refine (wbI B b (acc ++ quoteJ key) 58 58 rfl _ hb2 A3.out (Nat.le_trans hs hw2.size)).mono ?_; rintro e3 w3 ⟨rfl, hb3, hw3⟩; have q3 := (hw3.cell (p := ⟨p, o + 3, none⟩) (by show p < _; omega)).trans p3)
          | (go_at_call 23; with_reducible refine (HC.out ((acc ++ quoteJ key) ++ [58]) _ ((HW.out.trans hw2).trans hw3) A4.out hb3).mono ?_; rintro e4 w4 ⟨rfl, hb4, hw4⟩))
        go_roundw
        case rel => exact ⟨0 + 1, by omega, by go_num, by rw [HN.out]; simpa using hb4, ((HW.out.trans hw2).trans hw3).trans hw4⟩
        case measure => simp [intOf]; omega
    · obtain rfl : nl = j := by omega
      rw [ALL.out] at BL
      go_wp2
      go_end0
      exact ⟨rfl, BL.out, hw⟩
end Go.Proofs.YtoijjcbcmjdggaaDoor
