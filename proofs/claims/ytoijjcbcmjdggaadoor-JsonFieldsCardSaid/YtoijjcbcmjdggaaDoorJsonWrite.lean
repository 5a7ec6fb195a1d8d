/- JSON: the code's write: a good value's text into a builder. -/
import Derived.Test.YtoijjcbcmjdggaaDoorJsonCQuote
import Derived.Test.YtoijjcbcmjdggaaDoorJsonItems
import Derived.Lib.AppendIntMem
namespace Go.Proofs.YtoijjcbcmjdggaaDoor
open Go.RowKit

theorem formatInt_any (n : Int) (h0 : -9223372036854775808 ≤ n) (h1 : n ≤ 9223372036854775807) (w : World) (B : Nat) (hk : KitIn B w) :
    Calls Tryd.prog 37 #[.int .i64 n, .int .i64 10] w fun e w' => e = .returned (.string ⟨(decI n).toArray⟩) ∧ Below w.heap.size w w' :=
  (Tryd.strconv_FormatInt_10 n h0 h1 w hk.tab).mono fun e w' ⟨he, k, os, hw⟩ => ⟨by rw [he, itoa_dec], by rw [hw]; exact Lib.below_grow _ _ (Nat.le_refl _) _ _⟩
/-- what write does of v -/
def WriteSays (v : V) : Prop := ∀ (w : World) (B b : Nat) (acc : List UInt8) (L N p o : Nat) (cs : List Value), v.good = true → acc.length + v.show.length ≤ 140737488355328 → Bld w B b acc → B ≤ w.heap.size → Five w p o cs → p < N → VIs w L N v cs → N ≤ B → KitIn B w →
  Calls Tryd.prog 23 #[.pointer (some ⟨b, 0, none⟩), .pointer (some ⟨p, o, none⟩)] w fun e w' => e = .returned (.tuple #[]) ∧ Bld w' B b (acc ++ v.show) ∧ Below B w w'
theorem wbI (B b : Nat) (l : List UInt8) (c : UInt8) (x : Int) (hx : x = c.toNat) (w : World) (h : Bld w B b l) (hlen : l.length + 1 ≤ 140737488355328) (hBw : B ≤ w.heap.size) :
    Calls Tryd.prog 39 #[.pointer (some ⟨b, 0, none⟩), .int .u8 x] w fun e w' => e = .returned .nilIface ∧ Bld w' B b (l ++ [c]) ∧ Below B w w' :=
  (writeByteI B b l c x hx w h hlen hBw).mono fun _ _ ⟨h1, h2, h3, _⟩ => ⟨h1, h2, h3⟩
set_option maxRecDepth 100000 in
set_option maxHeartbeats 2000000 in
/-- the items of a list -/
theorem writeList (n : Int) (t : List UInt8) (l : List V) (ks : List (List UInt8)) (ih : ∀ i (h : i < l.length), WriteSays l[i]) (w : World) (B b : Nat) (acc : List UInt8) (L N p o : Nat) (cs : List Value)
    (hg : (V.mk 5 n t l ks).good = true) (hlen : acc.length + (V.items l).length ≤ 140737488355328) (h : Bld w B b acc) (hBw : B ≤ w.heap.size) (h5 : Five w p o cs) (hpN : p < N) (hv : VIs w L N (.mk 5 n t l ks) cs) (hN : N ≤ B) (hk : KitIn B w) :
    Calls Tryd.prog 40 #[.pointer (some ⟨b, 0, none⟩), .pointer (some ⟨p, o, none⟩)] w fun e w' => e = .returned (.tuple #[]) ∧ Bld w' B b (acc ++ V.items l) ∧ Below B w w' := by
  obtain ⟨⟨ml, -, -, -⟩, A, c, A', c', rfl, h1, h2⟩ := hv.out
  obtain ⟨c0, c1, c2, c3, c4, e, m0, m1, m2, m3, m4⟩ := h5
  injection e with e0 e; injection e with e1 e; injection e with e2 e; injection e with e3 e; injection e with e4 e
  subst e0; subst e1; subst e2; subst e3; subst e4
  have hpr := items_len l
  have hgi := fun i hi => good_item hg i hi
  obtain ⟨nl, hnl⟩ : ∃ nl, l.length = nl := ⟨_, rfl⟩
  have hall : V.items (l.take nl) = V.items l := by rw [← hnl, List.take_length]
  rw [hnl] at ml m3
  have NL := Lib.hid hnl; have H2 := Lib.hid h2; have PR := Lib.hid hpr; have GI := Lib.hid hgi; have IH := Lib.hid ih; have KI := Lib.hid hk; have ALL := Lib.hid hall
  obtain ⟨T, hT⟩ : ∃ T, (V.items l).length = T := ⟨_, rfl⟩
  rw [hT] at hlen PR
  have hz := items_zero l
  have HB := Lib.hid h; have HZ := Lib.hid hz
  clear hnl hv h1 h2 hpr hgi hg ih hk hall hT h hz m1 m2 m4
  go_enter Tryd.func40, Tryd.ntmps40
  go_wp2
  go_loopw [10] (fun i wr => ∃ j : Nat, j ≤ nl ∧ i = .int .i64 j ∧ Bld wr B b (acc ++ V.items (l.take j)) ∧ Below B w wr) (fun i _ => nl - (intOf i).toNat)
  case atStart => exact ⟨0, Nat.zero_le _, rfl, by rw [HZ.out, List.append_nil]; exact HB.out, Below.refl _ _⟩
  case round =>
    obtain ⟨j, hj, rfl, hb, hw⟩ := hrel
    have hs : B ≤ wr.heap.size := Nat.le_trans hBw hw.size
    have m3' := (hw.cell (p := ⟨p, o + 3, none⟩) (by show p < _; omega)).trans m3
    have m0' := (hw.cell (p := ⟨p, o, none⟩) (by show p < _; omega)).trans m0
    have BL := Lib.hid hb; clear hb
    by_cases hlt : j < nl
    · have hjl : j < l.length := by have := NL.out; omega
      obtain ⟨q, r, rfl, _, hqN, xs, hx5, hxv⟩ := VIs.item H2.out j hjl
      have hj1 := PR.out (j + 1)
      have hc := fun (ac : List UInt8) wq (hwq : Below B w wq) => IH.out j hjl wq B b ac L N q (r + j * 5) xs (GI.out j hjl)
      have hc := fun (ac : List UInt8) wq (hwq : Below B w wq) h1 h2 => hc ac wq hwq h1 h2 (Nat.le_trans hBw hwq.size) (hx5.keep hqN (fun s hs => hwq.cell (Nat.lt_of_lt_of_le hs hN))) hqN (hxv.below (hwq.mono hN)) hN (KI.out.below hwq)
      have hn0 := items_one l; have hn1 := items_next l j hjl
      have HC := Lib.hid hc; have HW := Lib.hid hw
      clear hc hx5 hxv
      by_cases h0 : 0 < j
      · have hn := hn1 h0
        have t0 : decide ((0 : Int) < j) = true := by simp; omega
        rw [hn, List.length_append, List.length_cons] at hj1
        have HN := Lib.hid hn
        clear hn hn0 hn1
        generalize l[j] = x at *
        generalize V.items (l.take j) = it at *
        have ha1 : (acc ++ it).length + 1 ≤ 140737488355328 := by rw [List.length_append]; omega
        have ha2 : ((acc ++ it) ++ [44]).length + x.show.length ≤ 140737488355328 := by rw [List.length_append, List.length_append]; simp; omega
        have A1 := Lib.hid ha1; have A2 := Lib.hid ha2; clear ha1 ha2
        go_wp2_with (first
          | (go_at_call 39; with_reducible refine (wbI B b (acc ++ it) 44 44 rfl _ BL.out A1.out hs).mono ?_; rintro e1 w1 ⟨rfl, hb1, hw1⟩; have n3 := (hw1.cell (p := ⟨p, o + 3, none⟩) (by show p < _; omega)).trans m3'; have n0 := (hw1.cell (p := ⟨p, o, none⟩) (by show p < _; omega)).trans m0')
          | (go_at_call 23; with_reducible refine (HC.out ((acc ++ it) ++ [44]) _ (HW.out.trans hw1) A2.out hb1).mono ?_; rintro e2 w2 ⟨rfl, hb2, hw2⟩))
        go_roundw
        case rel => exact ⟨j + 1, by omega, by go_num, by rw [HN.out]; simpa using hb2, (HW.out.trans hw1).trans hw2⟩
        case measure => simp [intOf]; omega
      · obtain rfl : j = 0 := by omega
        have hn := hn0 hjl
        have HN := Lib.hid hn
        rw [hn] at hj1
        rw [HZ.out, List.append_nil] at BL
        clear hn hn0 hn1
        generalize l[0] = x at *
        simp only [Nat.zero_mul, Nat.add_zero] at HC
        go_wp2_with (go_at_call 23; with_reducible refine (HC.out acc _ HW.out (by omega) BL.out).mono ?_; rintro e2 w2 ⟨rfl, hb2, hw2⟩)
        go_roundw
        case rel => exact ⟨0 + 1, by omega, by go_num, by rw [HN.out]; exact hb2, HW.out.trans hw2⟩
        case measure => simp [intOf]; omega
    · obtain rfl : nl = j := by omega
      rw [ALL.out] at BL
      go_wp2
      go_end0
      exact ⟨rfl, BL.out, hw⟩
end Go.Proofs.YtoijjcbcmjdggaaDoor
