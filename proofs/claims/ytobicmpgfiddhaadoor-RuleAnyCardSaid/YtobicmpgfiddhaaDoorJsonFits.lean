/- JSON: whether a value is good, as the code asks it. -/
import Derived.Test.YtobicmpgfiddhaaDoorJsonFit
import Derived.Test.YtobicmpgfiddhaaDoorJsonWithin
namespace Go.Proofs.YtobicmpgfiddhaaDoor
open Go.RowKit

set_option maxRecDepth 100000 in
set_option maxHeartbeats 1000000 in
theorem fits_at (m : Nat) : ∀ (v : V) (w : World) (L N b o : Nat) (cs : List Value), v.size ≤ m → Five w b o cs → b < N → VIs w L N v cs → N ≤ w.heap.size →
    Calls Tryd.prog 38 #[.pointer (some ⟨b, o, none⟩)] w fun e w' => e = .returned (.bool v.good) ∧ Below w.heap.size w w' := by
  induction m with
  | zero => intro v w L N b o cs hm; exact absurd (size_pos v) (by omega)
  | succ m ih =>
  intro v w L N b o cs hm h5 hbN hv hN
  have hff := fieldsFit_any v w L N b o cs h5 hbN hv hN
  obtain ⟨k, n, t, l, ks⟩ := v
  rw [good_mk]
  change Calls Tryd.prog _ _ _ (fun e w' => e = .returned (.bool (headB k n t l.length ks)) ∧ _) at hff
  obtain ⟨⟨ml, mk, -, -⟩, A, c, A', c', rfl, h1, h2⟩ := hv.out
  obtain ⟨c0, c1, c2, c3, c4, e, m0, m1, m2, m3, m4⟩ := h5
  injection e with e0 e; injection e with e1 e; injection e with e2 e; injection e with e3 e; injection e with e4 e
  subst e0; subst e1; subst e2; subst e3; subst e4
  have HF := Lib.hid hff
  cases hh : headB k n t l.length ks with
  | false =>
    rw [hh] at HF
    clear hff
    go_enter Tryd.func38, Tryd.ntmps38
    go_wp2_with (go_at_call 57; with_reducible refine (HF.out).mono ?_; rintro e1 w1 ⟨rfl, hb1⟩)
    go_ret
    exact ⟨rfl, hb1⟩
  | true =>
    rw [hh] at HF
    obtain ⟨R, hR⟩ : ∃ R, (true && V.goods l) = R := ⟨_, rfl⟩
    rw [hR]
    have DO := Lib.hid (fun (h : ∀ i (h : i < l.length), l[i].good = true) => show R = true by rw [← hR, (goods_iff l).2 h]; rfl)
    have DN := Lib.hid (fun (i : Nat) (hi : i < l.length) (h : l[i].good = false) => show R = false by
      rw [← hR]
      cases hg : V.goods l with
      | false => rfl
      | true => rw [(goods_iff l).1 hg i hi] at h; cases h)
    obtain ⟨nl, hnl⟩ : ∃ nl, l.length = nl := ⟨_, rfl⟩
    rw [hnl] at ml m3
    have NL := Lib.hid hnl; have HM := Lib.hid hm; have H2 := Lib.hid h2
    clear hnl hR hv h1 h2 hm hff hh
    go_enter Tryd.func38, Tryd.ntmps38
    go_wp2_with (go_at_call 57; with_reducible refine (HF.out).mono ?_; rintro e1 w1 ⟨rfl, hb1⟩; have m3x := (hb1.cell (p := ⟨b, o + 3, none⟩) (by show b < _; omega)).trans m3)
    go_loopw [12] (fun i wr => ∃ j : Nat, j ≤ nl ∧ i = .int .i64 j ∧ (∀ i (h : i < l.length), i < j → l[i].good = true) ∧ Below w.heap.size w wr) (fun i _ => nl - (intOf i).toNat)
    case atStart => exact ⟨0, Nat.zero_le _, rfl, fun _ _ h => absurd h (Nat.not_lt_zero _), hb1⟩
    case round =>
      obtain ⟨j, hj, rfl, hd, hb⟩ := hrel
      have HD := Lib.hid hd; have hs := hb.size; clear hd
      have m3' := (hb.cell (p := ⟨b, o + 3, none⟩) (by show b < _; omega)).trans m3
      by_cases hlt : j < nl
      · have hjl : j < l.length := by have := NL.out; omega
        obtain ⟨p, q, rfl, _, hpN, xs, hx5, hxv⟩ := VIs.item H2.out j hjl
        have hc := fun wq (hwq : Below w.heap.size w wq) => ih l[j] wq L N p (q + j * 5) xs (by have := HM.out; have := size_get (k := k) (n := n) (t := t) (ks := ks) j hjl; omega) (hx5.keep hpN (fun r hr => (hwq.mono hN).cell hr)) hpN (hxv.below (hwq.mono hN)) (Nat.le_trans hN hwq.size)
        have HC := Lib.hid hc; have HBW := Lib.hid hb
        have T2 := Lib.hid (DN.out j hjl)
        have T1 := Lib.hid (fun (h : l[j].good = true) => show ∀ i (h : i < l.length), i < j + 1 → l[i].good = true from fun i hi hij => by
          rcases Nat.lt_succ_iff_lt_or_eq.1 hij with h' | h'
          · exact HD.out i hi h'
          · subst h'; exact h)
        clear hc hx5 hxv
        generalize l[j] = x at *
        cases hg : x.good with
        | true =>
          have T3 := Lib.hid (T1.out hg)
          rw [hg] at HC
          clear T1 T2 hg
          go_wp2_with (go_at_call 38; with_reducible refine (HC.out _ HBW.out).mono ?_; rintro e2 w2 ⟨rfl, hb2⟩)
          go_roundw
          case rel => exact ⟨j + 1, by omega, by go_num, T3.out, HBW.out.trans (hb2.mono hs)⟩
          case measure => simp [intOf]; omega
        | false =>
          have T3 := Lib.hid (T2.out hg)
          rw [hg] at HC
          clear T1 T2 hg
          go_wp2_with (go_at_call 38; with_reducible refine (HC.out _ HBW.out).mono ?_; rintro e2 w2 ⟨rfl, hb2⟩)
          go_ret
          exact ⟨ret_bool T3.out.symm, HBW.out.trans (hb2.mono hs)⟩
      · obtain rfl : nl = j := by omega
        have T3 := Lib.hid (DO.out fun i hi => HD.out i hi (by have := NL.out; omega))
        clear DO DN HD NL
        go_wp2
        go_ret
        exact ⟨ret_bool T3.out.symm, hb⟩
theorem within_any (v : V) (lv : Nat) (w : World) (L N b o : Nat) (cs : List Value) (hlv : lv ≤ 1000000) (h5 : Five w b o cs) (hbN : b < N) (hv : VIs w L N v cs) (hN : N ≤ w.heap.size) :
    Calls Tryd.prog 37 #[.pointer (some ⟨b, o, none⟩), .int .i64 lv] w fun e w' => e = .returned (.bool (decide (v.depth ≤ lv))) ∧ Below w.heap.size w w' :=
  within_at v.size v lv w L N b o cs (Nat.le_refl _) hlv h5 hbN hv hN
theorem fits_any (v : V) (w : World) (L N b o : Nat) (cs : List Value) (h5 : Five w b o cs) (hbN : b < N) (hv : VIs w L N v cs) (hN : N ≤ w.heap.size) :
    Calls Tryd.prog 38 #[.pointer (some ⟨b, o, none⟩)] w fun e w' => e = .returned (.bool v.good) ∧ Below w.heap.size w w' :=
  fits_at v.size v w L N b o cs (Nat.le_refl _) h5 hbN hv hN
/-- a value's five cells in a new block -/
theorem five_new {w : World} {L N : Nat} {v : V} {cs : List Value} (hv : VIs w L N v cs) (t : TypeId) : Five (w.alloc (.cells cs.toArray t)) w.heap.size 0 cs := by
  obtain ⟨k, n, t', l, ks⟩ := v
  obtain ⟨-, A, c, A', c', rfl, -, -⟩ := hv.out
  refine ⟨_, _, _, _, _, rfl, ?_, ?_, ?_, ?_, ?_⟩ <;> simp
set_option maxRecDepth 100000 in
theorem good_any (v : V) (w : World) (L N : Nat) (cs : List Value) (hv : VIs w L N v cs) (hN : N ≤ w.heap.size) :
    Calls Tryd.prog 22 #[.agg cs.toArray] w fun e w' => e = .returned (.bool (v.fits 8)) ∧ Below w.heap.size w w' := by
  have hb0 := (Below.refl w.heap.size w).alloc (Nat.le_refl _) (.cells cs.toArray 25)
  have h5 := five_new hv 25
  have hs : (w.alloc (.cells cs.toArray 25)).heap.size = w.heap.size + 1 := by simp
  have c1 : Calls Tryd.prog 37 #[.pointer (some ⟨w.heap.size, 0, none⟩), .int .i64 8] (w.alloc (.cells cs.toArray 25)) fun e w' => e = .returned (.bool (decide (v.depth ≤ 8))) ∧ Below (w.alloc (.cells cs.toArray 25)).heap.size (w.alloc (.cells cs.toArray 25)) w' := within_any v 8 (w.alloc (.cells cs.toArray 25)) 0 (w.heap.size + 1) w.heap.size 0 cs (by decide) h5 (by omega) ((hv.below (hb0.mono hN)).more (Nat.zero_le _) (by omega)) (by rw [hs]; exact Nat.le_refl _)
  have c2 := fun wq (hb : Below (w.heap.size + 1) (w.alloc (.cells cs.toArray 25)) wq) => fits_any v wq 0 (w.heap.size + 1) w.heap.size 0 cs (h5.keep (N := w.heap.size + 1) (by omega) (fun p hp => hb.cell hp)) (by omega) (((hv.below (hb0.mono hN)).more (Nat.zero_le _) (show N ≤ w.heap.size + 1 by omega)).below hb) (by have := hb.size; rw [hs] at this; exact this)
  rw [fits_good]
  rw [hs] at c1
  obtain ⟨A, c, A', c', rfl, -, -⟩ := (show ∃ A c A' c', cs = [.int .i64 v.kind, .int .i64 v.num, .string ⟨v.text.toArray⟩, .slice A v.list.length c, .slice A' v.keys.length c'] ∧ True ∧ True by
    obtain ⟨k, n, t', l, ks⟩ := v
    obtain ⟨-, A, c, A', c', rfl, -, -⟩ := hv.out
    exact ⟨A, c, A', c', rfl, trivial, trivial⟩)
  have C1 := Lib.hid c1; have C2 := Lib.hid c2; have HB0 := Lib.hid hb0
  clear c1 c2 hb0 h5 hv hs
  cases hd : decide (v.depth ≤ 8) with
  | false =>
    rw [hd] at C1
    go_enter Tryd.func22, Tryd.ntmps22
    go_wp2_with (go_at_call 37; with_reducible refine (C1.out).mono ?_; rintro e1 w1 ⟨rfl, hb1⟩)
    go_ret
    exact ⟨rfl, HB0.out.trans (hb1.mono (by omega))⟩
  | true =>
    rw [hd] at C1
    go_enter Tryd.func22, Tryd.ntmps22
    go_wp2_with (first | (go_at_call 37; with_reducible refine (C1.out).mono ?_; rintro e1 w1 ⟨rfl, hb1⟩) | (go_at_call 38; with_reducible refine (C2.out _ hb1).mono ?_; rintro e2 w2 ⟨rfl, hb2⟩))
    go_ret
    exact ⟨ret_bool (by cases v.good <;> rfl), (HB0.out.trans (hb1.mono (by omega))).trans (hb2.mono (by have := hb1.size; simp at this; omega))⟩
end Go.Proofs.YtobicmpgfiddhaaDoor
