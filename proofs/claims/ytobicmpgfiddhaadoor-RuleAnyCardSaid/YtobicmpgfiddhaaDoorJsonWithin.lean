/- JSON: how deep a value is, as the code asks it. -/
import Derived.Test.YtobicmpgfiddhaaDoorJsonGood
namespace Go.Proofs.YtobicmpgfiddhaaDoor
open Go.RowKit

theorem depth_of (k n : Int) (t : List UInt8) (l : List V) (ks : List (List UInt8)) (lv : Nat) (h : ∀ i (h : i < l.length), l[i].depth ≤ lv) : decide ((V.mk k n t l ks).depth ≤ lv + 1) = true := by
  rw [depth_mk]; have := (depths_iff l lv).2 h; simp; omega
theorem depth_not (k n : Int) (t : List UInt8) (l : List V) (ks : List (List UInt8)) (lv i : Nat) (hi : i < l.length) (h : ¬ l[i].depth ≤ lv) : decide ((V.mk k n t l ks).depth ≤ lv + 1) = false := by
  rw [depth_mk]
  have : ¬ V.depths l ≤ lv := fun h' => h ((depths_iff l lv).1 h' i hi)
  simp; omega
set_option maxRecDepth 100000 in
set_option maxHeartbeats 1000000 in
theorem within_at (m : Nat) : ∀ (v : V) (lv : Nat) (w : World) (L N b o : Nat) (cs : List Value), v.size ≤ m → lv ≤ 1000000 → Five w b o cs → b < N → VIs w L N v cs → N ≤ w.heap.size →
    Calls Tryd.prog 37 #[.pointer (some ⟨b, o, none⟩), .int .i64 lv] w fun e w' => e = .returned (.bool (decide (v.depth ≤ lv))) ∧ Below w.heap.size w w' := by
  induction m with
  | zero => intro v lv w L N b o cs hm; exact absurd (size_pos v) (by omega)
  | succ m ih =>
  intro v lv w L N b o cs hm hlv h5 hbN hv hN
  obtain ⟨k, n, t, l, ks⟩ := v
  obtain ⟨⟨ml, mk, -, -⟩, A, c, A', c', rfl, h1, h2⟩ := hv.out
  obtain ⟨c0, c1, c2, c3, c4, e, m0, m1, m2, m3, m4⟩ := h5
  injection e with e0 e; injection e with e1 e; injection e with e2 e; injection e with e3 e; injection e with e4 e
  subst e0; subst e1; subst e2; subst e3; subst e4
  cases lv with
  | zero =>
    have hz : decide ((V.mk k n t l ks).depth ≤ 0) = false := by rw [depth_mk]; simp
    rw [hz]
    go_enter Tryd.func37, Tryd.ntmps37
    go_wp2
    go_ret
    exact ⟨rfl, Below.refl _ _⟩
  | succ lv =>
    have q1 : (((lv + 1 : Nat) : Int) == 0) = false := by simp; omega
    have q2 : ((lv + 1 : Nat) : Int) - 1 = (lv : Int) := by omega
    have q3 : IntKind.i64.wrap (lv : Int) = (lv : Int) := by rw [IntKind.wrap_i64]; omega
    obtain ⟨x, hx⟩ : ∃ x : Int, ((lv + 1 : Nat) : Int) = x := ⟨_, rfl⟩
    have DO := Lib.hid (depth_of k n t l ks lv); have DN := Lib.hid (depth_not k n t l ks lv)
    obtain ⟨R, hR⟩ : ∃ R, decide ((V.mk k n t l ks).depth ≤ lv + 1) = R := ⟨_, rfl⟩
    rw [hR] at DO DN ⊢
    rw [hx] at q1 q2 ⊢
    obtain ⟨nl, hnl⟩ : ∃ nl, l.length = nl := ⟨_, rfl⟩
    rw [hnl] at ml m3
    have NL := Lib.hid hnl; have HM := Lib.hid hm; have H2 := Lib.hid h2
    clear hnl hx hR hv h1 h2 hm
    go_enter Tryd.func37, Tryd.ntmps37
    go_wp2_with fail
    go_loopw [13] (fun i wr => ∃ j : Nat, j ≤ nl ∧ i = .int .i64 j ∧ (∀ i (h : i < l.length), i < j → l[i].depth ≤ lv) ∧ Below w.heap.size w wr) (fun i _ => nl - (intOf i).toNat)
    case atStart => exact ⟨0, Nat.zero_le _, rfl, fun _ _ h => absurd h (Nat.not_lt_zero _), Below.refl _ _⟩
    case round =>
      obtain ⟨j, hj, rfl, hd, hb⟩ := hrel
      have HD := Lib.hid hd; have hs := hb.size; clear hd
      have m3' := (hb.cell (p := ⟨b, o + 3, none⟩) (by show b < _; omega)).trans m3
      by_cases hlt : j < nl
      · have hjl : j < l.length := by have := NL.out; omega
        obtain ⟨p, q, rfl, _, hpN, xs, hx5, hxv⟩ := VIs.item H2.out j hjl
        have hbN' := hb.mono hN
        have hc := fun wq (hwq : Below w.heap.size w wq) => ih l[j] lv wq L N p (q + j * 5) xs (by have := HM.out; have := size_get (k := k) (n := n) (t := t) (ks := ks) j hjl; omega) (by omega) (hx5.keep hpN (fun r hr => (hwq.mono hN).cell hr)) hpN (hxv.below (hwq.mono hN)) (Nat.le_trans hN hwq.size)
        have HC := Lib.hid hc; have HBW := Lib.hid hb
        have T2 := Lib.hid (DN.out j hjl)
        have T1 := Lib.hid (fun (h : l[j].depth ≤ lv) => show ∀ i (h : i < l.length), i < j + 1 → l[i].depth ≤ lv from fun i hi hij => by
          rcases Nat.lt_succ_iff_lt_or_eq.1 hij with h' | h'
          · exact HD.out i hi h'
          · subst h'; exact h)
        clear hc hx5 hxv hbN'
        generalize l[j] = x at *
        by_cases hxd : x.depth ≤ lv
        · have T3 := Lib.hid (T1.out hxd)
          have qd : decide (x.depth ≤ lv) = true := by simpa using hxd
          rw [qd] at HC
          clear T1 T2 hxd
          go_wp2_with (go_at_call 37; with_reducible refine (HC.out _ HBW.out).mono ?_; rintro e1 w1 ⟨rfl, hb1⟩)
          go_roundw
          case rel => exact ⟨j + 1, by omega, by go_num, T3.out, HBW.out.trans (hb1.mono hs)⟩
          case measure => simp [intOf]; omega
        · have T3 := Lib.hid (T2.out hxd)
          have qd : decide (x.depth ≤ lv) = false := by simpa using hxd
          rw [qd] at HC
          clear T1 T2 hxd
          go_wp2_with (go_at_call 37; with_reducible refine (HC.out _ HBW.out).mono ?_; rintro e1 w1 ⟨rfl, hb1⟩)
          go_ret
          exact ⟨ret_bool T3.out.symm, HBW.out.trans (hb1.mono hs)⟩
      · obtain rfl : nl = j := by omega
        have T3 := Lib.hid (DO.out fun i hi => HD.out i hi (by have := NL.out; omega))
        clear DO DN HD NL
        go_wp2
        go_ret
        exact ⟨ret_bool T3.out.symm, hb⟩
end Go.Proofs.YtobicmpgfiddhaaDoor
