/- JSON: the law's small. -/
import Derived.Test.YtoijjcbcmjdggaaDoorJsonRSame
import Derived.Test.YtoijjcbcmjdggaaDoorJsonField
namespace Go.Proofs.YtoijjcbcmjdggaaDoor
open Go.RowKit
set_option linter.unusedVariables false
set_option linter.unusedSimpArgs false

mutual
/-- is a value not too large -/
def V.smallB : V → Nat → Bool
  | .mk _ _ t l ks, d => match d with
    | 0 => false
    | d + 1 => decide (l.length ≤ 200) && decide (ks.length ≤ 200) && decide (t.length ≤ 1000) && ks.all (fun x => decide (x.length ≤ 200)) && V.smalls l d
def V.smalls : List V → Nat → Bool
  | [], _ => true
  | v :: r, d => v.smallB d && V.smalls r d
end
theorem small_mk (k n : Int) (t : List UInt8) (l : List V) (ks : List (List UInt8)) (d : Nat) : (V.mk k n t l ks).smallB (d + 1) = (decide (l.length ≤ 200) && decide (ks.length ≤ 200) && decide (t.length ≤ 1000) && ks.all (fun x => decide (x.length ≤ 200)) && V.smalls l d) := by conv => lhs; unfold V.smallB
theorem small_zero (v : V) : v.smallB 0 = false := by obtain ⟨k, n, t, l, ks⟩ := v; unfold V.smallB; rfl
theorem smalls_iff (l : List V) (d : Nat) : V.smalls l d = true ↔ ∀ i (h : i < l.length), l[i].smallB d = true := by
  induction l with
  | nil => unfold V.smalls; simp
  | cons v r ih =>
    have e : V.smalls (v :: r) d = (v.smallB d && V.smalls r d) := by conv => lhs; unfold V.smalls
    rw [e, Bool.and_eq_true, ih]
    constructor
    · intro h i hi
      cases i with
      | zero => exact h.1
      | succ i => exact h.2 i (by simpa using hi)
    · intro h
      exact ⟨h 0 (by simp), fun i hi => h (i + 1) (by simpa using hi)⟩
theorem smalls_no {l : List V} {d i : Nat} (hi : i < l.length) (h : l[i].smallB d = false) : V.smalls l d = false := by
  cases hu : V.smalls l d with
  | false => rfl
  | true => rw [(smalls_iff l d).1 hu i hi] at h; cases h
theorem keys_yes {ks : List (List UInt8)} (h : ∀ i (hi : i < ks.length), ks[i].length ≤ 200) : ks.all (fun x => decide (x.length ≤ 200)) = true := by
  rw [List.all_eq_true]
  intro x hx
  obtain ⟨i, hi, rfl⟩ := List.mem_iff_getElem.1 hx
  exact decide_eq_true (h i hi)
theorem keys_no {ks : List (List UInt8)} {i : Nat} (hi : i < ks.length) (h : ¬ ks[i].length ≤ 200) : ks.all (fun x => decide (x.length ≤ 200)) = false := by
  cases hu : ks.all (fun x => decide (x.length ≤ 200)) with
  | false => rfl
  | true => exact absurd (of_decide_eq_true (List.all_eq_true.1 hu _ (List.getElem_mem hi))) h
/-- what is small is slim, and not deep -/
theorem small_slim : ∀ (d : Nat) (v : V), v.smallB d = true → v.slim 1000000 ∧ v.depth ≤ d
  | 0, v, h => by rw [small_zero] at h; cases h
  | d + 1, v, h => by
    obtain ⟨k, n, t, l, ks⟩ := v
    rw [small_mk] at h
    simp only [Bool.and_eq_true, decide_eq_true_eq] at h
    obtain ⟨⟨⟨⟨h1, h2⟩, h3⟩, h4⟩, h5⟩ := h
    have hi := (smalls_iff l d).1 h5
    refine ⟨?_, ?_⟩
    · unfold V.slim
      refine ⟨by omega, by omega, ?_⟩
      have : ∀ (l : List V), (∀ i (h : i < l.length), l[i].slim 1000000) → V.slims 1000000 l := by
        intro l
        induction l with
        | nil => intro _; unfold V.slims; trivial
        | cons v r ih => intro h; unfold V.slims; exact ⟨h 0 (by simp), ih fun i hi => h (i + 1) (by simpa using hi)⟩
      exact this l fun i h => (small_slim d l[i] (hi i h)).1
    · rw [depth_mk]
      have := (depths_iff l d).2 fun i h => (small_slim d l[i] (hi i h)).2
      omega
set_option maxRecDepth 100000 in
set_option maxHeartbeats 20000000 in
theorem small_at (m : Nat) : ∀ (v : V) (d : Nat) (w : World) (L N : Nat) (cs : List Value), v.size ≤ m → d ≤ 1000000 → VIs w L N v cs → N ≤ w.heap.size →
    Calls Tryd.prog 9 #[.agg cs.toArray, .int .i64 (d : Int)] w fun e w' => e = .returned (.bool (v.smallB d)) ∧ Below w.heap.size w w' := by
  induction m with
  | zero => intro v d w L N cs hm; exact absurd (size_pos v) (by omega)
  | succ m ih =>
  intro v d w L N cs hm hd hv hN
  obtain ⟨k, n, t, l, ks⟩ := v
  obtain ⟨⟨ml, mk, mt, mx⟩, A, c, A', c', rfl, h1, h2⟩ := hv.out
  have hb0 := (Below.refl w.heap.size w).alloc (Nat.le_refl _) (.cells #[.int .i64 k, .int .i64 n, .string ⟨t.toArray⟩, .slice A l.length c, .slice A' ks.length c'] 25)
  have x1 := Box.new w (.int .i64 k) (.int .i64 n) (.string ⟨t.toArray⟩) (.slice A l.length c) (.slice A' ks.length c') 25
  have hsz1 : w.heap.size + 1 ≤ (w.alloc (.cells #[.int .i64 k, .int .i64 n, .string ⟨t.toArray⟩, .slice A l.length c, .slice A' ks.length c'] 25)).heap.size := by simp
  cases d with
  | zero =>
    have e0 : (V.mk k n t l ks).smallB 0 = false := small_zero _
    rw [e0]
    have HB0 := Lib.hid hb0
    clear e0 hb0 hsz1 x1
    go_enter Tryd.func9, Tryd.ntmps9
    go_wp2
    go_ret
    exact ⟨rfl, HB0.out⟩
  | succ d =>
  obtain ⟨H, hH⟩ : ∃ H, (V.mk k n t l ks).smallB (d + 1) = H := ⟨_, rfl⟩
  rw [hH]
  rw [small_mk] at hH
  have mxl := Lib.hid mx
  have KY := Lib.hid (fun h => keys_yes (ks := ks) h)
  have KN := Lib.hid (fun (i : Nat) (hi : i < ks.length) (h : ¬ ks[i].length ≤ 200) => keys_no hi h)
  have SY := Lib.hid (smalls_iff l d).2
  have SN := Lib.hid (fun (i : Nat) (hi : i < l.length) (h : l[i].smallB d = false) => smalls_no hi h)
  generalize V.smalls l d = F at *
  generalize (ks.all fun x => decide (x.length ≤ 200)) = U at *
  obtain ⟨ll, hll⟩ : ∃ ll, l.length = ll := ⟨_, rfl⟩
  obtain ⟨lk, hlk⟩ : ∃ lk, ks.length = lk := ⟨_, rfl⟩
  obtain ⟨T, hT⟩ : ∃ T : ByteArray, (⟨t.toArray⟩ : ByteArray) = T := ⟨_, rfl⟩
  have hTs : T.size = t.length := by rw [← hT]; show t.toArray.size = _; simp
  rw [hll] at hb0 x1 hsz1 ml hH ⊢
  rw [hlk] at hb0 x1 hsz1 mk hH ⊢
  rw [hT] at hb0 x1 hsz1 ⊢
  rw [← hTs] at hH mt
  obtain ⟨D, hD⟩ : ∃ D : Int, ((d + 1 : Nat) : Int) = D := ⟨_, rfl⟩
  rw [hD]
  have u1 : (D == 0) = false := by simp; omega
  have u2 : D - 1 = (d : Int) := by omega
  have u3 : IntKind.i64.wrap (d : Int) = (d : Int) := by rw [IntKind.wrap_i64]; omega
  have HB0 := Lib.hid hb0; have X1 := Lib.hid x1; have HS1 := Lib.hid hsz1; have HM := Lib.hid hm; have HH := Lib.hid hH; have NL := Lib.hid hll; have NK := Lib.hid hlk; have H1 := Lib.hid h1; have H2 := Lib.hid h2; have HD := Lib.hid hD
  clear hb0 x1 hsz1 hv mx hm hH hll hlk h1 h2 hD hT hTs
  by_cases q1 : ll ≤ 200
  rotate_left
  · have d1 : decide ((200 : Int) < (ll : Int)) = true := by simp; omega
    go_enter Tryd.func9, Tryd.ntmps9
    go_wp2
    go_ret
    exact ⟨ret_bool (HH.out.symm.trans (by rw [decide_eq_false q1]; rfl)).symm, HB0.out⟩
  have d1 : decide ((200 : Int) < (ll : Int)) = false := by simp; omega
  by_cases q2 : lk ≤ 200
  rotate_left
  · have d2 : decide ((200 : Int) < (lk : Int)) = true := by simp; omega
    go_enter Tryd.func9, Tryd.ntmps9
    go_wp2
    go_ret
    exact ⟨ret_bool (HH.out.symm.trans (by rw [decide_eq_false q2]; simp)).symm, HB0.out⟩
  have d2 : decide ((200 : Int) < (lk : Int)) = false := by simp; omega
  by_cases q3 : T.size ≤ 1000
  rotate_left
  · have d3 : decide ((1000 : Int) < (T.size : Int)) = true := by simp; omega
    go_enter Tryd.func9, Tryd.ntmps9
    go_wp2
    go_ret
    exact ⟨ret_bool (HH.out.symm.trans (by rw [decide_eq_false q3]; simp)).symm, HB0.out⟩
  have d3 : decide ((1000 : Int) < (T.size : Int)) = false := by simp; omega
  have hH2 : H = (U && F) := HH.out.symm.trans (by rw [decide_eq_true q1, decide_eq_true q2, decide_eq_true q3]; simp)
  have HU := Lib.hid hH2
  clear HH hH2
  go_enter Tryd.func9, Tryd.ntmps9
  go_wp2
  go_loopw [5] (fun i wr => ∃ j : Nat, j ≤ lk ∧ i = .int .i64 j ∧ (∀ s (hs : s < ks.length), s < j → ks[s].length ≤ 200) ∧ Box wr w.heap.size (.int .i64 k) (.int .i64 n) (.string T) (.slice A ll c) (.slice A' lk c') ∧ w.heap.size + 1 ≤ wr.heap.size ∧ Below w.heap.size w wr) (fun i _ => lk - (intOf i).toNat)
  case atStart => exact ⟨0, Nat.zero_le _, rfl, fun _ _ h => absurd h (Nat.not_lt_zero _), X1.out, HS1.out, HB0.out⟩
  case round =>
    obtain ⟨j, hj, rfl, hne, bx, hs, hb⟩ := hrel
    have HNE := Lib.hid hne; have BX := Lib.hid bx; have HBB := Lib.hid hb; clear hne
    obtain ⟨-, -, -, x3, x4⟩ := bx
    by_cases hlt : j < lk
    · have hjk : j < ks.length := by have := NK.out; omega
      obtain ⟨p, o, rfl, _, hpN, hc1⟩ := VIs.key H1.out j hjk
      have hc1 := (hb.cell (p := ⟨p, o + j, none⟩) (by show p < _; omega)).trans hc1
      have T1 := Lib.hid (KN.out j hjk)
      have T2 := Lib.hid (fun (h : ks[j].length ≤ 200) s (hs : s < ks.length) (hsr : s < j + 1) => (show ks[s].length ≤ 200 from if e : s = j then by subst e; exact h else HNE.out s hs (by omega)))
      have hxm := mxl.out ks[j] (List.getElem_mem hjk)
      obtain ⟨x, hx⟩ : ∃ x, ks[j] = x := ⟨_, rfl⟩
      rw [hx] at hc1 T1 T2 hxm
      obtain ⟨X, hX⟩ : ∃ X : ByteArray, (⟨x.toArray⟩ : ByteArray) = X := ⟨_, rfl⟩
      have hXs : X.size = x.length := by rw [← hX]; show x.toArray.size = _; simp
      rw [hX] at hc1
      rw [← hXs] at T1 T2 hxm
      have hj0 : (0 : Int) ≤ j := by omega
      have hj1 : (j : Int) < lk := by omega
      clear hx hb hX hXs
      by_cases hxy : X.size ≤ 200
      · have hbe : decide ((200 : Int) < (X.size : Int)) = false := by simp; omega
        have T3 := Lib.hid (T2.out hxy); clear T1 T2
        go_wp2_with fail
        exact ⟨⟨j + 1, by omega, by go_num, T3.out, BX.out, hs, HBB.out⟩, by simp [intOf]; omega⟩
      · have hbe : decide ((200 : Int) < (X.size : Int)) = true := by simp; omega
        have T3 := Lib.hid (T1.out hxy); clear T1 T2
        go_wp2_with fail
        go_ret
        exact ⟨ret_bool (HU.out.trans (by rw [T3.out]; rfl)).symm, HBB.out⟩
    · have T3 := Lib.hid (KY.out (fun s hs => HNE.out s hs (by have := NK.out; omega)))
      obtain rfl : j = lk := by omega
      go_wp2
      go_loopw [6] (fun i W => ∃ r : Nat, r ≤ ll ∧ i = .int .i64 r ∧ (∀ s (hs : s < l.length), s < r → l[s].smallB d = true) ∧ Box W w.heap.size (.int .i64 k) (.int .i64 n) (.string T) (.slice A ll c) (.slice A' j c') ∧ w.heap.size + 1 ≤ W.heap.size ∧ Below w.heap.size w W) (fun i _ => ll - (intOf i).toNat)
      case atStart => exact ⟨0, Nat.zero_le _, rfl, fun _ _ h => absurd h (Nat.not_lt_zero _), BX.out, hs, HBB.out⟩
      case round =>
        clear x3 x4 hs BX HBB hb
        obtain ⟨r, hr, rfl, hne, bx, hs, hb⟩ := hrel
        have HNE := Lib.hid hne; have BX := Lib.hid bx; have HBB := Lib.hid hb; clear hne
        obtain ⟨-, -, -, x3, x4⟩ := bx
        by_cases hrt : r < ll
        · have hrl : r < l.length := by have := NL.out; omega
          obtain ⟨p, o, rfl, _, hpN, xs, hx5, hxv⟩ := VIs.item H2.out r hrl
          have hbN := hb.mono hN
          have hc := fun wq (hwq : Below w.heap.size w wq) => ih l[r] d wq L N xs (by have := HM.out; have := size_get (k := k) (n := n) (t := t) (ks := ks) r hrl; omega) (by omega) (hxv.below (hwq.mono hN)) (Nat.le_trans hN hwq.size)
          have T1 := Lib.hid (SN.out r hrl)
          have T2 := Lib.hid (fun (h : l[r].smallB d = true) s (hs : s < l.length) (hsr : s < r + 1) => (show l[s].smallB d = true from if e : s = r then by subst e; exact h else HNE.out s hs (by omega)))
          obtain ⟨a0, a1, a2, a3, a4, rfl, m0, m1, m2, m3, m4⟩ := hx5.keep (w' := wr) hpN (fun p hp => hbN.cell hp)
          obtain ⟨Q, hQ⟩ : ∃ Q, l[r].smallB d = Q := ⟨_, rfl⟩
          rw [hQ] at hc T1 T2
          have HC := Lib.hid hc
          have hr0 : (0 : Int) ≤ r := by omega
          have hr1 : (r : Int) < ll := by omega
          clear hc hQ hx5 hxv hb
          go_wp2_with fail
          refine (HC.out _ HBB.out).mono ?_
          rintro e1 w1 ⟨rfl, hb1⟩
          dsimp only
          have hs1 := hb1.size
          have BX1 := Lib.hid (BX.out.below (by omega) hb1)
          have HB1 := Lib.hid (HBB.out.trans (hb1.mono (by omega)))
          have HS2 := Lib.hid hs1
          clear hb1 hs1 HC
          cases Q with
          | false =>
            have T3b := Lib.hid (T1.out rfl); clear T1 T2
            go_wp2
            go_ret
            exact ⟨ret_bool (HU.out.trans (by rw [T3b.out]; simp)).symm, HB1.out⟩
          | true =>
            have T3b := Lib.hid (T2.out rfl); clear T1 T2
            go_wp2
            go_roundw
            case rel => exact ⟨r + 1, by omega, by go_num, T3b.out, BX1.out, by have := HS2.out; omega, HB1.out⟩
            case measure => simp [intOf]; omega
        · have T4 := Lib.hid (SY.out (fun s hs => HNE.out s hs (by have := NL.out; omega)))
          obtain rfl : r = ll := by omega
          go_wp2
          go_ret
          exact ⟨ret_bool (HU.out.trans (by rw [T3.out, T4.out]; rfl)).symm, HBB.out⟩
theorem small_any (v : V) (d : Nat) (w : World) (L N : Nat) (cs : List Value) (hd : d ≤ 1000000) (hv : VIs w L N v cs) (hN : N ≤ w.heap.size) :
    Calls Tryd.prog 9 #[.agg cs.toArray, .int .i64 (d : Int)] w fun e w' => e = .returned (.bool (v.smallB d)) ∧ Below w.heap.size w w' :=
  small_at v.size v d w L N cs (Nat.le_refl _) hd hv hN
end Go.Proofs.YtoijjcbcmjdggaaDoor
