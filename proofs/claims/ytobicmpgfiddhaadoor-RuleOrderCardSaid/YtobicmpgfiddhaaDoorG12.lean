/- Texts merged by program, in build order: RuleSmall, JsonRFits, JsonItems. -/
import Derived.Test.YtobicmpgfiddhaaDoorG11
import Derived.Test.YtobicmpgfiddhaaDoorG09
import Derived.Test.YtobicmpgfiddhaaDoorG02
import Derived.Deep.RegionHeld3
namespace Go.Proofs.YtobicmpgfiddhaaDoor
open Go.RowKit
set_option linter.unusedVariables false
set_option linter.unusedSimpArgs false

mutual
/-- is a value not too large -/
def V.smallB : V → Nat → Bool
  | .mk _ _ t l ks, d => match d with
    | 0 => false
    | d + 1 => decide (l.length ≤ 200) && decide (ks.length ≤ 200) && decide (t.length ≤ 1000) && ks.all (fun x => decide (x.length ≤ 200)) && V.smalls l d
def V.smalls : List V → Nat → Bool
  | [], _ => true
  | v :: r, d => v.smallB d && V.smalls r d
end
theorem small_mk (k n : Int) (t : List UInt8) (l : List V) (ks : List (List UInt8)) (d : Nat) : (V.mk k n t l ks).smallB (d + 1) = (decide (l.length ≤ 200) && decide (ks.length ≤ 200) && decide (t.length ≤ 1000) && ks.all (fun x => decide (x.length ≤ 200)) && V.smalls l d) := by conv => lhs; unfold V.smallB
theorem small_zero (v : V) : v.smallB 0 = false := by obtain ⟨k, n, t, l, ks⟩ := v; unfold V.smallB; rfl
theorem smalls_iff (l : List V) (d : Nat) : V.smalls l d = true ↔ ∀ i (h : i < l.length), l[i].smallB d = true := by
  induction l with
  | nil => unfold V.smalls; simp
  | cons v r ih =>
    have e : V.smalls (v :: r) d = (v.smallB d && V.smalls r d) := by conv => lhs; unfold V.smalls
    rw [e, Bool.and_eq_true, ih]
    constructor
    · intro h i hi
      cases i with
      | zero => exact h.1
      | succ i => exact h.2 i (by simpa using hi)
    · intro h
      exact ⟨h 0 (by simp), fun i hi => h (i + 1) (by simpa using hi)⟩
theorem smalls_no {l : List V} {d i : Nat} (hi : i < l.length) (h : l[i].smallB d = false) : V.smalls l d = false := by
  cases hu : V.smalls l d with
  | false => rfl
  | true => rw [(smalls_iff l d).1 hu i hi] at h; cases h
theorem keys_yes {ks : List (List UInt8)} (h : ∀ i (hi : i < ks.length), ks[i].length ≤ 200) : ks.all (fun x => decide (x.length ≤ 200)) = true := by
  rw [List.all_eq_true]
  intro x hx
  obtain ⟨i, hi, rfl⟩ := List.mem_iff_getElem.1 hx
  exact decide_eq_true (h i hi)
theorem keys_no {ks : List (List UInt8)} {i : Nat} (hi : i < ks.length) (h : ¬ ks[i].length ≤ 200) : ks.all (fun x => decide (x.length ≤ 200)) = false := by
  cases hu : ks.all (fun x => decide (x.length ≤ 200)) with
  | false => rfl
  | true => exact absurd (of_decide_eq_true (List.all_eq_true.1 hu _ (List.getElem_mem hi))) h
/-- what is small is slim, and not deep -/
theorem small_slim : ∀ (d : Nat) (v : V), v.smallB d = true → v.slim 1000000 ∧ v.depth ≤ d
  | 0, v, h => by rw [small_zero] at h; cases h
  | d + 1, v, h => by
    obtain ⟨k, n, t, l, ks⟩ := v
    rw [small_mk] at h
    simp only [Bool.and_eq_true, decide_eq_true_eq] at h
    obtain ⟨⟨⟨⟨h1, h2⟩, h3⟩, h4⟩, h5⟩ := h
    have hi := (smalls_iff l d).1 h5
    refine ⟨?_, ?_⟩
    · unfold V.slim
      refine ⟨by omega, by omega, ?_⟩
      have : ∀ (l : List V), (∀ i (h : i < l.length), l[i].slim 1000000) → V.slims 1000000 l := by
        intro l
        induction l with
        | nil => intro _; unfold V.slims; trivial
        | cons v r ih => intro h; unfold V.slims; exact ⟨h 0 (by simp), ih fun i hi => h (i + 1) (by simpa using hi)⟩
      exact this l fun i h => (small_slim d l[i] (hi i h)).1
    · rw [depth_mk]
      have := (depths_iff l d).2 fun i h => (small_slim d l[i] (hi i h)).2
      omega
set_option maxRecDepth 100000 in
set_option maxHeartbeats 20000000 in
theorem small_at (m : Nat) : ∀ (v : V) (d : Nat) (w : World) (L N : Nat) (cs : List Value), v.size ≤ m → d ≤ 1000000 → VIs w L N v cs → N ≤ w.heap.size →
    Calls Tryd.prog 7 #[.agg cs.toArray, .int .i64 (d : Int)] w fun e w' => e = .returned (.bool (v.smallB d)) ∧ Below w.heap.size w w' := by
  induction m with
  | zero => intro v d w L N cs hm; exact absurd (size_pos v) (by omega)
  | succ m ih =>
  intro v d w L N cs hm hd hv hN
  obtain ⟨k, n, t, l, ks⟩ := v
  obtain ⟨⟨ml, mk, mt, mx⟩, A, c, A', c', rfl, h1, h2⟩ := hv.out
  have hb0 := (Below.refl w.heap.size w).alloc (Nat.le_refl _) (.cells #[.int .i64 k, .int .i64 n, .string ⟨t.toArray⟩, .slice A l.length c, .slice A' ks.length c'] 25)
  have x1 := Box.new w (.int .i64 k) (.int .i64 n) (.string ⟨t.toArray⟩) (.slice A l.length c) (.slice A' ks.length c') 25
  have hsz1 : w.heap.size + 1 ≤ (w.alloc (.cells #[.int .i64 k, .int .i64 n, .string ⟨t.toArray⟩, .slice A l.length c, .slice A' ks.length c'] 25)).heap.size := by simp
  cases d with
  | zero =>
    have e0 : (V.mk k n t l ks).smallB 0 = false := small_zero _
    rw [e0]
    have HB0 := Lib.hid hb0
    clear e0 hb0 hsz1 x1
    go_enter Tryd.func7, Tryd.ntmps7
    go_wp2
    go_ret
    exact ⟨rfl, HB0.out⟩
  | succ d =>
  obtain ⟨H, hH⟩ : ∃ H, (V.mk k n t l ks).smallB (d + 1) = H := ⟨_, rfl⟩
  rw [hH]
  rw [small_mk] at hH
  have mxl := Lib.hid mx
  have KY := Lib.hid (fun h => keys_yes (ks := ks) h)
  have KN := Lib.hid (fun (i : Nat) (hi : i < ks.length) (h : ¬ ks[i].length ≤ 200) => keys_no hi h)
  have SY := Lib.hid (smalls_iff l d).2
  have SN := Lib.hid (fun (i : Nat) (hi : i < l.length) (h : l[i].smallB d = false) => smalls_no hi h)
  generalize V.smalls l d = F at *
  generalize (ks.all fun x => decide (x.length ≤ 200)) = U at *
  obtain ⟨ll, hll⟩ : ∃ ll, l.length = ll := ⟨_, rfl⟩
  obtain ⟨lk, hlk⟩ : ∃ lk, ks.length = lk := ⟨_, rfl⟩
  obtain ⟨T, hT⟩ : ∃ T : ByteArray, (⟨t.toArray⟩ : ByteArray) = T := ⟨_, rfl⟩
  have hTs : T.size = t.length := by rw [← hT]; show t.toArray.size = _; simp
  rw [hll] at hb0 x1 hsz1 ml hH ⊢
  rw [hlk] at hb0 x1 hsz1 mk hH ⊢
  rw [hT] at hb0 x1 hsz1 ⊢
  rw [← hTs] at hH mt
  obtain ⟨D, hD⟩ : ∃ D : Int, ((d + 1 : Nat) : Int) = D := ⟨_, rfl⟩
  rw [hD]
  have u1 : (D == 0) = false := by simp; omega
  have u2 : D - 1 = (d : Int) := by omega
  have u3 : IntKind.i64.wrap (d : Int) = (d : Int) := by rw [IntKind.wrap_i64]; omega
  have HB0 := Lib.hid hb0; have X1 := Lib.hid x1; have HS1 := Lib.hid hsz1; have HM := Lib.hid hm; have HH := Lib.hid hH; have NL := Lib.hid hll; have NK := Lib.hid hlk; have H1 := Lib.hid h1; have H2 := Lib.hid h2; have HD := Lib.hid hD
  clear hb0 x1 hsz1 hv mx hm hH hll hlk h1 h2 hD hT hTs
  by_cases q1 : ll ≤ 200
  rotate_left
  · have d1 : decide ((200 : Int) < (ll : Int)) = true := by simp; omega
    go_enter Tryd.func7, Tryd.ntmps7
    go_wp2
    go_ret
    exact ⟨ret_bool (HH.out.symm.trans (by rw [decide_eq_false q1]; rfl)).symm, HB0.out⟩
  have d1 : decide ((200 : Int) < (ll : Int)) = false := by simp; omega
  by_cases q2 : lk ≤ 200
  rotate_left
  · have d2 : decide ((200 : Int) < (lk : Int)) = true := by simp; omega
    go_enter Tryd.func7, Tryd.ntmps7
    go_wp2
    go_ret
    exact ⟨ret_bool (HH.out.symm.trans (by rw [decide_eq_false q2]; simp)).symm, HB0.out⟩
  have d2 : decide ((200 : Int) < (lk : Int)) = false := by simp; omega
  by_cases q3 : T.size ≤ 1000
  rotate_left
  · have d3 : decide ((1000 : Int) < (T.size : Int)) = true := by simp; omega
    go_enter Tryd.func7, Tryd.ntmps7
    go_wp2
    go_ret
    exact ⟨ret_bool (HH.out.symm.trans (by rw [decide_eq_false q3]; simp)).symm, HB0.out⟩
  have d3 : decide ((1000 : Int) < (T.size : Int)) = false := by simp; omega
  have hH2 : H = (U && F) := HH.out.symm.trans (by rw [decide_eq_true q1, decide_eq_true q2, decide_eq_true q3]; simp)
  have HU := Lib.hid hH2
  clear HH hH2
  go_enter Tryd.func7, Tryd.ntmps7
  go_wp2
  go_loopw [5] (fun i wr => ∃ j : Nat, j ≤ lk ∧ i = .int .i64 j ∧ (∀ s (hs : s < ks.length), s < j → ks[s].length ≤ 200) ∧ Box wr w.heap.size (.int .i64 k) (.int .i64 n) (.string T) (.slice A ll c) (.slice A' lk c') ∧ w.heap.size + 1 ≤ wr.heap.size ∧ Below w.heap.size w wr) (fun i _ => lk - (intOf i).toNat)
  case atStart => exact ⟨0, Nat.zero_le _, rfl, fun _ _ h => absurd h (Nat.not_lt_zero _), X1.out, HS1.out, HB0.out⟩
  case round =>
    obtain ⟨j, hj, rfl, hne, bx, hs, hb⟩ := hrel
    have HNE := Lib.hid hne; have BX := Lib.hid bx; have HBB := Lib.hid hb; clear hne
    obtain ⟨-, -, -, x3, x4⟩ := bx
    by_cases hlt : j < lk
    · have hjk : j < ks.length := by have := NK.out; omega
      obtain ⟨p, o, rfl, _, hpN, hc1⟩ := VIs.key H1.out j hjk
      have hc1 := (hb.cell (p := ⟨p, o + j, none⟩) (by show p < _; omega)).trans hc1
      have T1 := Lib.hid (KN.out j hjk)
      have T2 := Lib.hid (fun (h : ks[j].length ≤ 200) s (hs : s < ks.length) (hsr : s < j + 1) => (show ks[s].length ≤ 200 from if e : s = j then by subst e; exact h else HNE.out s hs (by omega)))
      have hxm := mxl.out ks[j] (List.getElem_mem hjk)
      obtain ⟨x, hx⟩ : ∃ x, ks[j] = x := ⟨_, rfl⟩
      rw [hx] at hc1 T1 T2 hxm
      obtain ⟨X, hX⟩ : ∃ X : ByteArray, (⟨x.toArray⟩ : ByteArray) = X := ⟨_, rfl⟩
      have hXs : X.size = x.length := by rw [← hX]; show x.toArray.size = _; simp
      rw [hX] at hc1
      rw [← hXs] at T1 T2 hxm
      have hj0 : (0 : Int) ≤ j := by omega
      have hj1 : (j : Int) < lk := by omega
      clear hx hb hX hXs
      by_cases hxy : X.size ≤ 200
      · have hbe : decide ((200 : Int) < (X.size : Int)) = false := by simp; omega
        have T3 := Lib.hid (T2.out hxy); clear T1 T2
        go_wp2_with fail
        exact ⟨⟨j + 1, by omega, by go_num, T3.out, BX.out, hs, HBB.out⟩, by simp [intOf]; omega⟩
      · have hbe : decide ((200 : Int) < (X.size : Int)) = true := by simp; omega
        have T3 := Lib.hid (T1.out hxy); clear T1 T2
        go_wp2_with fail
        go_ret
        exact ⟨ret_bool (HU.out.trans (by rw [T3.out]; rfl)).symm, HBB.out⟩
    · have T3 := Lib.hid (KY.out (fun s hs => HNE.out s hs (by have := NK.out; omega)))
      obtain rfl : j = lk := by omega
      go_wp2
      go_loopw [6] (fun i W => ∃ r : Nat, r ≤ ll ∧ i = .int .i64 r ∧ (∀ s (hs : s < l.length), s < r → l[s].smallB d = true) ∧ Box W w.heap.size (.int .i64 k) (.int .i64 n) (.string T) (.slice A ll c) (.slice A' j c') ∧ w.heap.size + 1 ≤ W.heap.size ∧ Below w.heap.size w W) (fun i _ => ll - (intOf i).toNat)
      case atStart => exact ⟨0, Nat.zero_le _, rfl, fun _ _ h => absurd h (Nat.not_lt_zero _), BX.out, hs, HBB.out⟩
      case round =>
        clear x3 x4 hs BX HBB hb
        obtain ⟨r, hr, rfl, hne, bx, hs, hb⟩ := hrel
        have HNE := Lib.hid hne; have BX := Lib.hid bx; have HBB := Lib.hid hb; clear hne
        obtain ⟨-, -, -, x3, x4⟩ := bx
        by_cases hrt : r < ll
        · have hrl : r < l.length := by have := NL.out; omega
          obtain ⟨p, o, rfl, _, hpN, xs, hx5, hxv⟩ := VIs.item H2.out r hrl
          have hbN := hb.mono hN
          have hc := fun wq (hwq : Below w.heap.size w wq) => ih l[r] d wq L N xs (by have := HM.out; have := size_get (k := k) (n := n) (t := t) (ks := ks) r hrl; omega) (by omega) (hxv.below (hwq.mono hN)) (Nat.le_trans hN hwq.size)
          have T1 := Lib.hid (SN.out r hrl)
          have T2 := Lib.hid (fun (h : l[r].smallB d = true) s (hs : s < l.length) (hsr : s < r + 1) => (show l[s].smallB d = true from if e : s = r then by subst e; exact h else HNE.out s hs (by omega)))
          obtain ⟨a0, a1, a2, a3, a4, rfl, m0, m1, m2, m3, m4⟩ := hx5.keep (w' := wr) hpN (fun p hp => hbN.cell hp)
          obtain ⟨Q, hQ⟩ : ∃ Q, l[r].smallB d = Q := ⟨_, rfl⟩
          rw [hQ] at hc T1 T2
          have HC := Lib.hid hc
          have hr0 : (0 : Int) ≤ r := by omega
          have hr1 : (r : Int) < ll := by omega
          clear hc hQ hx5 hxv hb
          go_wp2_with fail
          refine (HC.out _ HBB.out).mono ?_
          rintro e1 w1 ⟨rfl, hb1⟩
          dsimp only
          have hs1 := hb1.size
          have BX1 := Lib.hid (BX.out.below (by omega) hb1)
          have HB1 := Lib.hid (HBB.out.trans (hb1.mono (by omega)))
          have HS2 := Lib.hid hs1
          clear hb1 hs1 HC
          cases Q with
          | false =>
            have T3b := Lib.hid (T1.out rfl); clear T1 T2
            go_wp2
            go_ret
            exact ⟨ret_bool (HU.out.trans (by rw [T3b.out]; simp)).symm, HB1.out⟩
          | true =>
            have T3b := Lib.hid (T2.out rfl); clear T1 T2
            go_wp2
            go_roundw
            case rel => exact ⟨r + 1, by omega, by go_num, T3b.out, BX1.out, by have := HS2.out; omega, HB1.out⟩
            case measure => simp [intOf]; omega
        · have T4 := Lib.hid (SY.out (fun s hs => HNE.out s hs (by have := NL.out; omega)))
          obtain rfl : r = ll := by omega
          go_wp2
          go_ret
          exact ⟨ret_bool (HU.out.trans (by rw [T3.out, T4.out]; rfl)).symm, HBB.out⟩
theorem small_any (v : V) (d : Nat) (w : World) (L N : Nat) (cs : List Value) (hd : d ≤ 1000000) (hv : VIs w L N v cs) (hN : N ≤ w.heap.size) :
    Calls Tryd.prog 7 #[.agg cs.toArray, .int .i64 (d : Int)] w fun e w' => e = .returned (.bool (v.smallB d)) ∧ Below w.heap.size w w' :=
  small_at v.size v d w L N cs (Nat.le_refl _) hd hv hN
end Go.Proofs.YtobicmpgfiddhaaDoor
namespace Go.Proofs.YtobicmpgfiddhaaDoor
open Go.RowKit
set_option linter.unusedVariables false
set_option linter.unusedSimpArgs false

/-- what a value must be by itself, by lengths -/
def headD (k n : Int) (te : Bool) (ll lk : Nat) (U : Bool) : Bool :=
  decide (1 ≤ k ∧ k ≤ 6) && decide (k = 2 → n = 0 ∨ n = 1) && decide (k = 3 → -9007199254740992 ≤ n ∧ n ≤ 9007199254740992) && decide (k ≠ 2 → k ≠ 3 → n = 0) &&
  (decide (k = 4) || te) && decide (k ≠ 5 → k ≠ 6 → ll = 0) && decide (ll ≤ 64) && decide (k = 6 → lk = ll) && decide (k ≠ 6 → lk = 0) && U
theorem headD_eq (k n : Int) (t : List UInt8) (ll : Nat) (ks : List (List UInt8)) : headB k n t ll ks = headD k n t.isEmpty ll ks.length (unlikeB ks) := by
  unfold headB headD
  have e1 : decide (k ≠ 4 → t = []) = (decide (k = 4) || t.isEmpty) := by
    by_cases h : k = 4 <;> cases t <;> simp [h]
  have e2 : decide (k ≠ 6 → ks = []) = decide (k ≠ 6 → ks.length = 0) := by
    cases ks <;> simp
  rw [e1, e2]
theorem nodup_next {ks : List (List UInt8)} {j : Nat} (h : (ks.take j).Nodup) (hj : j < ks.length) (hne : ∀ s (hs : s < ks.length), s < j → ks[s] ≠ ks[j]) : (ks.take (j + 1)).Nodup := by
  rw [List.take_succ_eq_append_getElem hj, List.nodup_append]
  refine ⟨h, by simp, fun a ha b hb => ?_⟩
  obtain rfl := List.mem_singleton.1 hb
  obtain ⟨s, hs, rfl⟩ := List.mem_iff_getElem.1 ha
  rw [List.length_take] at hs
  rw [List.getElem_take]
  exact hne s (by omega) (by omega)
theorem unlike_yes {ks : List (List UInt8)} {j : Nat} (h : (ks.take j).Nodup) (hj : ks.length ≤ j) : unlikeB ks = true := by
  rw [List.take_of_length_le hj] at h
  exact (unlike_nodup ks).2 h
theorem unlike_no {ks : List (List UInt8)} {s j : Nat} (hs : s < ks.length) (hj : j < ks.length) (hlt : s < j) (h : ks[s] = ks[j]) : unlikeB ks = false := by
  cases hu : unlikeB ks with
  | false => rfl
  | true =>
    have hn := (unlike_nodup ks).1 hu
    have := (List.nodup_iff_pairwise_ne.1 hn)
    rw [List.pairwise_iff_getElem] at this
    exact absurd h (this s j hs hj hlt)
theorem fitsAll_at (l : List V) (d : Nat) : V.fitsAll l d = true ↔ ∀ i (h : i < l.length), l[i].fits d = true := by
  rw [fitsAll_iff]
  exact ⟨fun h i hi => h _ (List.getElem_mem hi), fun h v hv => by
    obtain ⟨i, hi, rfl⟩ := List.mem_iff_getElem.1 hv
    exact h i hi⟩
theorem all_no {l : List V} {d i : Nat} (hi : i < l.length) (h : l[i].fits d = false) : V.fitsAll l d = false := by
  cases hu : V.fitsAll l d with
  | false => rfl
  | true => rw [(fitsAll_at l d).1 hu i hi] at h; cases h
set_option maxRecDepth 100000 in
set_option maxHeartbeats 20000000 in
theorem refFits_at (m : Nat) : ∀ (v : V) (d : Nat) (w : World) (L N : Nat) (cs : List Value), v.size ≤ m → d ≤ 1000000 → VIs w L N v cs → N ≤ w.heap.size →
    Calls Tryd.prog 11 #[.agg cs.toArray, .int .i64 (d : Int)] w fun e w' => e = .returned (.bool (v.fits d)) ∧ Below w.heap.size w w' := by
  induction m with
  | zero => intro v d w L N cs hm; exact absurd (size_pos v) (by omega)
  | succ m ih =>
  intro v d w L N cs hm hd hv hN
  obtain ⟨k, n, t, l, ks⟩ := v
  obtain ⟨⟨ml, mk, mt, mx⟩, A, c, A', c', rfl, h1, h2⟩ := hv.out
  have hb0 := (Below.refl w.heap.size w).alloc (Nat.le_refl _) (.cells #[.int .i64 k, .int .i64 n, .string ⟨t.toArray⟩, .slice A l.length c, .slice A' ks.length c'] 25)
  have x1 := Box.new w (.int .i64 k) (.int .i64 n) (.string ⟨t.toArray⟩) (.slice A l.length c) (.slice A' ks.length c') 25
  have hsz1 : w.heap.size + 1 ≤ (w.alloc (.cells #[.int .i64 k, .int .i64 n, .string ⟨t.toArray⟩, .slice A l.length c, .slice A' ks.length c'] 25)).heap.size := by simp
  have HB0 := Lib.hid hb0; have X1 := Lib.hid x1; have HS1 := Lib.hid hsz1; have HV := Lib.hid hv; have HM := Lib.hid hm
  clear hb0 x1 hsz1 hv mx hm
  cases d with
  | zero =>
    have e0 : (V.mk k n t l ks).fits 0 = false := fits_zero _
    rw [e0]
    clear e0
    go_enter Tryd.func11, Tryd.ntmps11
    go_wp2
    go_ret
    exact ⟨rfl, HB0.out⟩
  | succ d =>
  have hH : (V.mk k n t l ks).fits (d + 1) = (headD k n t.isEmpty l.length ks.length (unlikeB ks) && V.fitsAll l d) := by rw [fits_mk, headD_eq]
  generalize (V.mk k n t l ks).fits (d + 1) = H at *
  have UY := Lib.hid (fun (j : Nat) (h : (ks.take j).Nodup) (hj : ks.length ≤ j) => unlike_yes h hj)
  have UN := Lib.hid (fun (s j : Nat) (hs : s < ks.length) (hj : j < ks.length) (hlt : s < j) (h : ks[s] = ks[j]) => unlike_no hs hj hlt h)
  have FY := Lib.hid (fitsAll_at l d).2
  have FN := Lib.hid (fun (i : Nat) (hi : i < l.length) (h : l[i].fits d = false) => all_no hi h)
  generalize unlikeB ks = U at *
  generalize V.fitsAll l d = F at *
  obtain ⟨ll, hll⟩ : ∃ ll, l.length = ll := ⟨_, rfl⟩
  obtain ⟨lk, hlk⟩ : ∃ lk, ks.length = lk := ⟨_, rfl⟩
  rw [hll] at HB0 X1 HS1 ml hH ⊢
  rw [hlk] at HB0 X1 HS1 mk hH ⊢
  have HH := Lib.hid hH; have NL := Lib.hid hll; have NK := Lib.hid hlk; have H1 := Lib.hid h1; have H2 := Lib.hid h2
  clear hH hll hlk h1 h2
  obtain ⟨D, hD⟩ : ∃ D : Int, ((d + 1 : Nat) : Int) = D := ⟨_, rfl⟩
  rw [hD]
  have u1 : decide (D < 1) = false := decide_eq_false (by omega)
  have u2 : D - 1 = (d : Int) := by omega
  have u3 : IntKind.i64.wrap (d : Int) = (d : Int) := by rw [IntKind.wrap_i64]; omega
  have HD := Lib.hid hD
  clear hD
  by_cases hk : 1 ≤ k ∧ k ≤ 6
  · have hk' : k = 1 ∨ k = 2 ∨ k = 3 ∨ k = 4 ∨ k = 5 ∨ k = 6 := by omega
    clear hk
    rcases hk' with rfl | rfl | rfl | rfl | rfl | rfl
    · -- kind 1
      by_cases q1 : n = 0
      rotate_left
      · have d1 : (n == 0) = false := by simp; omega
        go_enter Tryd.func11, Tryd.ntmps11
        go_wp2
        go_ret
        exact ⟨ret_bool (HH.out.trans (by unfold headD; cases U <;> cases F <;> simp <;> omega)).symm, HB0.out⟩
      · subst q1
        cases t with
        | cons x r =>
          have d3 : ((x :: r) == ([] : List UInt8)) = false := rfl
          go_enter Tryd.func11, Tryd.ntmps11
          go_wp2
          go_ret
          exact ⟨ret_bool (HH.out.trans (by unfold headD; cases U <;> cases F <;> simp <;> omega)).symm, HB0.out⟩
        | nil =>
          cases ll with
          | succ ll =>
            have d4 : decide (0 < ((ll + 1 : Nat) : Int)) = true := decide_eq_true (by omega)
            go_enter Tryd.func11, Tryd.ntmps11
            go_wp2
            go_ret
            exact ⟨ret_bool (HH.out.trans (by unfold headD; cases U <;> cases F <;> simp <;> omega)).symm, HB0.out⟩
          | zero =>
            cases lk with
            | succ lk =>
              have d5 : decide (0 < ((lk + 1 : Nat) : Int)) = true := decide_eq_true (by omega)
              go_enter Tryd.func11, Tryd.ntmps11
              go_wp2
              go_ret
              exact ⟨ret_bool (HH.out.trans (by unfold headD; cases U <;> cases F <;> simp <;> omega)).symm, HB0.out⟩
            | zero =>
              have hl0 : l = [] := List.length_eq_zero_iff.1 NL.out
              have hk0 : ks = [] := List.length_eq_zero_iff.1 NK.out
              have HU := Lib.hid (UY.out 0 (by simp) (by rw [hk0]; exact Nat.le_refl _))
              have HF := Lib.hid (FY.out (fun s hs => by rw [hl0] at hs; exact absurd hs (Nat.not_lt_zero _)))
              clear hl0 hk0
              go_enter Tryd.func11, Tryd.ntmps11
              go_wp2
              go_loopw [6] (fun i wr => i = .int .i64 0 ∧ Box wr w.heap.size (.int .i64 1) (.int .i64 0) (.string ⟨#[]⟩) (.slice A 0 c) (.slice A' 0 c') ∧ Below w.heap.size w wr) (fun i _ => 0)
              case atStart => exact ⟨rfl, X1.out, HB0.out⟩
              case round =>
                obtain ⟨rfl, bx, hb⟩ := hrel
                have BX := Lib.hid bx
                obtain ⟨-, -, -, x3, x4⟩ := bx
                go_wp2
                go_loopw [8] (fun i wr => i = .int .i64 0 ∧ Box wr w.heap.size (.int .i64 1) (.int .i64 0) (.string ⟨#[]⟩) (.slice A 0 c) (.slice A' 0 c') ∧ Below w.heap.size w wr) (fun i _ => 0)
                case atStart => exact ⟨rfl, BX.out, hb⟩
                case round =>
                  clear x3 x4 hb
                  obtain ⟨rfl, bx, hb⟩ := hrel
                  obtain ⟨-, -, -, x3, x4⟩ := bx
                  go_wp2
                  go_ret
                  exact ⟨ret_bool (HH.out.trans (by rw [HU.out, HF.out]; unfold headD; simp <;> omega)).symm, hb⟩
    · -- kind 2
      by_cases q1 : n = 0 ∨ n = 1
      rotate_left
      · have d1 : (n == 0) = false := by simp; omega
        have d2 : (n == 1) = false := by simp; omega
        have d1b : (n != 0) = true := by simp; omega
        have d2b : (n != 1) = true := by simp; omega
        go_enter Tryd.func11, Tryd.ntmps11
        go_wp2
        go_ret
        exact ⟨ret_bool (HH.out.trans (by unfold headD; cases U <;> cases F <;> simp <;> omega)).symm, HB0.out⟩
      · rcases q1 with rfl | rfl
        · -- 0
          cases t with
          | cons x r =>
            have d3 : ((x :: r) == ([] : List UInt8)) = false := rfl
            go_enter Tryd.func11, Tryd.ntmps11
            go_wp2
            go_ret
            exact ⟨ret_bool (HH.out.trans (by unfold headD; cases U <;> cases F <;> simp <;> omega)).symm, HB0.out⟩
          | nil =>
            cases ll with
            | succ ll =>
              have d4 : decide (0 < ((ll + 1 : Nat) : Int)) = true := decide_eq_true (by omega)
              go_enter Tryd.func11, Tryd.ntmps11
              go_wp2
              go_ret
              exact ⟨ret_bool (HH.out.trans (by unfold headD; cases U <;> cases F <;> simp <;> omega)).symm, HB0.out⟩
            | zero =>
              cases lk with
              | succ lk =>
                have d5 : decide (0 < ((lk + 1 : Nat) : Int)) = true := decide_eq_true (by omega)
                go_enter Tryd.func11, Tryd.ntmps11
                go_wp2
                go_ret
                exact ⟨ret_bool (HH.out.trans (by unfold headD; cases U <;> cases F <;> simp <;> omega)).symm, HB0.out⟩
              | zero =>
                have hl0 : l = [] := List.length_eq_zero_iff.1 NL.out
                have hk0 : ks = [] := List.length_eq_zero_iff.1 NK.out
                have HU := Lib.hid (UY.out 0 (by simp) (by rw [hk0]; exact Nat.le_refl _))
                have HF := Lib.hid (FY.out (fun s hs => by rw [hl0] at hs; exact absurd hs (Nat.not_lt_zero _)))
                clear hl0 hk0
                go_enter Tryd.func11, Tryd.ntmps11
                go_wp2
                go_loopw [6] (fun i wr => i = .int .i64 0 ∧ Box wr w.heap.size (.int .i64 2) (.int .i64 0) (.string ⟨#[]⟩) (.slice A 0 c) (.slice A' 0 c') ∧ Below w.heap.size w wr) (fun i _ => 0)
                case atStart => exact ⟨rfl, X1.out, HB0.out⟩
                case round =>
                  obtain ⟨rfl, bx, hb⟩ := hrel
                  have BX := Lib.hid bx
                  obtain ⟨-, -, -, x3, x4⟩ := bx
                  go_wp2
                  go_loopw [8] (fun i wr => i = .int .i64 0 ∧ Box wr w.heap.size (.int .i64 2) (.int .i64 0) (.string ⟨#[]⟩) (.slice A 0 c) (.slice A' 0 c') ∧ Below w.heap.size w wr) (fun i _ => 0)
                  case atStart => exact ⟨rfl, BX.out, hb⟩
                  case round =>
                    clear x3 x4 hb
                    obtain ⟨rfl, bx, hb⟩ := hrel
                    obtain ⟨-, -, -, x3, x4⟩ := bx
                    go_wp2
                    go_ret
                    exact ⟨ret_bool (HH.out.trans (by rw [HU.out, HF.out]; unfold headD; simp <;> omega)).symm, hb⟩
        · -- 1
          cases t with
          | cons x r =>
            have d3 : ((x :: r) == ([] : List UInt8)) = false := rfl
            go_enter Tryd.func11, Tryd.ntmps11
            go_wp2
            go_ret
            exact ⟨ret_bool (HH.out.trans (by unfold headD; cases U <;> cases F <;> simp <;> omega)).symm, HB0.out⟩
          | nil =>
            cases ll with
            | succ ll =>
              have d4 : decide (0 < ((ll + 1 : Nat) : Int)) = true := decide_eq_true (by omega)
              go_enter Tryd.func11, Tryd.ntmps11
              go_wp2
              go_ret
              exact ⟨ret_bool (HH.out.trans (by unfold headD; cases U <;> cases F <;> simp <;> omega)).symm, HB0.out⟩
            | zero =>
              cases lk with
              | succ lk =>
                have d5 : decide (0 < ((lk + 1 : Nat) : Int)) = true := decide_eq_true (by omega)
                go_enter Tryd.func11, Tryd.ntmps11
                go_wp2
                go_ret
                exact ⟨ret_bool (HH.out.trans (by unfold headD; cases U <;> cases F <;> simp <;> omega)).symm, HB0.out⟩
              | zero =>
                have hl0 : l = [] := List.length_eq_zero_iff.1 NL.out
                have hk0 : ks = [] := List.length_eq_zero_iff.1 NK.out
                have HU := Lib.hid (UY.out 0 (by simp) (by rw [hk0]; exact Nat.le_refl _))
                have HF := Lib.hid (FY.out (fun s hs => by rw [hl0] at hs; exact absurd hs (Nat.not_lt_zero _)))
                clear hl0 hk0
                go_enter Tryd.func11, Tryd.ntmps11
                go_wp2
                go_loopw [6] (fun i wr => i = .int .i64 0 ∧ Box wr w.heap.size (.int .i64 2) (.int .i64 1) (.string ⟨#[]⟩) (.slice A 0 c) (.slice A' 0 c') ∧ Below w.heap.size w wr) (fun i _ => 0)
                case atStart => exact ⟨rfl, X1.out, HB0.out⟩
                case round =>
                  obtain ⟨rfl, bx, hb⟩ := hrel
                  have BX := Lib.hid bx
                  obtain ⟨-, -, -, x3, x4⟩ := bx
                  go_wp2
                  go_loopw [8] (fun i wr => i = .int .i64 0 ∧ Box wr w.heap.size (.int .i64 2) (.int .i64 1) (.string ⟨#[]⟩) (.slice A 0 c) (.slice A' 0 c') ∧ Below w.heap.size w wr) (fun i _ => 0)
                  case atStart => exact ⟨rfl, BX.out, hb⟩
                  case round =>
                    clear x3 x4 hb
                    obtain ⟨rfl, bx, hb⟩ := hrel
                    obtain ⟨-, -, -, x3, x4⟩ := bx
                    go_wp2
                    go_ret
                    exact ⟨ret_bool (HH.out.trans (by rw [HU.out, HF.out]; unfold headD; simp <;> omega)).symm, hb⟩
    · -- kind 3
      by_cases q1 : -9007199254740992 ≤ n
      rotate_left
      · have d1 : decide (n < -9007199254740992) = true := decide_eq_true (by omega)
        go_enter Tryd.func11, Tryd.ntmps11
        go_wp2
        go_ret
        exact ⟨ret_bool (HH.out.trans (by unfold headD; cases U <;> cases F <;> simp <;> omega)).symm, HB0.out⟩
      · have d1 : decide (n < -9007199254740992) = false := decide_eq_false (by omega)
        by_cases q2 : n ≤ 9007199254740992
        rotate_left
        · have d2 : decide (9007199254740992 < n) = true := decide_eq_true (by omega)
          go_enter Tryd.func11, Tryd.ntmps11
          go_wp2
          go_ret
          exact ⟨ret_bool (HH.out.trans (by unfold headD; cases U <;> cases F <;> simp <;> omega)).symm, HB0.out⟩
        · have d2 : decide (9007199254740992 < n) = false := decide_eq_false (by omega)
          cases t with
          | cons x r =>
            have d3 : ((x :: r) == ([] : List UInt8)) = false := rfl
            go_enter Tryd.func11, Tryd.ntmps11
            go_wp2
            go_ret
            exact ⟨ret_bool (HH.out.trans (by unfold headD; cases U <;> cases F <;> simp <;> omega)).symm, HB0.out⟩
          | nil =>
            cases ll with
            | succ ll =>
              have d4 : decide (0 < ((ll + 1 : Nat) : Int)) = true := decide_eq_true (by omega)
              go_enter Tryd.func11, Tryd.ntmps11
              go_wp2
              go_ret
              exact ⟨ret_bool (HH.out.trans (by unfold headD; cases U <;> cases F <;> simp <;> omega)).symm, HB0.out⟩
            | zero =>
              cases lk with
              | succ lk =>
                have d5 : decide (0 < ((lk + 1 : Nat) : Int)) = true := decide_eq_true (by omega)
                go_enter Tryd.func11, Tryd.ntmps11
                go_wp2
                go_ret
                exact ⟨ret_bool (HH.out.trans (by unfold headD; cases U <;> cases F <;> simp <;> omega)).symm, HB0.out⟩
              | zero =>
                have hl0 : l = [] := List.length_eq_zero_iff.1 NL.out
                have hk0 : ks = [] := List.length_eq_zero_iff.1 NK.out
                have HU := Lib.hid (UY.out 0 (by simp) (by rw [hk0]; exact Nat.le_refl _))
                have HF := Lib.hid (FY.out (fun s hs => by rw [hl0] at hs; exact absurd hs (Nat.not_lt_zero _)))
                clear hl0 hk0
                go_enter Tryd.func11, Tryd.ntmps11
                go_wp2
                go_loopw [6] (fun i wr => i = .int .i64 0 ∧ Box wr w.heap.size (.int .i64 3) (.int .i64 n) (.string ⟨#[]⟩) (.slice A 0 c) (.slice A' 0 c') ∧ Below w.heap.size w wr) (fun i _ => 0)
                case atStart => exact ⟨rfl, X1.out, HB0.out⟩
                case round =>
                  obtain ⟨rfl, bx, hb⟩ := hrel
                  have BX := Lib.hid bx
                  obtain ⟨-, -, -, x3, x4⟩ := bx
                  go_wp2
                  go_loopw [8] (fun i wr => i = .int .i64 0 ∧ Box wr w.heap.size (.int .i64 3) (.int .i64 n) (.string ⟨#[]⟩) (.slice A 0 c) (.slice A' 0 c') ∧ Below w.heap.size w wr) (fun i _ => 0)
                  case atStart => exact ⟨rfl, BX.out, hb⟩
                  case round =>
                    clear x3 x4 hb
                    obtain ⟨rfl, bx, hb⟩ := hrel
                    obtain ⟨-, -, -, x3, x4⟩ := bx
                    go_wp2
                    go_ret
                    exact ⟨ret_bool (HH.out.trans (by rw [HU.out, HF.out]; unfold headD; simp <;> omega)).symm, hb⟩
    · -- kind 4
      by_cases q1 : n = 0
      rotate_left
      · have d1 : (n == 0) = false := by simp; omega
        go_enter Tryd.func11, Tryd.ntmps11
        go_wp2
        go_ret
        exact ⟨ret_bool (HH.out.trans (by unfold headD; cases U <;> cases F <;> simp <;> omega)).symm, HB0.out⟩
      · subst q1
        cases ll with
        | succ ll =>
          have d4 : decide (0 < ((ll + 1 : Nat) : Int)) = true := decide_eq_true (by omega)
          go_enter Tryd.func11, Tryd.ntmps11
          go_wp2
          go_ret
          exact ⟨ret_bool (HH.out.trans (by unfold headD; cases U <;> cases F <;> simp <;> omega)).symm, HB0.out⟩
        | zero =>
          cases lk with
          | succ lk =>
            have d5 : decide (0 < ((lk + 1 : Nat) : Int)) = true := decide_eq_true (by omega)
            go_enter Tryd.func11, Tryd.ntmps11
            go_wp2
            go_ret
            exact ⟨ret_bool (HH.out.trans (by unfold headD; cases U <;> cases F <;> simp <;> omega)).symm, HB0.out⟩
          | zero =>
            have hl0 : l = [] := List.length_eq_zero_iff.1 NL.out
            have hk0 : ks = [] := List.length_eq_zero_iff.1 NK.out
            have HU := Lib.hid (UY.out 0 (by simp) (by rw [hk0]; exact Nat.le_refl _))
            have HF := Lib.hid (FY.out (fun s hs => by rw [hl0] at hs; exact absurd hs (Nat.not_lt_zero _)))
            clear hl0 hk0
            go_enter Tryd.func11, Tryd.ntmps11
            go_wp2
            go_loopw [6] (fun i wr => i = .int .i64 0 ∧ Box wr w.heap.size (.int .i64 4) (.int .i64 0) (.string ⟨t.toArray⟩) (.slice A 0 c) (.slice A' 0 c') ∧ Below w.heap.size w wr) (fun i _ => 0)
            case atStart => exact ⟨rfl, X1.out, HB0.out⟩
            case round =>
              obtain ⟨rfl, bx, hb⟩ := hrel
              have BX := Lib.hid bx
              obtain ⟨-, -, -, x3, x4⟩ := bx
              go_wp2
              go_loopw [8] (fun i wr => i = .int .i64 0 ∧ Box wr w.heap.size (.int .i64 4) (.int .i64 0) (.string ⟨t.toArray⟩) (.slice A 0 c) (.slice A' 0 c') ∧ Below w.heap.size w wr) (fun i _ => 0)
              case atStart => exact ⟨rfl, BX.out, hb⟩
              case round =>
                clear x3 x4 hb
                obtain ⟨rfl, bx, hb⟩ := hrel
                obtain ⟨-, -, -, x3, x4⟩ := bx
                go_wp2
                go_ret
                exact ⟨ret_bool (HH.out.trans (by rw [HU.out, HF.out]; unfold headD; simp <;> omega)).symm, hb⟩
    · -- kind 5
      by_cases q1 : n = 0
      rotate_left
      · have d1 : (n == 0) = false := by simp; omega
        go_enter Tryd.func11, Tryd.ntmps11
        go_wp2
        go_ret
        exact ⟨ret_bool (HH.out.trans (by unfold headD; cases U <;> cases F <;> simp <;> omega)).symm, HB0.out⟩
      · subst q1
        cases t with
        | cons x r =>
          have d3 : ((x :: r) == ([] : List UInt8)) = false := rfl
          go_enter Tryd.func11, Tryd.ntmps11
          go_wp2
          go_ret
          exact ⟨ret_bool (HH.out.trans (by unfold headD; cases U <;> cases F <;> simp <;> omega)).symm, HB0.out⟩
        | nil =>
          by_cases q4 : ll ≤ 64
          rotate_left
          · have d4 : decide ((64 : Int) < (ll : Int)) = true := decide_eq_true (by omega)
            go_enter Tryd.func11, Tryd.ntmps11
            go_wp2
            go_ret
            exact ⟨ret_bool (HH.out.trans (by unfold headD; cases U <;> cases F <;> simp <;> omega)).symm, HB0.out⟩
          · have d4 : decide ((64 : Int) < (ll : Int)) = false := decide_eq_false (by omega)
            cases lk with
            | succ lk =>
              have d5 : decide (0 < ((lk + 1 : Nat) : Int)) = true := decide_eq_true (by omega)
              go_enter Tryd.func11, Tryd.ntmps11
              go_wp2
              go_ret
              exact ⟨ret_bool (HH.out.trans (by unfold headD; cases U <;> cases F <;> simp <;> omega)).symm, HB0.out⟩
            | zero =>
              have hk0 : ks = [] := List.length_eq_zero_iff.1 NK.out
              have T3 := Lib.hid (UY.out 0 (by simp) (by rw [hk0]; exact Nat.le_refl _))
              have HG := Lib.hid (fun (hU : U = true) (hF : F = true) => HH.out.trans (by subst hU; subst hF; unfold headD; simp <;> omega) : U = true → F = true → H = true)
              have HN2 := Lib.hid (fun (hF : F = false) => HH.out.trans (by subst hF; simp) : F = false → H = false)
              clear hk0
              go_enter Tryd.func11, Tryd.ntmps11
              go_wp2
              go_loopw [6] (fun i wr => i = .int .i64 0 ∧ Box wr w.heap.size (.int .i64 5) (.int .i64 0) (.string ⟨#[]⟩) (.slice A ll c) (.slice A' 0 c') ∧ w.heap.size + 1 ≤ wr.heap.size ∧ Below w.heap.size w wr) (fun i _ => 0)
              case atStart => exact ⟨rfl, X1.out, HS1.out, HB0.out⟩
              case round =>
                obtain ⟨rfl, bx, hs, hb⟩ := hrel
                have BX := Lib.hid bx; have HBB := Lib.hid hb
                clear hb
                obtain ⟨-, -, -, x3, x4⟩ := bx
                go_wp2
                go_loopw [8] (fun i W => ∃ r : Nat, r ≤ ll ∧ i = .int .i64 r ∧ (∀ s (hs : s < l.length), s < r → l[s].fits d = true) ∧ Box W w.heap.size (.int .i64 5) (.int .i64 0) (.string ⟨#[]⟩) (.slice A ll c) (.slice A' 0 c') ∧ w.heap.size + 1 ≤ W.heap.size ∧ Below w.heap.size w W) (fun i _ => ll - (intOf i).toNat)
                case atStart => exact ⟨0, Nat.zero_le _, rfl, fun _ _ h => absurd h (Nat.not_lt_zero _), BX.out, hs, HBB.out⟩
                case round =>
                  clear x3 x4 hs BX HBB
                  obtain ⟨r, hr, rfl, hne, bx, hs, hb⟩ := hrel
                  have HNE := Lib.hid hne; have BX := Lib.hid bx; have HBB := Lib.hid hb; clear hne
                  obtain ⟨-, -, -, x3, x4⟩ := bx
                  by_cases hrt : r < ll
                  · have hrl : r < l.length := by have := NL.out; omega
                    obtain ⟨p, o, rfl, _, hpN, xs, hx5, hxv⟩ := VIs.item H2.out r hrl
                    have hbN := hb.mono hN
                    have hc := fun wq (hwq : Below w.heap.size w wq) => ih l[r] d wq L N xs (by have := HM.out; have := size_get (k := 5) (n := 0) (t := []) (ks := ks) r hrl; omega) (by omega) (hxv.below (hwq.mono hN)) (Nat.le_trans hN hwq.size)
                    have T1 := Lib.hid (FN.out r hrl)
                    have T2 := Lib.hid (fun (h : l[r].fits d = true) s (hs : s < l.length) (hsr : s < r + 1) => (show l[s].fits d = true from if e : s = r then by subst e; exact h else HNE.out s hs (by omega)))
                    obtain ⟨a0, a1, a2, a3, a4, rfl, m0, m1, m2, m3, m4⟩ := hx5.keep (w' := wr) hpN (fun p hp => hbN.cell hp)
                    obtain ⟨Q, hQ⟩ : ∃ Q, l[r].fits d = Q := ⟨_, rfl⟩
                    rw [hQ] at hc T1 T2
                    have HC := Lib.hid hc
                    have hr0 : (0 : Int) ≤ r := by omega
                    have hr1 : (r : Int) < ll := by omega
                    clear hc hQ hx5 hxv hb
                    go_wp2_with fail
                    refine (HC.out _ HBB.out).mono ?_
                    rintro e1 w1 ⟨rfl, hb1⟩
                    dsimp only
                    have hs1 := hb1.size
                    have BX1 := Lib.hid (BX.out.below (by omega) hb1)
                    have HB1 := Lib.hid (HBB.out.trans (hb1.mono (by omega)))
                    have HS2 := Lib.hid hs1
                    clear hb1 hs1 HC
                    cases Q with
                    | false =>
                      have T3b := Lib.hid (T1.out rfl); clear T1 T2
                      go_wp2
                      go_ret
                      exact ⟨ret_bool (HN2.out T3b.out).symm, HB1.out⟩
                    | true =>
                      have T3b := Lib.hid (T2.out rfl); clear T1 T2
                      go_wp2
                      go_roundw
                      case rel => exact ⟨r + 1, by omega, by go_num, T3b.out, BX1.out, by have := HS2.out; omega, HB1.out⟩
                      case measure => simp [intOf]; omega
                  · have T4 := Lib.hid (FY.out (fun s hs => HNE.out s hs (by have := NL.out; omega)))
                    obtain rfl : r = ll := by omega
                    go_wp2
                    go_ret
                    exact ⟨ret_bool (HG.out T3.out T4.out).symm, HBB.out⟩
    · -- kind 6
      by_cases q1 : n = 0
      rotate_left
      · have d1 : (n == 0) = false := by simp; omega
        go_enter Tryd.func11, Tryd.ntmps11
        go_wp2
        go_ret
        exact ⟨ret_bool (HH.out.trans (by unfold headD; cases U <;> cases F <;> simp <;> omega)).symm, HB0.out⟩
      · subst q1
        cases t with
        | cons x r =>
          have d3 : ((x :: r) == ([] : List UInt8)) = false := rfl
          go_enter Tryd.func11, Tryd.ntmps11
          go_wp2
          go_ret
          exact ⟨ret_bool (HH.out.trans (by unfold headD; cases U <;> cases F <;> simp <;> omega)).symm, HB0.out⟩
        | nil =>
          by_cases q4 : ll ≤ 64
          rotate_left
          · have d4 : decide ((64 : Int) < (ll : Int)) = true := decide_eq_true (by omega)
            go_enter Tryd.func11, Tryd.ntmps11
            go_wp2
            go_ret
            exact ⟨ret_bool (HH.out.trans (by unfold headD; cases U <;> cases F <;> simp <;> omega)).symm, HB0.out⟩
          · have d4 : decide ((64 : Int) < (ll : Int)) = false := decide_eq_false (by omega)
            by_cases q5 : lk = ll
            rotate_left
            · have d5 : ((lk : Int) == (ll : Int)) = false := by simp; omega
              go_enter Tryd.func11, Tryd.ntmps11
              go_wp2
              go_ret
              exact ⟨ret_bool (HH.out.trans (by unfold headD; cases U <;> cases F <;> simp <;> omega)).symm, HB0.out⟩
            · subst q5
              have HG := Lib.hid (fun (hU : U = true) (hF : F = true) => HH.out.trans (by subst hU; subst hF; unfold headD; simp <;> omega) : U = true → F = true → H = true)
              have HN1 := Lib.hid (fun (hU : U = false) => HH.out.trans (by subst hU; unfold headD; simp) : U = false → H = false)
              have HN2 := Lib.hid (fun (hF : F = false) => HH.out.trans (by subst hF; simp) : F = false → H = false)
              go_enter Tryd.func11, Tryd.ntmps11
              go_wp2
              go_loopw [6] (fun i wr => ∃ j : Nat, j ≤ lk ∧ i = .int .i64 j ∧ (ks.take j).Nodup ∧ Box wr w.heap.size (.int .i64 6) (.int .i64 0) (.string ⟨#[]⟩) (.slice A lk c) (.slice A' lk c') ∧ w.heap.size + 1 ≤ wr.heap.size ∧ Below w.heap.size w wr) (fun i _ => lk - (intOf i).toNat)
              case atStart => exact ⟨0, Nat.zero_le _, rfl, by simp, X1.out, HS1.out, HB0.out⟩
              case round =>
                obtain ⟨j, hj, rfl, hnd, bx, hs, hb⟩ := hrel
                have HND := Lib.hid hnd; have BX := Lib.hid bx; have HBB := Lib.hid hb; clear hnd hb
                obtain ⟨-, -, -, x3, x4⟩ := bx
                by_cases hlt : j < lk
                · have hjk : j < ks.length := by have := NK.out; omega
                  have NX := Lib.hid (nodup_next HND.out hjk)
                  have hj0 : (0 : Int) ≤ j := by omega
                  have hj1 : (j : Int) < lk := by omega
                  go_wp2_with fail
                  go_loopw [7] (fun i W => ∃ r : Nat, r ≤ j ∧ i = .int .i64 r ∧ (∀ s (hs : s < ks.length), s < r → ks[s] ≠ ks[j]) ∧ Box W w.heap.size (.int .i64 6) (.int .i64 0) (.string ⟨#[]⟩) (.slice A lk c) (.slice A' lk c') ∧ w.heap.size + 1 ≤ W.heap.size ∧ Below w.heap.size w W) (fun i _ => j - (intOf i).toNat)
                  case atStart => exact ⟨0, Nat.zero_le _, rfl, fun _ _ h => absurd h (Nat.not_lt_zero _), BX.out, hs, HBB.out⟩
                  case round =>
                    clear x3 x4 hs BX HBB HND
                    obtain ⟨r, hr, rfl, hne, bx, hs, hb⟩ := hrel
                    have HNE := Lib.hid hne; have BX := Lib.hid bx; have HBB := Lib.hid hb; clear hne
                    obtain ⟨-, -, -, x3, x4⟩ := bx
                    by_cases hrt : r < j
                    · have hrk : r < ks.length := by omega
                      obtain ⟨p, o, rfl, _, hpN, hc1⟩ := VIs.key H1.out j hjk
                      obtain ⟨p2, o2, e2, _, hpN2, hc2⟩ := VIs.key H1.out r hrk
                      injection e2 with e2; injection e2 with e2 e3; subst e2; subst e3
                      have hc1 := (hb.cell (p := ⟨p, o + j, none⟩) (by show p < _; omega)).trans hc1
                      have hc2 := (hb.cell (p := ⟨p, o + r, none⟩) (by show p < _; omega)).trans hc2
                      have T1 := Lib.hid (UN.out r j hrk hjk hrt)
                      have T2 := Lib.hid (fun (h : ks[r] ≠ ks[j]) s (hs : s < ks.length) (hsr : s < r + 1) => (show ks[s] ≠ ks[j] from if e : s = r then by subst e; exact h else HNE.out s hs (by omega)))
                      obtain ⟨x, hx⟩ : ∃ x, ks[j] = x := ⟨_, rfl⟩
                      obtain ⟨y, hy⟩ : ∃ y, ks[r] = y := ⟨_, rfl⟩
                      rw [hx] at hc1 T1 T2
                      rw [hy] at hc2 T1 T2
                      have HX := Lib.hid hx
                      have hr0 : (0 : Int) ≤ r := by omega
                      have hr1 : (r : Int) < lk := by omega
                      clear hx hy hb
                      by_cases hxy : x = y
                      · subst hxy
                        have hbe : (x == x) = true := by simp
                        have T3 := Lib.hid (T1.out rfl); clear T1 T2
                        go_wp2_with fail
                        go_region
                        all_goals
                          go_wp2
                          go_ret
                          exact ⟨ret_bool (HN1.out T3.out).symm, HBB.out.drew⟩
                      · have hbe : (x == y) = false := by simpa using hxy
                        have T3 := Lib.hid (T2.out (fun h => hxy h.symm)); clear hxy
                        go_wp2_with fail
                        go_region
                        all_goals
                          go_wp2
                          go_roundw
                          case rel => exact ⟨r + 1, by omega, by go_num, by rw [HX.out]; exact T3.out, BX.out, hs, HBB.out.drew⟩
                          case measure => simp [intOf]; omega
                    · obtain rfl : r = j := by omega
                      have T3 := Lib.hid (NX.out HNE.out)
                      clear NX HNE
                      go_wp2
                      go_roundw
                      case rel => exact ⟨r + 1, by omega, by go_num, T3.out, BX.out, hs, HBB.out⟩
                      case measure => simp [intOf]; omega
                · have T3 := Lib.hid (UY.out j HND.out (by have := NK.out; omega))
                  obtain rfl : j = lk := by omega
                  clear HND
                  go_wp2
                  go_loopw [8] (fun i W => ∃ r : Nat, r ≤ j ∧ i = .int .i64 r ∧ (∀ s (hs : s < l.length), s < r → l[s].fits d = true) ∧ Box W w.heap.size (.int .i64 6) (.int .i64 0) (.string ⟨#[]⟩) (.slice A j c) (.slice A' j c') ∧ w.heap.size + 1 ≤ W.heap.size ∧ Below w.heap.size w W) (fun i _ => j - (intOf i).toNat)
                  case atStart => exact ⟨0, Nat.zero_le _, rfl, fun _ _ h => absurd h (Nat.not_lt_zero _), BX.out, hs, HBB.out⟩
                  case round =>
                    clear x3 x4 hs BX HBB
                    obtain ⟨r, hr, rfl, hne, bx, hs, hb⟩ := hrel
                    have HNE := Lib.hid hne; have BX := Lib.hid bx; have HBB := Lib.hid hb; clear hne
                    obtain ⟨-, -, -, x3, x4⟩ := bx
                    by_cases hrt : r < j
                    · have hrl : r < l.length := by have := NL.out; omega
                      obtain ⟨p, o, rfl, _, hpN, xs, hx5, hxv⟩ := VIs.item H2.out r hrl
                      have hbN := hb.mono hN
                      have hc := fun wq (hwq : Below w.heap.size w wq) => ih l[r] d wq L N xs (by have := HM.out; have := size_get (k := 6) (n := 0) (t := []) (ks := ks) r hrl; omega) (by omega) (hxv.below (hwq.mono hN)) (Nat.le_trans hN hwq.size)
                      have T1 := Lib.hid (FN.out r hrl)
                      have T2 := Lib.hid (fun (h : l[r].fits d = true) s (hs : s < l.length) (hsr : s < r + 1) => (show l[s].fits d = true from if e : s = r then by subst e; exact h else HNE.out s hs (by omega)))
                      obtain ⟨a0, a1, a2, a3, a4, rfl, m0, m1, m2, m3, m4⟩ := hx5.keep (w' := wr) hpN (fun p hp => hbN.cell hp)
                      obtain ⟨Q, hQ⟩ : ∃ Q, l[r].fits d = Q := ⟨_, rfl⟩
                      rw [hQ] at hc T1 T2
                      have HC := Lib.hid hc
                      have hr0 : (0 : Int) ≤ r := by omega
                      have hr1 : (r : Int) < j := by omega
                      clear hc hQ hx5 hxv hb
                      go_wp2_with fail
                      refine (HC.out _ HBB.out).mono ?_
                      rintro e1 w1 ⟨rfl, hb1⟩
                      dsimp only
                      have hs1 := hb1.size
                      have BX1 := Lib.hid (BX.out.below (by omega) hb1)
                      have HB1 := Lib.hid (HBB.out.trans (hb1.mono (by omega)))
                      have HS2 := Lib.hid hs1
                      clear hb1 hs1 HC
                      cases Q with
                      | false =>
                        have T3b := Lib.hid (T1.out rfl); clear T1 T2
                        go_wp2
                        go_ret
                        exact ⟨ret_bool (HN2.out T3b.out).symm, HB1.out⟩
                      | true =>
                        have T3b := Lib.hid (T2.out rfl); clear T1 T2
                        go_wp2
                        go_roundw
                        case rel => exact ⟨r + 1, by omega, by go_num, T3b.out, BX1.out, by have := HS2.out; omega, HB1.out⟩
                        case measure => simp [intOf]; omega
                    · have T4 := Lib.hid (FY.out (fun s hs => HNE.out s hs (by have := NL.out; omega)))
                      obtain rfl : r = j := by omega
                      go_wp2
                      go_ret
                      exact ⟨ret_bool (HG.out T3.out T4.out).symm, HBB.out⟩
  · by_cases hk1 : k < 1
    · have d1 : decide (k < 1) = true := decide_eq_true hk1
      have hK := Lib.hid hk; clear hk hk1
      go_enter Tryd.func11, Tryd.ntmps11
      go_wp2
      go_ret
      exact ⟨ret_bool (HH.out.trans (by unfold headD; rw [decide_eq_false hK.out]; rfl)).symm, HB0.out⟩
    · have d1 : decide (k < 1) = false := decide_eq_false hk1
      have d2 : decide (6 < k) = true := decide_eq_true (by omega)
      have hK := Lib.hid hk; clear hk hk1
      go_enter Tryd.func11, Tryd.ntmps11
      go_wp2
      go_ret
      exact ⟨ret_bool (HH.out.trans (by unfold headD; rw [decide_eq_false hK.out]; rfl)).symm, HB0.out⟩
theorem refFits_any (v : V) (d : Nat) (w : World) (L N : Nat) (cs : List Value) (hd : d ≤ 1000000) (hv : VIs w L N v cs) (hN : N ≤ w.heap.size) :
    Calls Tryd.prog 11 #[.agg cs.toArray, .int .i64 (d : Int)] w fun e w' => e = .returned (.bool (v.fits d)) ∧ Below w.heap.size w w' :=
  refFits_at v.size v d w L N cs (Nat.le_refl _) hd hv hN
end Go.Proofs.YtobicmpgfiddhaaDoor
namespace Go.Proofs.YtobicmpgfiddhaaDoor

theorem items_nil : V.items [] = [] := by unfold V.items; rfl
theorem itemsMore_nil : V.itemsMore [] = [] := by unfold V.itemsMore; rfl
theorem itemsMore_cons (v : V) (r : List V) : V.itemsMore (v :: r) = 44 :: (v.show ++ V.itemsMore r) := by conv => lhs; unfold V.itemsMore
theorem pairs_nil (ks : List (List UInt8)) : V.pairs [] ks = [] := by unfold V.pairs; rfl
theorem pairsMore_nil (ks : List (List UInt8)) : V.pairsMore [] ks = [] := by unfold V.pairsMore; rfl
theorem pairsMore_cons (v : V) (r : List V) (ks : List (List UInt8)) : V.pairsMore (v :: r) ks = 44 :: (quoteJ (ks.headD []) ++ 58 :: (v.show ++ V.pairsMore r ks.tail)) := by conv => lhs; unfold V.pairsMore
theorem itemsMore_app (a b : List V) : V.itemsMore (a ++ b) = V.itemsMore a ++ V.itemsMore b := by
  induction a with
  | nil => rw [itemsMore_nil]; rfl
  | cons v a ih => rw [List.cons_append, itemsMore_cons, itemsMore_cons, ih]; simp
theorem items_app (v : V) (a b : List V) : V.items (v :: a ++ b) = V.items (v :: a) ++ V.itemsMore b := by
  rw [List.cons_append, items_cons, items_cons, itemsMore_app, List.append_assoc]
theorem pairsMore_app (a b : List V) : ∀ ks : List (List UInt8), V.pairsMore (a ++ b) ks = V.pairsMore a ks ++ V.pairsMore b (ks.drop a.length) := by
  induction a with
  | nil => intro ks; rw [pairsMore_nil]; rfl
  | cons v a ih =>
    intro ks
    rw [List.cons_append, pairsMore_cons, pairsMore_cons, ih]
    have e : ks.tail.drop a.length = ks.drop (v :: a).length := by rw [List.length_cons]; cases ks <;> simp
    rw [e]; simp
theorem pairs_app (v : V) (a b : List V) (ks : List (List UInt8)) : V.pairs (v :: a ++ b) ks = V.pairs (v :: a) ks ++ V.pairsMore b (ks.drop (a.length + 1)) := by
  rw [List.cons_append, pairs_cons, pairs_cons, pairsMore_app]
  have e : ks.tail.drop a.length = ks.drop (a.length + 1) := by cases ks <;> simp
  rw [e]; simp
theorem items_zero (l : List V) : V.items (l.take 0) = [] := by rw [List.take_zero]; exact items_nil
theorem items_one (l : List V) (h : 0 < l.length) : V.items (l.take (0 + 1)) = l[0].show := by
  obtain ⟨v, r, rfl⟩ : ∃ v r, l = v :: r := by cases l with | nil => simp at h | cons v r => exact ⟨v, r, rfl⟩
  show V.items [v] = _
  rw [items_cons, itemsMore_nil, List.append_nil]; rfl
theorem items_next (l : List V) (j : Nat) (h : j < l.length) (h0 : 0 < j) : V.items (l.take (j + 1)) = V.items (l.take j) ++ (44 : UInt8) :: l[j].show := by
  rw [List.take_succ_eq_append_getElem h]
  obtain ⟨v, r, e⟩ : ∃ v r, l.take j = v :: r := by
    cases hl : l.take j with
    | nil => have := congrArg List.length hl; rw [List.length_take, List.length_nil] at this; omega
    | cons v r => exact ⟨v, r, rfl⟩
  rw [e, items_app, itemsMore_cons, itemsMore_nil, List.append_nil]
theorem pairs_zero (l : List V) (ks : List (List UInt8)) : V.pairs (l.take 0) ks = [] := by rw [List.take_zero]; exact pairs_nil ks
theorem pairs_one (l : List V) (ks : List (List UInt8)) (h : 0 < l.length) (hk : 0 < ks.length) : V.pairs (l.take (0 + 1)) ks = quoteJ ks[0] ++ (58 : UInt8) :: l[0].show := by
  obtain ⟨v, r, rfl⟩ : ∃ v r, l = v :: r := by cases l with | nil => simp at h | cons v r => exact ⟨v, r, rfl⟩
  obtain ⟨k, s, rfl⟩ : ∃ v r, ks = v :: r := by cases ks with | nil => simp at hk | cons v r => exact ⟨v, r, rfl⟩
  show V.pairs [v] (k :: s) = _
  rw [pairs_cons, pairsMore_nil, List.append_nil]; rfl
theorem pairs_next (l : List V) (ks : List (List UInt8)) (j : Nat) (h : j < l.length) (hk : j < ks.length) (h0 : 0 < j) : V.pairs (l.take (j + 1)) ks = V.pairs (l.take j) ks ++ (44 : UInt8) :: (quoteJ ks[j] ++ (58 : UInt8) :: l[j].show) := by
  rw [List.take_succ_eq_append_getElem h]
  have hlen : (l.take j).length = j := by rw [List.length_take]; omega
  obtain ⟨v, r, e⟩ : ∃ v r, l.take j = v :: r := by
    cases hl : l.take j with
    | nil => have := congrArg List.length hl; rw [hlen] at this; simp at this; omega
    | cons v r => exact ⟨v, r, rfl⟩
  rw [e] at hlen ⊢
  have e2 : r.length + 1 = j := by simpa using hlen
  rw [pairs_app, pairsMore_cons, pairsMore_nil, List.append_nil, e2]
  have e3 : (ks.drop j).headD [] = ks[j] := by rw [List.drop_eq_getElem_cons hk]; rfl
  rw [e3]
theorem items_len (l : List V) (j : Nat) : (V.items (l.take j)).length ≤ (V.items l).length := by
  by_cases hz : l.take j = []
  · rw [hz, items_nil]; simp
  · obtain ⟨v, r, e⟩ : ∃ v r, l.take j = v :: r := by
      cases hl : l.take j with
      | nil => exact absurd hl hz
      | cons v r => exact ⟨v, r, rfl⟩
    have : V.items l = V.items (l.take j) ++ V.itemsMore (l.drop j) := by
      conv => lhs; rw [← List.take_append_drop j l]
      rw [e, items_app]
    rw [this, List.length_append]; omega
theorem pairs_len (l : List V) (ks : List (List UInt8)) (j : Nat) : (V.pairs (l.take j) ks).length ≤ (V.pairs l ks).length := by
  by_cases hz : l.take j = []
  · rw [hz, pairs_nil]; simp
  · obtain ⟨v, r, e⟩ : ∃ v r, l.take j = v :: r := by
      cases hl : l.take j with
      | nil => exact absurd hl hz
      | cons v r => exact ⟨v, r, rfl⟩
    have : V.pairs l ks = V.pairs (l.take j) ks ++ V.pairsMore (l.drop j) (ks.drop (r.length + 1)) := by
      conv => lhs; rw [← List.take_append_drop j l]
      rw [e, pairs_app]
    rw [this, List.length_append]; omega
theorem show_one (n : Int) (t : List UInt8) (l : List V) (ks : List (List UInt8)) : (V.mk 1 n t l ks).show = nullT := by unfold V.show; simp
theorem show_two (n : Int) (t : List UInt8) (l : List V) (ks : List (List UInt8)) : (V.mk 2 n t l ks).show = if n = 1 then trueT else falseT := by unfold V.show; simp
theorem show_three (n : Int) (t : List UInt8) (l : List V) (ks : List (List UInt8)) : (V.mk 3 n t l ks).show = decI n := by unfold V.show; simp
theorem show_four (n : Int) (t : List UInt8) (l : List V) (ks : List (List UInt8)) : (V.mk 4 n t l ks).show = quoteJ t := by unfold V.show; simp
/-- a good list's items are good -/
theorem good_item {k n : Int} {t : List UInt8} {l : List V} {ks : List (List UInt8)} (h : (V.mk k n t l ks).good = true) (i : Nat) (hi : i < l.length) : l[i].good = true := by
  rw [good_mk, Bool.and_eq_true, goods_iff] at h
  exact h.2 i hi
theorem good_head {k n : Int} {t : List UInt8} {l : List V} {ks : List (List UInt8)} (h : (V.mk k n t l ks).good = true) : HeadIs k n t l.length ks := by
  rw [good_mk, Bool.and_eq_true] at h
  exact head_says h.1
end Go.Proofs.YtobicmpgfiddhaaDoor
