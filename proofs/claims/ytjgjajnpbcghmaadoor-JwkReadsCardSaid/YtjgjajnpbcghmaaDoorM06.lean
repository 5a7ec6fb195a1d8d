/- Texts merged by program, in build order: JsonWithin, JsonFits, JsonField, JwkPure, Leaf, Encode, Decode. -/
import Derived.Test.YtjgjajnpbcghmaaDoorM02
import Derived.Test.YtjgjajnpbcghmaaDoorM05
import Derived.Test.YtjgjajnpbcghmaaDoorM04
import Derived.Test.YtjgjajnpbcghmaaDoorM01
namespace Go.Proofs.YtjgjajnpbcghmaaDoor
open Go.RowKit

theorem depth_of (k n : Int) (t : List UInt8) (l : List V) (ks : List (List UInt8)) (lv : Nat) (h : ∀ i (h : i < l.length), l[i].depth ≤ lv) : decide ((V.mk k n t l ks).depth ≤ lv + 1) = true := by
  rw [depth_mk]; have := (depths_iff l lv).2 h; simp; omega
theorem depth_not (k n : Int) (t : List UInt8) (l : List V) (ks : List (List UInt8)) (lv i : Nat) (hi : i < l.length) (h : ¬ l[i].depth ≤ lv) : decide ((V.mk k n t l ks).depth ≤ lv + 1) = false := by
  rw [depth_mk]
  have : ¬ V.depths l ≤ lv := fun h' => h ((depths_iff l lv).1 h' i hi)
  simp; omega
set_option maxRecDepth 100000 in
set_option maxHeartbeats 1000000 in
theorem within_at (m : Nat) : ∀ (v : V) (lv : Nat) (w : World) (L N b o : Nat) (cs : List Value), v.size ≤ m → lv ≤ 1000000 → Five w b o cs → b < N → VIs w L N v cs → N ≤ w.heap.size →
    Calls Tryd.prog 28 #[.pointer (some ⟨b, o, none⟩), .int .i64 lv] w fun e w' => e = .returned (.bool (decide (v.depth ≤ lv))) ∧ Below w.heap.size w w' := by
  induction m with
  | zero => intro v lv w L N b o cs hm; exact absurd (size_pos v) (by omega)
  | succ m ih =>
  intro v lv w L N b o cs hm hlv h5 hbN hv hN
  obtain ⟨k, n, t, l, ks⟩ := v
  obtain ⟨⟨ml, mk, -, -⟩, A, c, A', c', rfl, h1, h2⟩ := hv.out
  obtain ⟨c0, c1, c2, c3, c4, e, m0, m1, m2, m3, m4⟩ := h5
  injection e with e0 e; injection e with e1 e; injection e with e2 e; injection e with e3 e; injection e with e4 e
  subst e0; subst e1; subst e2; subst e3; subst e4
  cases lv with
  | zero =>
    have hz : decide ((V.mk k n t l ks).depth ≤ 0) = false := by rw [depth_mk]; simp
    rw [hz]
    go_enter Tryd.func28, Tryd.ntmps28
    go_wp2
    go_ret
    exact ⟨rfl, Below.refl _ _⟩
  | succ lv =>
    have q1 : (((lv + 1 : Nat) : Int) == 0) = false := by simp; omega
    have q2 : ((lv + 1 : Nat) : Int) - 1 = (lv : Int) := by omega
    have q3 : IntKind.i64.wrap (lv : Int) = (lv : Int) := by rw [IntKind.wrap_i64]; omega
    obtain ⟨x, hx⟩ : ∃ x : Int, ((lv + 1 : Nat) : Int) = x := ⟨_, rfl⟩
    have DO := Lib.hid (depth_of k n t l ks lv); have DN := Lib.hid (depth_not k n t l ks lv)
    obtain ⟨R, hR⟩ : ∃ R, decide ((V.mk k n t l ks).depth ≤ lv + 1) = R := ⟨_, rfl⟩
    rw [hR] at DO DN ⊢
    rw [hx] at q1 q2 ⊢
    obtain ⟨nl, hnl⟩ : ∃ nl, l.length = nl := ⟨_, rfl⟩
    rw [hnl] at ml m3
    have NL := Lib.hid hnl; have HM := Lib.hid hm; have H2 := Lib.hid h2
    clear hnl hx hR hv h1 h2 hm
    go_enter Tryd.func28, Tryd.ntmps28
    go_wp2_with fail
    go_loopw [13] (fun i wr => ∃ j : Nat, j ≤ nl ∧ i = .int .i64 j ∧ (∀ i (h : i < l.length), i < j → l[i].depth ≤ lv) ∧ Below w.heap.size w wr) (fun i _ => nl - (intOf i).toNat)
    case atStart => exact ⟨0, Nat.zero_le _, rfl, fun _ _ h => absurd h (Nat.not_lt_zero _), Below.refl _ _⟩
    case round =>
      obtain ⟨j, hj, rfl, hd, hb⟩ := hrel
      have HD := Lib.hid hd; have hs := hb.size; clear hd
      have m3' := (hb.cell (p := ⟨b, o + 3, none⟩) (by show b < _; omega)).trans m3
      by_cases hlt : j < nl
      · have hjl : j < l.length := by have := NL.out; omega
        obtain ⟨p, q, rfl, _, hpN, xs, hx5, hxv⟩ := VIs.item H2.out j hjl
        have hbN' := hb.mono hN
        have hc := fun wq (hwq : Below w.heap.size w wq) => ih l[j] lv wq L N p (q + j * 5) xs (by have := HM.out; have := size_get (k := k) (n := n) (t := t) (ks := ks) j hjl; omega) (by omega) (hx5.keep hpN (fun r hr => (hwq.mono hN).cell hr)) hpN (hxv.below (hwq.mono hN)) (Nat.le_trans hN hwq.size)
        have HC := Lib.hid hc; have HBW := Lib.hid hb
        have T2 := Lib.hid (DN.out j hjl)
        have T1 := Lib.hid (fun (h : l[j].depth ≤ lv) => show ∀ i (h : i < l.length), i < j + 1 → l[i].depth ≤ lv from fun i hi hij => by
          rcases Nat.lt_succ_iff_lt_or_eq.1 hij with h' | h'
          · exact HD.out i hi h'
          · subst h'; exact h)
        clear hc hx5 hxv hbN'
        generalize l[j] = x at *
        by_cases hxd : x.depth ≤ lv
        · have T3 := Lib.hid (T1.out hxd)
          have qd : decide (x.depth ≤ lv) = true := by simpa using hxd
          rw [qd] at HC
          clear T1 T2 hxd
          go_wp2_with (go_at_call 28; with_reducible refine (HC.out _ HBW.out).mono ?_; rintro e1 w1 ⟨rfl, hb1⟩)
          go_roundw
          case rel => exact ⟨j + 1, by omega, by go_num, T3.out, HBW.out.trans (hb1.mono hs)⟩
          case measure => simp [intOf]; omega
        · have T3 := Lib.hid (T2.out hxd)
          have qd : decide (x.depth ≤ lv) = false := by simpa using hxd
          rw [qd] at HC
          clear T1 T2 hxd
          go_wp2_with (go_at_call 28; with_reducible refine (HC.out _ HBW.out).mono ?_; rintro e1 w1 ⟨rfl, hb1⟩)
          go_ret
          exact ⟨ret_bool T3.out.symm, HBW.out.trans (hb1.mono hs)⟩
      · obtain rfl : nl = j := by omega
        have T3 := Lib.hid (DO.out fun i hi => HD.out i hi (by have := NL.out; omega))
        clear DO DN HD NL
        go_wp2
        go_ret
        exact ⟨ret_bool T3.out.symm, hb⟩
end Go.Proofs.YtjgjajnpbcghmaaDoor
namespace Go.Proofs.YtjgjajnpbcghmaaDoor
open Go.RowKit

set_option maxRecDepth 100000 in
set_option maxHeartbeats 1000000 in
theorem fits_at (m : Nat) : ∀ (v : V) (w : World) (L N b o : Nat) (cs : List Value), v.size ≤ m → Five w b o cs → b < N → VIs w L N v cs → N ≤ w.heap.size →
    Calls Tryd.prog 27 #[.pointer (some ⟨b, o, none⟩)] w fun e w' => e = .returned (.bool v.good) ∧ Below w.heap.size w w' := by
  induction m with
  | zero => intro v w L N b o cs hm; exact absurd (size_pos v) (by omega)
  | succ m ih =>
  intro v w L N b o cs hm h5 hbN hv hN
  have hff := fieldsFit_any v w L N b o cs h5 hbN hv hN
  obtain ⟨k, n, t, l, ks⟩ := v
  rw [good_mk]
  change Calls Tryd.prog _ _ _ (fun e w' => e = .returned (.bool (headB k n t l.length ks)) ∧ _) at hff
  obtain ⟨⟨ml, mk, -, -⟩, A, c, A', c', rfl, h1, h2⟩ := hv.out
  obtain ⟨c0, c1, c2, c3, c4, e, m0, m1, m2, m3, m4⟩ := h5
  injection e with e0 e; injection e with e1 e; injection e with e2 e; injection e with e3 e; injection e with e4 e
  subst e0; subst e1; subst e2; subst e3; subst e4
  have HF := Lib.hid hff
  cases hh : headB k n t l.length ks with
  | false =>
    rw [hh] at HF
    clear hff
    go_enter Tryd.func27, Tryd.ntmps27
    go_wp2_with (go_at_call 47; with_reducible refine (HF.out).mono ?_; rintro e1 w1 ⟨rfl, hb1⟩)
    go_ret
    exact ⟨rfl, hb1⟩
  | true =>
    rw [hh] at HF
    obtain ⟨R, hR⟩ : ∃ R, (true && V.goods l) = R := ⟨_, rfl⟩
    rw [hR]
    have DO := Lib.hid (fun (h : ∀ i (h : i < l.length), l[i].good = true) => show R = true by rw [← hR, (goods_iff l).2 h]; rfl)
    have DN := Lib.hid (fun (i : Nat) (hi : i < l.length) (h : l[i].good = false) => show R = false by
      rw [← hR]
      cases hg : V.goods l with
      | false => rfl
      | true => rw [(goods_iff l).1 hg i hi] at h; cases h)
    obtain ⟨nl, hnl⟩ : ∃ nl, l.length = nl := ⟨_, rfl⟩
    rw [hnl] at ml m3
    have NL := Lib.hid hnl; have HM := Lib.hid hm; have H2 := Lib.hid h2
    clear hnl hR hv h1 h2 hm hff hh
    go_enter Tryd.func27, Tryd.ntmps27
    go_wp2_with (go_at_call 47; with_reducible refine (HF.out).mono ?_; rintro e1 w1 ⟨rfl, hb1⟩; have m3x := (hb1.cell (p := ⟨b, o + 3, none⟩) (by show b < _; omega)).trans m3)
    go_loopw [12] (fun i wr => ∃ j : Nat, j ≤ nl ∧ i = .int .i64 j ∧ (∀ i (h : i < l.length), i < j → l[i].good = true) ∧ Below w.heap.size w wr) (fun i _ => nl - (intOf i).toNat)
    case atStart => exact ⟨0, Nat.zero_le _, rfl, fun _ _ h => absurd h (Nat.not_lt_zero _), hb1⟩
    case round =>
      obtain ⟨j, hj, rfl, hd, hb⟩ := hrel
      have HD := Lib.hid hd; have hs := hb.size; clear hd
      have m3' := (hb.cell (p := ⟨b, o + 3, none⟩) (by show b < _; omega)).trans m3
      by_cases hlt : j < nl
      · have hjl : j < l.length := by have := NL.out; omega
        obtain ⟨p, q, rfl, _, hpN, xs, hx5, hxv⟩ := VIs.item H2.out j hjl
        have hc := fun wq (hwq : Below w.heap.size w wq) => ih l[j] wq L N p (q + j * 5) xs (by have := HM.out; have := size_get (k := k) (n := n) (t := t) (ks := ks) j hjl; omega) (hx5.keep hpN (fun r hr => (hwq.mono hN).cell hr)) hpN (hxv.below (hwq.mono hN)) (Nat.le_trans hN hwq.size)
        have HC := Lib.hid hc; have HBW := Lib.hid hb
        have T2 := Lib.hid (DN.out j hjl)
        have T1 := Lib.hid (fun (h : l[j].good = true) => show ∀ i (h : i < l.length), i < j + 1 → l[i].good = true from fun i hi hij => by
          rcases Nat.lt_succ_iff_lt_or_eq.1 hij with h' | h'
          · exact HD.out i hi h'
          · subst h'; exact h)
        clear hc hx5 hxv
        generalize l[j] = x at *
        cases hg : x.good with
        | true =>
          have T3 := Lib.hid (T1.out hg)
          rw [hg] at HC
          clear T1 T2 hg
          go_wp2_with (go_at_call 27; with_reducible refine (HC.out _ HBW.out).mono ?_; rintro e2 w2 ⟨rfl, hb2⟩)
          go_roundw
          case rel => exact ⟨j + 1, by omega, by go_num, T3.out, HBW.out.trans (hb2.mono hs)⟩
          case measure => simp [intOf]; omega
        | false =>
          have T3 := Lib.hid (T2.out hg)
          rw [hg] at HC
          clear T1 T2 hg
          go_wp2_with (go_at_call 27; with_reducible refine (HC.out _ HBW.out).mono ?_; rintro e2 w2 ⟨rfl, hb2⟩)
          go_ret
          exact ⟨ret_bool T3.out.symm, HBW.out.trans (hb2.mono hs)⟩
      · obtain rfl : nl = j := by omega
        have T3 := Lib.hid (DO.out fun i hi => HD.out i hi (by have := NL.out; omega))
        clear DO DN HD NL
        go_wp2
        go_ret
        exact ⟨ret_bool T3.out.symm, hb⟩
theorem within_any (v : V) (lv : Nat) (w : World) (L N b o : Nat) (cs : List Value) (hlv : lv ≤ 1000000) (h5 : Five w b o cs) (hbN : b < N) (hv : VIs w L N v cs) (hN : N ≤ w.heap.size) :
    Calls Tryd.prog 28 #[.pointer (some ⟨b, o, none⟩), .int .i64 lv] w fun e w' => e = .returned (.bool (decide (v.depth ≤ lv))) ∧ Below w.heap.size w w' :=
  within_at v.size v lv w L N b o cs (Nat.le_refl _) hlv h5 hbN hv hN
theorem fits_any (v : V) (w : World) (L N b o : Nat) (cs : List Value) (h5 : Five w b o cs) (hbN : b < N) (hv : VIs w L N v cs) (hN : N ≤ w.heap.size) :
    Calls Tryd.prog 27 #[.pointer (some ⟨b, o, none⟩)] w fun e w' => e = .returned (.bool v.good) ∧ Below w.heap.size w w' :=
  fits_at v.size v w L N b o cs (Nat.le_refl _) h5 hbN hv hN
/-- a value's five cells in a new block -/
theorem five_new {w : World} {L N : Nat} {v : V} {cs : List Value} (hv : VIs w L N v cs) (t : TypeId) : Five (w.alloc (.cells cs.toArray t)) w.heap.size 0 cs := by
  obtain ⟨k, n, t', l, ks⟩ := v
  obtain ⟨-, A, c, A', c', rfl, -, -⟩ := hv.out
  refine ⟨_, _, _, _, _, rfl, ?_, ?_, ?_, ?_, ?_⟩ <;> simp
set_option maxRecDepth 100000 in
theorem good_any (v : V) (w : World) (L N : Nat) (cs : List Value) (hv : VIs w L N v cs) (hN : N ≤ w.heap.size) :
    Calls Tryd.prog 23 #[.agg cs.toArray] w fun e w' => e = .returned (.bool (v.fits 8)) ∧ Below w.heap.size w w' := by
  have hb0 := (Below.refl w.heap.size w).alloc (Nat.le_refl _) (.cells cs.toArray 34)
  have h5 := five_new hv 34
  have hs : (w.alloc (.cells cs.toArray 34)).heap.size = w.heap.size + 1 := by simp
  have c1 : Calls Tryd.prog 28 #[.pointer (some ⟨w.heap.size, 0, none⟩), .int .i64 8] (w.alloc (.cells cs.toArray 34)) fun e w' => e = .returned (.bool (decide (v.depth ≤ 8))) ∧ Below (w.alloc (.cells cs.toArray 34)).heap.size (w.alloc (.cells cs.toArray 34)) w' := within_any v 8 (w.alloc (.cells cs.toArray 34)) 0 (w.heap.size + 1) w.heap.size 0 cs (by decide) h5 (by omega) ((hv.below (hb0.mono hN)).more (Nat.zero_le _) (by omega)) (by rw [hs]; exact Nat.le_refl _)
  have c2 := fun wq (hb : Below (w.heap.size + 1) (w.alloc (.cells cs.toArray 34)) wq) => fits_any v wq 0 (w.heap.size + 1) w.heap.size 0 cs (h5.keep (N := w.heap.size + 1) (by omega) (fun p hp => hb.cell hp)) (by omega) (((hv.below (hb0.mono hN)).more (Nat.zero_le _) (show N ≤ w.heap.size + 1 by omega)).below hb) (by have := hb.size; rw [hs] at this; exact this)
  rw [fits_good]
  rw [hs] at c1
  obtain ⟨A, c, A', c', rfl, -, -⟩ := (show ∃ A c A' c', cs = [.int .i64 v.kind, .int .i64 v.num, .string ⟨v.text.toArray⟩, .slice A v.list.length c, .slice A' v.keys.length c'] ∧ True ∧ True by
    obtain ⟨k, n, t', l, ks⟩ := v
    obtain ⟨-, A, c, A', c', rfl, -, -⟩ := hv.out
    exact ⟨A, c, A', c', rfl, trivial, trivial⟩)
  have C1 := Lib.hid c1; have C2 := Lib.hid c2; have HB0 := Lib.hid hb0
  clear c1 c2 hb0 h5 hv hs
  cases hd : decide (v.depth ≤ 8) with
  | false =>
    rw [hd] at C1
    go_enter Tryd.func23, Tryd.ntmps23
    go_wp2_with (go_at_call 28; with_reducible refine (C1.out).mono ?_; rintro e1 w1 ⟨rfl, hb1⟩)
    go_ret
    exact ⟨rfl, HB0.out.trans (hb1.mono (by omega))⟩
  | true =>
    rw [hd] at C1
    go_enter Tryd.func23, Tryd.ntmps23
    go_wp2_with (first | (go_at_call 28; with_reducible refine (C1.out).mono ?_; rintro e1 w1 ⟨rfl, hb1⟩) | (go_at_call 27; with_reducible refine (C2.out _ hb1).mono ?_; rintro e2 w2 ⟨rfl, hb2⟩))
    go_ret
    exact ⟨ret_bool (by cases v.good <;> rfl), (HB0.out.trans (hb1.mono (by omega))).trans (hb2.mono (by have := hb1.size; simp at this; omega))⟩
end Go.Proofs.YtjgjajnpbcghmaaDoor
namespace Go.Proofs.YtjgjajnpbcghmaaDoor
open Go.RowKit

/-- where a key stands first; their number: nowhere -/
def keyAt (key : List UInt8) : List (List UInt8) → Nat
  | [] => 0
  | k :: r => if k = key then 0 else keyAt key r + 1
theorem keyAt_le (key : List UInt8) (ks : List (List UInt8)) : keyAt key ks ≤ ks.length := by
  induction ks with
  | nil => exact Nat.le_refl _
  | cons k r ih => unfold keyAt; split <;> simp; omega
theorem keyAt_hit (key : List UInt8) : ∀ (ks : List (List UInt8)) (h : keyAt key ks < ks.length), ks[keyAt key ks] = key
  | [], h => absurd h (Nat.not_lt_zero _)
  | k :: r, h => by
    by_cases hk : k = key
    · have e : keyAt key (k :: r) = 0 := by unfold keyAt; rw [if_pos hk]
      simp only [e]; exact hk
    · have e : keyAt key (k :: r) = keyAt key r + 1 := by
        conv => lhs; unfold keyAt
        rw [if_neg hk]
      simp only [e] at h ⊢
      exact keyAt_hit key r (by simpa using h)
theorem keyAt_ahead (key : List UInt8) : ∀ (ks : List (List UInt8)) (j : Nat) (hj : j < ks.length), j < keyAt key ks → ks[j] ≠ key
  | [], j, hj, _ => absurd hj (Nat.not_lt_zero _)
  | k :: r, j, hj, h => by
    by_cases hk : k = key
    · have e : keyAt key (k :: r) = 0 := by unfold keyAt; rw [if_pos hk]
      omega
    · have e : keyAt key (k :: r) = keyAt key r + 1 := by
        conv => lhs; unfold keyAt
        rw [if_neg hk]
      cases j with
      | zero => exact hk
      | succ j => exact keyAt_ahead key r j (by simpa using hj) (by omega)
theorem keyAt_is (key : List UInt8) (ks : List (List UInt8)) (j : Nat) (hj : j < ks.length) (h : ks[j] = key) (hne : ∀ i (hi : i < ks.length), i < j → ks[i] ≠ key) : keyAt key ks = j := by
  rcases Nat.lt_trichotomy (keyAt key ks) j with h' | h' | h'
  · exact absurd (keyAt_hit key ks (by omega)) (hne _ (by omega) h')
  · exact h'
  · exact absurd h (keyAt_ahead key ks j hj h')
theorem keyAt_none (key : List UInt8) (ks : List (List UInt8)) (hne : ∀ i (hi : i < ks.length), ks[i] ≠ key) : keyAt key ks = ks.length := by
  have := keyAt_le key ks
  rcases Nat.lt_or_ge (keyAt key ks) ks.length with h | h
  · exact absurd (keyAt_hit key ks h) (hne _ h)
  · omega
theorem str_inj {a b : List UInt8} (h : (⟨a.toArray⟩ : ByteArray) = ⟨b.toArray⟩) : a = b := by
  injection h with h; simpa using h
theorem idx_key (ks : List (List UInt8)) (key : List UInt8) : Lib.idxOfS ((strsOf ks).take ks.length) ⟨key.toArray⟩ = if keyAt key ks < ks.length then (keyAt key ks : Int) else -1 := by
  by_cases h : keyAt key ks < ks.length
  · rw [if_pos h]
    refine Lib.idxOfS_hit (strsOf ks) ks.length (keyAt key ks) _ h (by rw [strsOf_len]; exact Nat.le_refl _) ?_ fun j hj => ?_
    · rw [strsOf_getD ks _ h, keyAt_hit key ks h]
    · rw [strsOf_getD ks _ (by omega)]
      exact fun e => keyAt_ahead key ks j (by omega) hj (str_inj e)
  · rw [if_neg h]
    refine Lib.idxOfS_miss (strsOf ks) ks.length _ fun j hj => ?_
    rw [strsOf_getD ks _ hj]
    exact fun e => keyAt_ahead key ks j hj (by have := keyAt_le key ks; omega) (str_inj e)
/-- what Field answers -/
def fieldV (key : List UInt8) : V → Option V
  | .mk k _ _ l ks => if k = 6 ∧ keyAt key ks < ks.length then l[keyAt key ks]? else none
theorem index_any (ks : List (List UInt8)) (A : Option Addr) (c L N : Nat) (key : List UInt8) (w : World) (hl : ks.length ≤ 9223372036854775807) (h : ks = [] ∨ ∃ b o, A = some ⟨b, o, none⟩ ∧ KIs w L N ks b o) :
    Calls Tryd.prog 29 #[.slice A ks.length c, .string ⟨key.toArray⟩] w fun e w' => e = .returned (.int .i64 (if keyAt key ks < ks.length then (keyAt key ks : Int) else -1)) ∧ w' = w := by
  rcases h with rfl | ⟨b, o, rfl, h⟩
  · exact (Tryd.slices_Index_string_empty A c ⟨key.toArray⟩ w).mono fun e w' ⟨he, hw⟩ => ⟨he, hw⟩
  · rw [← idx_key]
    refine Tryd.slices_Index_string b o ks.length c (strsOf ks) ⟨key.toArray⟩ w (by rw [strsOf_len]; exact Nat.le_refl _) hl fun j hj => ?_
    rw [strsOf_len] at hj
    rw [strsOf_getD ks j hj]
    exact (h.get j hj).2.2
theorem clone_any (v : V) (w : World) (L N p o : Nat) (cs : List Value) (hs : v.slim 1000000) (h5 : Five w p o cs) (hp : p < N) (hv : VIs w L N v cs) (hN : N ≤ w.heap.size) :
    Calls Tryd.prog 30 #[.pointer (some ⟨p, o, none⟩)] w fun e w' => (∃ ds, e = .returned (.agg ds.toArray) ∧ VIs w' w.heap.size w'.heap.size v ds ∧ Thaw w' w.heap.size ds v.list.length) ∧ Below w.heap.size w w' :=
  clone_at v.size v w L N p o cs (Nat.le_refl _) hs h5 hp hv hN
theorem zero_is (w : World) (L N : Nat) : VIs w L N V.zero [.int .i64 0, .int .i64 0, .string ⟨#[]⟩, .slice none 0 0, .slice none 0 0] := by
  have h := VIs.mk (w := w) (L := L) (N := N) (k := 0) (n := 0) (t := []) (l := []) (ks := []) (A := none) (A' := none) (c := 0) (c' := 0) ⟨by simp, by simp, by simp, by simp⟩ (.inl rfl) (.inl rfl)
  exact h
set_option maxRecDepth 100000 in
set_option maxHeartbeats 2000000 in
theorem field_any (v : V) (key : List UInt8) (w : World) (L N : Nat) (cs : List Value) (hs : v.slim 1000000) (hd : v.depth ≤ 65537) (hv : VIs w L N v cs) (hN : N ≤ w.heap.size) :
    Calls Tryd.prog 14 #[.agg cs.toArray, .string ⟨key.toArray⟩] w fun e w' => (∃ ds, e = .returned (.tuple #[.agg ds.toArray, .bool (fieldV key v).isSome]) ∧ VIs w' w.heap.size w'.heap.size ((fieldV key v).getD V.zero) ds ∧ Thaw w' w.heap.size ds ((fieldV key v).getD V.zero).list.length) ∧ Below w.heap.size w w' := by
  obtain ⟨k, n, t, l, ks⟩ := v
  obtain ⟨sl, sk, si⟩ := slim_mk hs
  obtain ⟨hroom, A, c, A', c', rfl, h1, h2⟩ := hv.out
  have hb0 := ((Below.refl w.heap.size w).alloc (Nat.le_refl _) (.cells #[.int .i64 k, .int .i64 n, .string ⟨t.toArray⟩, .slice A l.length c, .slice A' ks.length c'] 34)).alloc (by simp) (.cells #[.int .i64 0, .int .i64 0, .string ⟨#[]⟩, .slice none 0 0, .slice none 0 0] 34)
  have hs2 : ((w.alloc (.cells #[.int .i64 k, .int .i64 n, .string ⟨t.toArray⟩, .slice A l.length c, .slice A' ks.length c'] 34)).alloc (.cells #[.int .i64 0, .int .i64 0, .string ⟨#[]⟩, .slice none 0 0, .slice none 0 0] 34)).heap.size = w.heap.size + 2 := by simp
  have hix := fun wq (hb : Below w.heap.size w wq) => index_any ks A' c' L N key wq (by omega) (by
    rcases h1 with h | ⟨b, o, e, h⟩
    · exact .inl h
    · exact .inr ⟨b, o, e, h.below (hb.mono hN)⟩)
  obtain ⟨F, hF⟩ : ∃ F, fieldV key (.mk k n t l ks) = F := ⟨_, rfl⟩
  have hF2 : F = if k = 6 ∧ keyAt key ks < ks.length then l[keyAt key ks]? else none := by rw [← hF]; rfl
  rw [hF]
  have hle := keyAt_le key ks
  obtain ⟨nk, hnk⟩ : ∃ nk, ks.length = nk := ⟨_, rfl⟩
  obtain ⟨nl, hnl⟩ : ∃ nl, l.length = nl := ⟨_, rfl⟩
  obtain ⟨ix, hixx⟩ : ∃ ix, keyAt key ks = ix := ⟨_, rfl⟩
  rw [hixx] at hF2 hix hle
  rw [hnk] at hF2 hix hle sk hb0 hs2 ⊢
  rw [hnl] at sl hb0 hs2 ⊢
  have HIX := Lib.hid hix; have HB0 := Lib.hid hb0; have HF := Lib.hid hF2; have H2 := Lib.hid h2; have NL := Lib.hid hnl; have HS2 := Lib.hid hs2; have HSI := Lib.hid si; have HD := Lib.hid hd
  clear hix hb0 hF2 h1 h2 hnl hnk hixx hF hs hv hroom hs2 si hd
  by_cases hk6 : k = 6
  · subst hk6
    by_cases hi : ix < nk
    · have hie : (if ix < nk then (ix : Int) else -1) = ix := if_pos hi
      rw [hie] at HIX
      have t1 : decide ((ix : Int) < 0) = false := by simp
      by_cases hil : ix < nl
      · have t2 : decide ((nl : Int) ≤ (ix : Int)) = false := by simp; omega
        have hjl : ix < l.length := by have := NL.out; omega
        have hFs : F = some l[ix] := HF.out.trans (by rw [if_pos ⟨rfl, hi⟩]; exact List.getElem?_eq_getElem hjl)
        subst hFs
        obtain ⟨q, r, rfl, _, hqN, xs, hx5, hxv⟩ := VIs.item H2.out ix hjl
        have hdx : l[ix].depth ≤ 65537 := by
          have h := HD.out
          rw [depth_mk] at h
          exact (depths_iff l 65537).1 (by omega) ix hjl
        have hsx := HSI.out ix hjl
        generalize l[ix] = x at *
        have hw1 : ∀ wq, Below w.heap.size w wq → Calls Tryd.prog 28 #[.pointer (some ⟨q, r + ix * 5, none⟩), .int .i64 65537] wq fun e w' => e = .returned (.bool true) ∧ Below wq.heap.size wq w' := fun wq hb =>
          (within_any x 65537 wq L N q (r + ix * 5) xs (by decide) (hx5.keep hqN fun z hz => (hb.mono hN).cell hz) hqN (hxv.below (hb.mono hN)) (Nat.le_trans hN hb.size)).mono fun e w' ⟨h1, h2⟩ => ⟨by rw [h1, decide_eq_true hdx], h2⟩
        have hcl := fun wq (hb : Below w.heap.size w wq) => clone_any x wq L N q (r + ix * 5) xs hsx (hx5.keep hqN fun z hz => (hb.mono hN).cell hz) hqN (hxv.below (hb.mono hN)) (Nat.le_trans hN hb.size)
        have HW := Lib.hid hw1; have HC := Lib.hid hcl
        have hform := fun (w1 : World) (La Na : Nat) ds (h : VIs w1 La Na x ds) => h.form
        have FORM := Lib.hid hform
        obtain ⟨W2, hW2⟩ : ∃ W2, W2 = ((w.alloc (.cells #[.int .i64 6, .int .i64 n, .string ⟨t.toArray⟩, .slice (some ⟨q, r, none⟩) nl c, .slice A' nk c'] 34)).alloc (.cells #[.int .i64 0, .int .i64 0, .string ⟨#[]⟩, .slice none 0 0, .slice none 0 0] 34)) := ⟨_, rfl⟩
        have bx : W2.cell? ⟨w.heap.size, 3, none⟩ = some (.slice (some ⟨q, r, none⟩) nl c) := by rw [hW2]; simp
        have rx : W2.heap[w.heap.size + 1]? = some (.cells #[.int .i64 0, .int .i64 0, .string ⟨#[]⟩, .slice none 0 0, .slice none 0 0] 34 (0, 0)) := by
          rw [hW2]
          have := heap_alloc_last (w.alloc (.cells #[.int .i64 6, .int .i64 n, .string ⟨t.toArray⟩, .slice (some ⟨q, r, none⟩) nl c, .slice A' nk c'] 34)) (.cells #[.int .i64 0, .int .i64 0, .string ⟨#[]⟩, .slice none 0 0, .slice none 0 0] 34)
          simpa using this
        have hz2 := HS2.out
        have hb0 := HB0.out
        rw [← hW2] at hz2 hb0
        have BX := Lib.hid bx; have RX := Lib.hid rx; have Z2 := Lib.hid hz2; have B0 := Lib.hid hb0; have HWW := Lib.hid hW2
        have hj0 : (0 : Int) ≤ ix := by omega
        have hj1 : (ix : Int) < nl := by omega
        clear hw1 hcl hform bx rx hz2 hb0 hW2 hx5 hxv hdx hsx HB0 HS2
        go_enter Tryd.func14, Tryd.ntmps14
        go_wp2_with (go_at_call 29; refine (HIX.out _ (by rw [← HWW.out]; exact B0.out)).mono ?_; rintro e1 w1 ⟨rfl, rfl⟩)
        rw [← HWW.out]
        refine (HW.out _ B0.out).mono ?_
        rintro e3 w3 ⟨rfl, hb3⟩
        dsimp only
        have z2 := Z2.out
        have z3 := hb3.size
        have bx3 : w3.cell? ⟨w.heap.size, 3, none⟩ = some (.slice (some ⟨q, r, none⟩) nl c) := (hb3.cell (p := ⟨w.heap.size, 3, none⟩) (by show w.heap.size < _; omega)).trans BX.out
        have hb3' : Below w.heap.size w w3 := B0.out.trans (hb3.mono (by omega))
        have hb33 : Below W2.heap.size W2 w3 := hb3
        clear hb3
        go_wp2_with (go_at_call 30; refine (HC.out _ hb3').mono ?_; rintro e4 w4 ⟨⟨ds, rfl, hv4, ht4⟩, hb4⟩; obtain ⟨u1, u2, u3, u4, rfl⟩ := FORM.out w4 _ _ ds hv4; have hr4 := (hb4.block (w.heap.size + 1) (by omega)).trans ((hb33.block (w.heap.size + 1) (by omega)).trans RX.out); obtain ⟨⟨e0, e1, e2, e3, e4⟩, f0, f1, f2, f3, f4⟩ := box_of hr4)
        have hsz := hb4.size
        have hz3 := z3
        obtain ⟨wf, hwf⟩ : ∃ wf, wf = set5 w4 (w.heap.size + 1) 0 (.int .i64 x.kind) (.int .i64 x.num) (.string ⟨x.text.toArray⟩) (.slice u1 x.list.length u2) (.slice u3 x.keys.length u4) := ⟨_, rfl⟩
        change bodyPost _ _ _ _ _ (set5 w4 (w.heap.size + 1) 0 (.int .i64 x.kind) (.int .i64 x.num) (.string ⟨x.text.toArray⟩) (.slice u1 x.list.length u2) (.slice u3 x.keys.length u4))
        rw [← hwf]
        have hx : wf.heap[w.heap.size + 1]? = some (.cells #[.int .i64 x.kind, .int .i64 x.num, .string ⟨x.text.toArray⟩, .slice u1 x.list.length u2, .slice u3 x.keys.length u4] 34 (0, 0)) := by rw [hwf]; exact set5_here hr4
        have hvf : VIs wf w.heap.size wf.heap.size x [.int .i64 x.kind, .int .i64 x.num, .string ⟨x.text.toArray⟩, .slice u1 x.list.length u2, .slice u3 x.keys.length u4] := by
          have hsf : wf.heap.size = w4.heap.size := by rw [hwf, set5_size]
          rw [hsf]
          refine (hv4.keep2 fun q h1 h2 => ?_).more (by omega) (Nat.le_refl _)
          have hne : q.block ≠ w.heap.size + 1 := by omega
          exact World.cell?_of_block (w := w4) (by rw [hwf]; exact set5_there hne)
        have hbf : Below w.heap.size w wf := by
          rw [hwf]; exact (hb3'.trans (hb4.mono (by omega))).trans (set5_below (by omega))
        obtain ⟨⟨x0, x1, x2, x3, x4⟩, -⟩ := box_of hx
        have htf : Thaw wf w.heap.size [.int .i64 x.kind, .int .i64 x.num, .string ⟨x.text.toArray⟩, .slice u1 x.list.length u2, .slice u3 x.keys.length u4] x.list.length := by
          rcases ht4 with h | ⟨g, c', C, e, hg1, hg2, hg3⟩
          · exact .inl h
          · refine .inr ⟨g, c', C, e, by omega, ?_, hg3⟩
            rw [hwf]; exact (set5_there (by omega)).trans hg2
        have HVF := Lib.hid hvf; have HBF := Lib.hid hbf; have HTF := Lib.hid htf
        clear hvf hbf htf ht4 hwf hx e0 e1 e2 e3 e4 f0 f1 f2 f3 f4 hv4
        refine bodyPost_ret (v := .tuple #[.agg #[.int .i64 x.kind, .int .i64 x.num, .string ⟨x.text.toArray⟩, .slice u1 x.list.length u2, .slice u3 x.keys.length u4], .bool true]) (by simp [results, Tryd.results14, go_sem, x0, x1, x2, x3, x4]) rfl ?_
        exact ⟨⟨[_, _, _, _, _], rfl, HVF.out, HTF.out⟩, HBF.out⟩
      · have t2 : decide ((nl : Int) ≤ (ix : Int)) = true := by simp; omega
        have hFn : F = none := HF.out.trans (by rw [if_pos ⟨rfl, hi⟩]; exact List.getElem?_eq_none (by have := NL.out; omega))
        subst hFn
        go_enter Tryd.func14, Tryd.ntmps14
        go_wp2_with (go_at_call 29; refine (HIX.out _ HB0.out).mono ?_; rintro e1 w1 ⟨rfl, rfl⟩)
        refine bodyPost_ret (v := .tuple #[.agg #[.int .i64 0, .int .i64 0, .string ⟨#[]⟩, .slice none 0 0, .slice none 0 0], .bool false]) (by simp [results, Tryd.results14, go_sem]) rfl ?_
        exact ⟨⟨[_, _, _, _, _], rfl, zero_is _ _ _, .inl rfl⟩, HB0.out⟩
    · have hie : (if ix < nk then (ix : Int) else -1) = -1 := if_neg hi
      rw [hie] at HIX
      have hFn : F = none := HF.out.trans (if_neg (fun h => hi h.2))
      subst hFn
      go_enter Tryd.func14, Tryd.ntmps14
      go_wp2_with (go_at_call 29; refine (HIX.out _ HB0.out).mono ?_; rintro e1 w1 ⟨rfl, rfl⟩)
      refine bodyPost_ret (v := .tuple #[.agg #[.int .i64 0, .int .i64 0, .string ⟨#[]⟩, .slice none 0 0, .slice none 0 0], .bool false]) (by simp [results, Tryd.results14, go_sem]) rfl ?_
      exact ⟨⟨[_, _, _, _, _], rfl, zero_is _ _ _, .inl rfl⟩, HB0.out⟩
  · have hk6' : (k == 6) = false := by simpa using hk6
    have hk7 : (k != 6) = true := by simpa using hk6
    have hFn : F = none := HF.out.trans (if_neg (fun h => hk6 h.1))
    subst hFn
    clear hk6
    obtain ⟨iv, hiv⟩ : ∃ iv : Int, (if ix < nk then (ix : Int) else -1) = iv := ⟨_, rfl⟩
    rw [hiv] at HIX
    go_enter Tryd.func14, Tryd.ntmps14
    go_wp2_with (go_at_call 29; refine (HIX.out _ HB0.out).mono ?_; rintro e1 w1 ⟨rfl, rfl⟩)
    refine bodyPost_ret (v := .tuple #[.agg #[.int .i64 0, .int .i64 0, .string ⟨#[]⟩, .slice none 0 0, .slice none 0 0], .bool false]) (by simp [results, Tryd.results14, go_sem]) rfl ?_
    exact ⟨⟨[_, _, _, _, _], rfl, zero_is _ _ _, .inl rfl⟩, HB0.out⟩
end Go.Proofs.YtjgjajnpbcghmaaDoor
namespace Go.Proofs.YtjgjajnpbcghmaaDoor

/-- the key whose object a value is; of others some key -/
def jwkOf (v : V) : List UInt8 × List UInt8 := (((fieldV wKid v).getD V.zero).text, (dec ((fieldV wK v).getD V.zero).text).getD [])
def jwksOf (v : V) : PL := ((fieldV wKeys v).getD V.zero).list.map jwkOf
/-- Parse -/
def setR (s : List UInt8) : PL × Int := if (parseV s).2 = 0 then (if setT (jwksOf (parseV s).1) = s then (jwksOf (parseV s).1, 0) else ([], 2)) else ([], (parseV s).2)

theorem setR_bad {s : List UInt8} (h : (parseV s).2 ≠ 0) : setR s = ([], (parseV s).2) := if_neg h
theorem setR_set {s : List UInt8} (h : (parseV s).2 = 0) (h2 : setT (jwksOf (parseV s).1) = s) : setR s = (jwksOf (parseV s).1, 0) := by unfold setR; rw [if_pos h, if_pos h2]
theorem setR_not {s : List UInt8} (h : (parseV s).2 = 0) (h2 : setT (jwksOf (parseV s).1) ≠ s) : setR s = ([], 2) := by unfold setR; rw [if_pos h, if_neg h2]
/-- no error, and a set's text; or none, and the text's own error, or that of the form -/
theorem setR_cases (s : List UInt8) : ((setR s).2 = 0 ∧ setT (setR s).1 = s) ∨ ((setR s).2 ≠ 0 ∧ (setR s).1 = [] ∧ ((setR s).2 = (parseV s).2 ∨ ((parseV s).2 = 0 ∧ (setR s).2 = 2))) := by
  by_cases h : (parseV s).2 = 0
  · by_cases h2 : setT (jwksOf (parseV s).1) = s
    · rw [setR_set h h2]; exact .inl ⟨rfl, h2⟩
    · rw [setR_not h h2]; exact .inr ⟨by decide, rfl, .inr ⟨h, rfl⟩⟩
  · rw [setR_bad h]; exact .inr ⟨h, rfl, .inl rfl⟩
theorem fieldV_mk (key : List UInt8) (k n : Int) (t : List UInt8) (l : List V) (ks : List (List UInt8)) : fieldV key (.mk k n t l ks) = if k = 6 ∧ keyAt key ks < ks.length then l[keyAt key ks]? else none := rfl
theorem jwkOf_keyV (p : List UInt8 × List UInt8) : jwkOf (keyV p) = p := by
  have h1 : fieldV wKid (keyV p) = some (textV p.1) := by
    have : keyAt wKid [wKty, wAlg, wKid, wK] = 2 := by decide +kernel
    unfold keyV
    rw [fieldV_mk, this]; simp
  have h2 : fieldV wK (keyV p) = some (textV (enc p.2)) := by
    have : keyAt wK [wKty, wAlg, wKid, wK] = 3 := by decide +kernel
    unfold keyV
    rw [fieldV_mk, this]; simp
  unfold jwkOf
  rw [h1, h2]
  show (p.1, (dec (enc p.2)).getD []) = p
  rw [dec_enc]; rfl
theorem keysOf_setV (l : PL) : jwksOf (setV l) = l := by
  have h1 : fieldV wKeys (setV l) = some (listV l) := by
    have : keyAt wKeys [wKeys] = 0 := by decide +kernel
    unfold setV
    rw [fieldV_mk, this]; simp
  unfold jwksOf
  rw [h1]
  show (l.map keyV).map jwkOf = l
  rw [List.map_map]
  have : jwkOf ∘ keyV = id := funext jwkOf_keyV
  rw [this, List.map_id]
theorem setT_take (l : PL) : setT (l.take 64) = setT l := by unfold setT; rw [List.take_take]; rfl
theorem setR_back (l : PL) (h : (setT l).length ≤ 4096) : setR (setT l) = (l.take 64, 0) := by
  have hp := parse_set l h
  rw [setR_set (by rw [hp]) (by rw [hp]; show setT (jwksOf (setV (l.take 64))) = _; rw [keysOf_setV, setT_take]), hp]
  show (jwksOf (setV (l.take 64)), 0) = _
  rw [keysOf_setV]
theorem setR_large {s : List UInt8} (h : 4096 < s.length) : setR s = ([], 3) := by
  have : parseV s = (V.zero, 3) := by unfold parseV; rw [if_pos h]
  rw [setR_bad (by rw [this]; decide), this]
theorem setR_form {s : List UInt8} (h : parseV s = (V.zero, 2)) : setR s = ([], 2) := by rw [setR_bad (by rw [h]; decide), h]

/-! ## how great what is read may be -/
theorem parseV_good {s : List UInt8} (h : (parseV s).2 = 0) : (parseV s).1.fits 8 = true ∧ (parseV s).1.show = s ∧ s.length ≤ 4096 := by
  unfold parseV at h ⊢
  by_cases hl : 4096 < s.length
  · rw [if_pos hl] at h; cases h
  · rw [if_neg hl] at h ⊢
    cases hr : readV s with
    | none => rw [hr] at h; cases h
    | some v =>
      rw [hr] at h
      simp only at h ⊢
      by_cases hf : v.fits 8 = true
      · rw [if_pos hf]
        exact ⟨hf, (readV_some hr).2, by omega⟩
      · rw [if_neg hf] at h; cases h
theorem fits_split {k n : Int} {t : List UInt8} {l : List V} {ks : List (List UInt8)} {d : Nat} (h : (V.mk k n t l ks).fits d = true) : headB k n t l.length ks = true ∧ ∀ v ∈ l, v.fits d = true := by
  cases d with
  | zero => unfold V.fits at h; cases h
  | succ d =>
    rw [fits_mk] at h
    simp only [Bool.and_eq_true] at h
    exact ⟨h.1, fun v hv => fits_le v (by omega) ((fitsAll_iff l d).1 h.2 v hv)⟩
theorem fieldV_mem {key : List UInt8} {v u : V} (h : fieldV key v = some u) : u ∈ v.list := by
  obtain ⟨k, n, t, l, ks⟩ := v
  rw [fieldV_mk] at h
  by_cases hc : k = 6 ∧ keyAt key ks < ks.length
  · rw [if_pos hc] at h; exact List.mem_of_getElem? h
  · rw [if_neg hc] at h; cases h
/-- a value of a good one is good, and has a shorter text; so is what stands for none -/
theorem field_fits {key : List UInt8} {v u : V} {d : Nat} (hv : v.fits d = true) (h : fieldV key v = some u) : u.fits d = true ∧ u.show.length ≤ v.show.length := by
  have hm := fieldV_mem h
  obtain ⟨k, n, t, l, ks⟩ := v
  obtain ⟨h1, h2⟩ := fits_split hv
  exact ⟨h2 u hm, by have := show_mem h1 u hm; omega⟩
theorem text_le {v : V} {d : Nat} (hv : v.fits d = true) : v.text.length ≤ v.show.length := by
  obtain ⟨k, n, t, l, ks⟩ := v
  obtain ⟨h1, _⟩ := fits_split hv
  have H := head_says h1
  show t.length ≤ _
  by_cases h4 : k = 4
  · subst h4
    have : (V.mk 4 n t l ks).show = quoteJ t := by unfold V.show; simp
    rw [this]
    have : ∀ t : List UInt8, t.length ≤ (quoteT t).length := fun t => by
      induction t with
      | nil => simp
      | cons c t ih =>
        have : 1 ≤ (quoteC c).length := quoteC_pos c
        rw [quoteT, List.length_append, List.length_cons]; omega
    have := this t
    rw [quoteJ, List.length_cons]; omega
  · rw [H.text h4]; simp
theorem fieldD_le {key : List UInt8} {v : V} {d : Nat} (hv : v.fits d = true) : ((fieldV key v).getD V.zero).text.length ≤ v.show.length := by
  cases h : fieldV key v with
  | none => simp [V.zero, V.text]
  | some u =>
    obtain ⟨h1, h2⟩ := field_fits hv h
    have := text_le h1
    simp only [Option.getD_some]; omega
theorem dec_le {t o : List UInt8} (h : dec t = some o) : o.length ≤ t.length := by
  have h1 := (dec_some h).1
  have h2 := enc_len o
  rw [h1] at h2; omega
theorem decD_le (t : List UInt8) : ((dec t).getD []).length ≤ t.length := by
  cases h : dec t with
  | none => simp
  | some o => exact dec_le h
theorem jwkOf_le {v : V} {d : Nat} (hv : v.fits d = true) : (jwkOf v).1.length ≤ v.show.length ∧ (jwkOf v).2.length ≤ v.show.length :=
  ⟨fieldD_le hv, Nat.le_trans (decD_le _) (fieldD_le hv)⟩
/-- the items of the field of a good value -/
theorem listD_fits {key : List UInt8} {v : V} {d : Nat} (hv : v.fits d = true) : ((fieldV key v).getD V.zero).list.length ≤ 64 ∧ ∀ u ∈ ((fieldV key v).getD V.zero).list, u.fits d = true ∧ u.show.length ≤ v.show.length := by
  cases h : fieldV key v with
  | none => simp [V.zero, V.list]
  | some x =>
    obtain ⟨h1, h2⟩ := field_fits hv h
    simp only [Option.getD_some]
    obtain ⟨k, n, t, l, ks⟩ := x
    obtain ⟨h3, h4⟩ := fits_split h1
    exact ⟨(head_says h3).most, fun u hu => ⟨h4 u hu, by have := show_mem h3 u hu; omega⟩⟩
theorem keysOf_len {v : V} {d : Nat} (hv : v.fits d = true) : (jwksOf v).length ≤ 64 := by unfold jwksOf; rw [List.length_map]; exact (listD_fits hv).1
theorem keysOf_le {v : V} {d : Nat} (hv : v.fits d = true) : ∀ p ∈ jwksOf v, p.1.length ≤ v.show.length ∧ p.2.length ≤ v.show.length := by
  intro p hp
  obtain ⟨u, hu, rfl⟩ := List.mem_map.1 hp
  obtain ⟨h1, h2⟩ := (listD_fits hv).2 u hu
  obtain ⟨h3, h4⟩ := jwkOf_le h1
  omega
mutual
theorem fits_slim : ∀ (d : Nat) (v : V), v.fits d = true → v.slim 1000000
  | d, .mk k n t l ks, h => by
    obtain ⟨h1, h2⟩ := fits_split h
    have H := head_says h1
    have hk : ks.length ≤ 64 := by
      by_cases h6 : k = 6
      · rw [H.keys h6]; exact H.most
      · rw [H.none h6]; simp
    unfold V.slim
    refine ⟨by have := H.most; omega, by omega, fitsAll_slim d l h2⟩
theorem fitsAll_slim : ∀ (d : Nat) (l : List V), (∀ v ∈ l, v.fits d = true) → V.slims 1000000 l
  | d, [], _ => by unfold V.slims; trivial
  | d, v :: l, h => by unfold V.slims; exact ⟨fits_slim d v (h v (by simp)), fitsAll_slim d l fun u hu => h u (by simp [hu])⟩
end
theorem fits_depth {v : V} {d : Nat} (h : v.fits d = true) : v.depth ≤ d := by
  rw [fits_good] at h; simp at h; exact h.1
theorem zero_slim : V.zero.slim 1000000 := by simp [V.zero, V.slim, V.slims]
theorem zero_depth : V.zero.depth ≤ 1 := by simp [V.zero, V.depth, V.depths]
end Go.Proofs.YtjgjajnpbcghmaaDoor
namespace Go.Proofs.YtjgjajnpbcghmaaDoor
open Go.RowKit

theorem sixty_any (n : Int) (h0 : 0 ≤ n) (h1 : n < 64) (w : World) :
    Calls Tryd.prog 32 #[.int .i64 n] w fun e w' => e = .returned (.int .u8 ((ltr n.toNat).toNat : Int)) ∧ w = w' := by
  go_enter Tryd.func32, Tryd.ntmps32
  go_wp2
  go_ret
  have h : n.toNat < (ByteArray.mk ltrs).size := by show n.toNat < 64; omega
  exact ⟨ret_int (congrArg (fun (x : UInt8) => (x.toNat : Int)) (ltr_at h)), rfl⟩

set_option maxRecDepth 100000 in
theorem hex_any (c : UInt8) (w : World) :
    Calls Tryd.prog 51 #[.int .u8 c.toNat] w fun e w' => e = .returned (.int .i64 (hexI c)) ∧ w = w' := by
  have hc : (c.toNat : Int) < 256 := by have := c.toNat_lt; omega
  go_enter Tryd.func51, Tryd.ntmps51
  go_wp2
  all_goals
    go_ret
    exact ⟨ret_int (by have := hexI_spec c; omega), rfl⟩

theorem hex_quiet (c : UInt8) (w : World) :
    Calls Tryd.prog 51 #[.int .u8 c.toNat] w fun e w' => e = .returned (.int .i64 (hexI c)) ∧ w' = w := (hex_any c w).mono fun _ _ h => ⟨h.1, h.2.symm⟩
theorem sixty_quiet (n : Int) (h0 : 0 ≤ n) (h1 : n < 64) (w : World) :
    Calls Tryd.prog 32 #[.int .i64 n] w fun e w' => e = .returned (.int .u8 ((ltr n.toNat).toNat : Int)) ∧ w' = w := (sixty_any n h0 h1 w).mono fun _ _ h => ⟨h.1, h.2.symm⟩

/-! ## strings.IndexByte -/
set_option maxRecDepth 100000 in
theorem stringslite_any (s : ByteArray) (c : Int) (w : World) :
    Calls Tryd.prog 61 #[.string s, .int .u8 c] w fun e w' => e = .returned (.int .i64 (Lib.indexByte s.data.toList c.toNat.toUInt8)) ∧ w = w' := by
  go_enter Tryd.func61, Tryd.ntmps61
  go_wp2
  rw [run_callFunc_extern Tryd.func70 (by kernel_rfl) (by kernel_rfl) (by kernel_rfl) (e := Extern.BytealgIndexByte.indexByte) (by kernel_rfl), Lib.run_indexByteString]
  simp only [Result.andThen]
  rw [Oper.upon_value]
  go_wp2
  go_ret
  exact ⟨rfl, rfl⟩
theorem indexByte_any (s : ByteArray) (c : Int) (w : World) :
    Calls Tryd.prog 50 #[.string s, .int .u8 c] w fun e w' => e = .returned (.int .i64 (Lib.indexByte s.data.toList c.toNat.toUInt8)) ∧ w = w' := by
  go_enter Tryd.func50, Tryd.ntmps50
  go_wp2_with (go_at_call 61; refine (stringslite_any _ _ _).mono ?_; rintro e w' ⟨rfl, rfl⟩)
  go_ret
  exact ⟨rfl, rfl⟩
end Go.Proofs.YtjgjajnpbcghmaaDoor
namespace Go.Proofs.YtjgjajnpbcghmaaDoor
open Go.RowKit

theorem push8_lt (H : Nat) (b : UInt8) : push8 H b < 4294967296 := by have := b.toNat_lt; unfold push8; omega
theorem or_push8 (H : Nat) (b : UInt8) : bits .or .u32 ((H : Int) * 256 % 4294967296) ((b.toNat : Int) % 4294967296) = (push8 H b : Int) := by
  have := b.toNat_lt
  rw [show (b.toNat : Int) % 4294967296 = b.toNat by omega]
  rw [bits_join .u32 32 (by decide) (fun n h0 h1 => by rw [IntKind.wrap_u32]; omega) 8 _ _ (by omega) (by omega) (by omega) (by omega) (by omega) (by omega)]
  unfold push8; omega
theorem and63 (x : Int) (h0 : 0 ≤ x) (h1 : x < 4294967296) : bits .and .u32 x 63 = x % 64 :=
  bits_mask .u32 32 (by decide) (fun n h0 h1 => by rw [IntKind.wrap_u32]; omega) 6 (by decide) x h0 h1

theorem cells_ltr (l : List UInt8) (n m : Nat) (hn : n = m) (h : n < (ByteArray.mk ltrs).size) : cells l ++ [Value.int .u8 ((ByteArray.mk ltrs)[n].toNat : Int)] = cells (l ++ [ltr m]) := by
  subst hn
  rw [ltr_at h, cells_app]; rfl

def EncAt (l : List UInt8) (k : Nat) (H bits : Nat) (acc : List UInt8) : Prop := enc l = acc ++ encS H bits (l.drop k)

theorem encAt_0 {l acc : List UInt8} {k H : Nat} (h : EncAt l k H 0 acc) (hk : k < l.length) : EncAt l (k + 1) (push8 H l[k]) 2 (acc ++ [ltr (push8 H l[k] / 4 % 64)]) := by
  unfold EncAt at h ⊢; rw [h, List.drop_eq_getElem_cons hk, encS_0]; simp
theorem encAt_2 {l acc : List UInt8} {k H : Nat} (h : EncAt l k H 2 acc) (hk : k < l.length) : EncAt l (k + 1) (push8 H l[k]) 4 (acc ++ [ltr (push8 H l[k] / 16 % 64)]) := by
  unfold EncAt at h ⊢; rw [h, List.drop_eq_getElem_cons hk, encS_2]; simp
theorem encAt_4 {l acc : List UInt8} {k H : Nat} (h : EncAt l k H 4 acc) (hk : k < l.length) : EncAt l (k + 1) (push8 H l[k]) 0 (acc ++ [ltr (push8 H l[k] / 64 % 64)] ++ [ltr (push8 H l[k] % 64)]) := by
  unfold EncAt at h ⊢; rw [h, List.drop_eq_getElem_cons hk, encS_4]; simp
theorem encAt_end0 {l acc : List UInt8} {H : Nat} (h : EncAt l l.length H 0 acc) : acc = enc l := by
  unfold EncAt at h; rw [h, List.drop_length]; simp [encS]
theorem encAt_end2 {l acc : List UInt8} {H : Nat} (h : EncAt l l.length H 2 acc) : acc ++ [ltr (H * 16 % 64)] = enc l := by
  unfold EncAt at h; rw [h, List.drop_length, encS_end2, show H * 16 % 4294967296 % 64 = H * 16 % 64 by omega]
theorem encAt_end4 {l acc : List UInt8} {H : Nat} (h : EncAt l l.length H 4 acc) : acc ++ [ltr (H * 4 % 64)] = enc l := by
  unfold EncAt at h; rw [h, List.drop_length, encS_end4, show H * 4 % 4294967296 % 64 = H * 4 % 64 by omega]

set_option maxHeartbeats 1000000 in
set_option maxRecDepth 100000 in
theorem encode_any (s : ByteArray) (hs : s.size ≤ 46912496117759) (w : World) :
    Calls Tryd.prog 22 #[.string s] w fun e w' => e = .returned (.string ⟨(enc s.data.toList).toArray⟩) ∧ Below w.heap.size w w' := by
  obtain ⟨i0, hi, hz0, hz1, hz2⟩ := info_parts Tryd.infoByte
  go_enter Tryd.func22, Tryd.ntmps22
  go_wp2_with (at_make; refine wpList_make_own _ rfl _ _ 39 rfl w.heap.size 5 i0 _ 1 Tryd.underlying39 hi hz0 hz1 _ _ _ (s.size / 3 * 4 + 3) rfl rfl (by omega) (by rw [hz2]; omega) (by unfold maxLen; omega) (Nat.le_refl _) ?_)
  intro w0 hown0 hg0
  have hb0 : Below w.heap.size w w0 := (Below.refl _ _).grown hg0 (Nat.le_refl _) (by simp)
  go_wp2
  go_loopw [3, 4, 5, 15] (fun v h b i wr => ∃ (k H bits : Nat) (acc : List UInt8), k ≤ s.size ∧ i = .int .i64 k ∧ h = .int .u32 H ∧ H < 4294967296 ∧ b = .int .i64 bits ∧ (bits = 0 ∨ bits = 2 ∨ bits = 4) ∧ Buf wr w.heap.size v acc ∧ acc.length ≤ 2 * k ∧ EncAt s.data.toList k H bits acc ∧ Below w.heap.size w wr) (fun _ _ _ i _ => s.size - (intOf i).toNat)
  case atStart => exact ⟨0, 0, 0, [], Nat.zero_le _, rfl, rfl, by decide, rfl, .inl rfl, hown0, Nat.zero_le _, (encS_enc _ 0).symm, hb0⟩
  case round =>
    obtain ⟨k, H, bts, acc, hk, rfl, rfl, hH, rfl, h024, hown, hal, hat, hb⟩ := hrel
    have HA := Lib.hid hat; clear hat
    have hbs := hb.size
    by_cases hlt : k < s.size
    · have hp := push8_lt H s[k]
      have ho := or_push8 H s[k]
      have p4 := and63 ((push8 H s[k] : Int) / 4) (by omega) (by omega)
      have p16 := and63 ((push8 H s[k] : Int) / 16) (by omega) (by omega)
      have p64 := and63 ((push8 H s[k] : Int) / 64) (by omega) (by omega)
      have p1 := and63 ((push8 H s[k] : Int)) (by omega) (by omega)
      rcases h024 with rfl | rfl | rfl
      · clear p16 p64 p1
        go_wp2
        refine wp_loop_rounds 2 ?_
        rw [rounds_succ]
        go_wp2_with (at_builtin; refine wpList_append_own _ rfl (.tmp 31) (.tmp 37) 39 rfl w.heap.size 5 i0 _ 1 1 Tryd.underlying39 hi hz0 hz1 hz2 rfl (by decide) _ _ _ rfl (World.ownsRow.alloc hown _) ⟨_, 0, none⟩ 1 1 [.int .u8 _] rfl rfl (new_cells _ #[_] _) (one_cell _) (by unfold maxLen; omega) (by omega) (by simp; omega) ?_)
        intro v' w1 hown' hg' _
        have hb1 : Below w.heap.size w w1 := (hb.alloc hbs _).grown hg' (by simp; omega) (fun j hj => (hown.lt j hj).1)
        go_wp2
        rw [rounds_succ]
        go_wp2
        go_roundw
        case rel => exact ⟨k + 1, push8 H s[k], 2, acc ++ [ltr (push8 H s[k] / 4 % 64)], by omega, by go_num, rfl, hp, rfl, .inr (.inl rfl), Buf.cut hown' (by simp) (cells_ltr _ _ _ (by omega) _), by simp; omega, encAt_0 HA.out hlt, hb1⟩
        case measure => simp [intOf]; omega
      · clear p4 p64 p1
        go_wp2
        refine wp_loop_rounds 2 ?_
        rw [rounds_succ]
        go_wp2_with (at_builtin; refine wpList_append_own _ rfl (.tmp 31) (.tmp 37) 39 rfl w.heap.size 5 i0 _ 1 1 Tryd.underlying39 hi hz0 hz1 hz2 rfl (by decide) _ _ _ rfl (World.ownsRow.alloc hown _) ⟨_, 0, none⟩ 1 1 [.int .u8 _] rfl rfl (new_cells _ #[_] _) (one_cell _) (by unfold maxLen; omega) (by omega) (by simp; omega) ?_)
        intro v' w1 hown' hg' _
        have hb1 : Below w.heap.size w w1 := (hb.alloc hbs _).grown hg' (by simp; omega) (fun j hj => (hown.lt j hj).1)
        go_wp2
        rw [rounds_succ]
        go_wp2
        go_roundw
        case rel => exact ⟨k + 1, push8 H s[k], 4, acc ++ [ltr (push8 H s[k] / 16 % 64)], by omega, by go_num, rfl, hp, rfl, .inr (.inr rfl), Buf.cut hown' (by simp) (cells_ltr _ _ _ (by omega) _), by simp; omega, encAt_2 HA.out hlt, hb1⟩
        case measure => simp [intOf]; omega
      · clear p4 p16
        go_wp2
        refine wp_loop_rounds 3 ?_
        rw [rounds_succ]
        go_wp2_with (at_builtin; refine wpList_append_own _ rfl (.tmp 31) (.tmp 37) 39 rfl w.heap.size 5 i0 _ 1 1 Tryd.underlying39 hi hz0 hz1 hz2 rfl (by decide) _ _ _ rfl (World.ownsRow.alloc hown _) ⟨_, 0, none⟩ 1 1 [.int .u8 _] rfl rfl (new_cells _ #[_] _) (one_cell _) (by unfold maxLen; omega) (by omega) (by simp; omega) ?_)
        intro v' w1 hown' hg' _
        have hb1 : Below w.heap.size w w1 := (hb.alloc hbs _).grown hg' (by simp; omega) (fun j hj => (hown.lt j hj).1)
        have hown1 : Buf w1 w.heap.size v' (acc ++ [ltr (push8 H s[k] / 64 % 64)]) := Buf.cut hown' (by simp) (cells_ltr _ _ _ (by omega) _)
        have hbs1 := hb1.size
        have hl1 : (acc ++ [ltr (push8 H s[k] / 64 % 64)]).length ≤ 2 * k + 1 := by simp; omega
        clear hown' hg'
        go_wp2
        rw [rounds_succ]
        go_wp2_with (at_builtin; refine wpList_append_own _ rfl (.tmp 31) (.tmp 37) 39 rfl w.heap.size 5 i0 _ 1 1 Tryd.underlying39 hi hz0 hz1 hz2 rfl (by decide) _ _ _ rfl (World.ownsRow.alloc hown1 _) ⟨_, 0, none⟩ 1 1 [.int .u8 _] rfl rfl (new_cells _ #[_] _) (one_cell _) (by unfold maxLen; omega) (by omega) (by simp; omega) ?_)
        intro v2 w2 hown' hg' _
        have hb2 : Below w.heap.size w w2 := (hb1.alloc hbs1 _).grown hg' (by simp; omega) (fun j hj => (hown1.lt j hj).1)
        go_wp2
        rw [rounds_succ]
        go_wp2
        go_roundw
        case rel => exact ⟨k + 1, push8 H s[k], 0, acc ++ [ltr (push8 H s[k] / 64 % 64)] ++ [ltr (push8 H s[k] % 64)], by omega, by go_num, rfl, hp, rfl, .inl rfl, Buf.cut hown' (by simp) (cells_ltr _ _ _ (by omega) _), by simp; omega, encAt_4 HA.out hlt, hb2⟩
        case measure => simp [intOf]; omega
    · have hke : k = s.size := by omega
      subst hke
      rcases h024 with rfl | rfl | rfl
      · have hcv := hown.text
        go_wp2
        go_ret
        exact ⟨ret_str (encAt_end0 HA.out), hb⟩
      · have q16 := and63 ((H : Int) * 16 % 4294967296) (by omega) (by omega)
        go_wp2_with (at_builtin; refine wpList_append_own _ rfl (.tmp 42) (.tmp 49) 39 rfl w.heap.size 5 i0 _ 1 1 Tryd.underlying39 hi hz0 hz1 hz2 rfl (by decide) _ _ _ rfl (World.ownsRow.alloc hown _) ⟨_, 0, none⟩ 1 1 [.int .u8 _] rfl rfl (new_cells _ #[_] _) (one_cell _) (by unfold maxLen; omega) (by omega) (by simp; omega) ?_)
        intro v' w1 hown' hg' _
        have hb1 : Below w.heap.size w w1 := (hb.alloc hbs _).grown hg' (by simp; omega) (fun j hj => (hown.lt j hj).1)
        have hcv := (Buf.cut (l := acc ++ [ltr (H * 16 % 64)]) hown' (by simp) (cells_ltr _ _ _ (by omega) _)).text
        go_wp2
        go_ret
        exact ⟨ret_str (encAt_end2 HA.out), hb1⟩
      · have q4 := and63 ((H : Int) * 4 % 4294967296) (by omega) (by omega)
        go_wp2_with (at_builtin; refine wpList_append_own _ rfl (.tmp 42) (.tmp 49) 39 rfl w.heap.size 5 i0 _ 1 1 Tryd.underlying39 hi hz0 hz1 hz2 rfl (by decide) _ _ _ rfl (World.ownsRow.alloc hown _) ⟨_, 0, none⟩ 1 1 [.int .u8 _] rfl rfl (new_cells _ #[_] _) (one_cell _) (by unfold maxLen; omega) (by omega) (by simp; omega) ?_)
        intro v' w1 hown' hg' _
        have hb1 : Below w.heap.size w w1 := (hb.alloc hbs _).grown hg' (by simp; omega) (fun j hj => (hown.lt j hj).1)
        have hcv := (Buf.cut (l := acc ++ [ltr (H * 4 % 64)]) hown' (by simp) (cells_ltr _ _ _ (by omega) _)).text
        go_wp2
        go_ret
        exact ⟨ret_str (encAt_end4 HA.out), hb1⟩
end Go.Proofs.YtjgjajnpbcghmaaDoor
namespace Go.Proofs.YtjgjajnpbcghmaaDoor
open Go.RowKit

theorem ix_any (c : UInt8) (w : World) :
    Calls Tryd.prog 50 #[.string ⟨#[65, 66, 67, 68, 69, 70, 71, 72, 73, 74, 75, 76, 77, 78, 79, 80, 81, 82, 83, 84, 85, 86, 87, 88, 89, 90, 97, 98, 99, 100, 101, 102, 103, 104, 105, 106, 107, 108, 109, 110, 111, 112, 113, 114, 115, 116, 117, 118, 119, 120, 121, 122, 48, 49, 50, 51, 52, 53, 54, 55, 56, 57, 45, 95]⟩, .int .u8 c.toNat] w fun e w' => e = .returned (.int .i64 (ix c)) ∧ w = w' := by
  refine (indexByte_any _ _ w).mono fun e w' ⟨he, hw⟩ => ⟨?_, hw⟩
  rw [he]
  refine ret_int ?_
  have : (c.toNat : Int).toNat.toUInt8 = c := by simp
  rw [this]; rfl

theorem push6_lt (H : Nat) (d : Nat) (hd : d < 64) : push6 H d < 4294967296 := by unfold push6; omega
theorem or_push6 (H : Nat) (d : Int) (h0 : 0 ≤ d) (h1 : d < 64) : bits .or .u32 ((H : Int) * 64 % 4294967296) d = (push6 H d.toNat : Int) := by
  rw [bits_join .u32 32 (by decide) (fun n h0 h1 => by rw [IntKind.wrap_u32]; omega) 6 _ _ (by omega) (by omega) (by omega) (by omega) (by omega) (by omega)]
  unfold push6; omega
def DecAt (l : List UInt8) (k : Nat) (H bits : Nat) (acc : List UInt8) : Prop := dec l = (decS H bits (l.drop k)).map (acc ++ ·)
theorem decAt_start (l : List UInt8) : DecAt l 0 0 0 [] := by unfold DecAt; rw [List.drop_zero, decS_dec]; simp
theorem decAt_bad {l acc : List UInt8} {k H bits : Nat} (h : DecAt l k H bits acc) (hk : k < l.length) (hc : ix l[k] < 0) : dec l = none := by
  unfold DecAt at h; rw [h, List.drop_eq_getElem_cons hk, decS, if_pos hc]; rfl
theorem decAt_0 {l acc : List UInt8} {k H : Nat} (h : DecAt l k H 0 acc) (hk : k < l.length) (hc : 0 ≤ ix l[k]) : DecAt l (k + 1) (push6 H (ix l[k]).toNat) 6 acc := by
  unfold DecAt at h ⊢; rw [h, List.drop_eq_getElem_cons hk, decS, if_neg (by omega), if_pos (by decide)]
theorem decAt_s {l acc : List UInt8} {k H bits : Nat} (h : DecAt l k H bits acc) (hb : 2 ≤ bits) (hk : k < l.length) (hc : 0 ≤ ix l[k]) :
    DecAt l (k + 1) (push6 H (ix l[k]).toNat) (bits - 2) (acc ++ [UInt8.ofNat (push6 H (ix l[k]).toNat / 2 ^ (bits - 2))]) := by
  unfold DecAt at h ⊢; rw [h, List.drop_eq_getElem_cons hk, decS, if_neg (by omega), if_neg (by omega), Option.map_map]; congr 1; funext x; simp
theorem decAt_end {l acc : List UInt8} {H bits : Nat} (h : DecAt l l.length H bits acc) (hb : bits < 6) (hm : H % 2 ^ bits = 0) : dec l = some acc := by
  unfold DecAt at h; rw [h, List.drop_length, decS, if_pos ⟨hb, hm⟩]; simp
theorem decAt_not {l acc : List UInt8} {H bits : Nat} (h : DecAt l l.length H bits acc) (hb : bits = 6 ∨ H % 2 ^ bits ≠ 0) : dec l = none := by
  unfold DecAt at h; rw [h, List.drop_length, decS, if_neg (by omega)]; rfl

/-- what Decode answers -/
def DecSays (l : List UInt8) (e : Ending) : Prop :=
  (∃ o, dec l = some o ∧ e = .returned (.tuple #[.string ⟨o.toArray⟩, .int .i64 0])) ∨ (dec l = none ∧ e = .returned (.tuple #[.string ⟨#[]⟩, .int .i64 2]))

set_option maxHeartbeats 1000000 in
set_option maxRecDepth 100000 in
theorem decode_says (s : ByteArray) (hs : s.size ≤ 46912496117759) (w : World) :
    Calls Tryd.prog 31 #[.string s] w fun e w' => DecSays s.data.toList e ∧ Below w.heap.size w w' := by
  obtain ⟨i0, hi, hz0, hz1, hz2⟩ := info_parts Tryd.infoByte
  go_enter Tryd.func31, Tryd.ntmps31
  go_wp2_with (at_make; refine wpList_make_own _ rfl _ _ 39 rfl w.heap.size 5 i0 _ 1 Tryd.underlying39 hi hz0 hz1 _ _ _ (s.size / 4 * 3 + 3) rfl rfl (by omega) (by rw [hz2]; omega) (by unfold maxLen; omega) (Nat.le_refl _) ?_)
  intro w0 hown0 hg0
  have hb0 : Below w.heap.size w w0 := (Below.refl _ _).grown hg0 (Nat.le_refl _) (by simp)
  go_wp2
  go_loopw [4, 5, 6, 17] (fun v h b i wr => ∃ (k H bits : Nat) (acc : List UInt8), k ≤ s.size ∧ i = .int .i64 k ∧ h = .int .u32 H ∧ H < 4294967296 ∧ b = .int .i64 bits ∧ (bits = 0 ∨ bits = 6 ∨ bits = 4 ∨ bits = 2) ∧ Buf wr w.heap.size v acc ∧ acc.length ≤ k ∧ DecAt s.data.toList k H bits acc ∧ Below w.heap.size w wr) (fun _ _ _ i _ => s.size - (intOf i).toNat)
  case atStart => exact ⟨0, 0, 0, [], Nat.zero_le _, rfl, rfl, by decide, rfl, .inl rfl, hown0, Nat.zero_le _, decAt_start _, hb0⟩
  case round =>
    obtain ⟨k, H, bts, acc, hk, rfl, rfl, hH, rfl, h0642, hown, hal, hat, hb⟩ := hrel
    have HA := Lib.hid hat; clear hat
    have hbs := hb.size
    by_cases hlt : k < s.size
    · by_cases hc : ix s[k] < 0
      · have HC := Lib.hid hc
        have HO := Lib.hid h0642; clear h0642
        go_wp2_with (go_at_call 50; refine (ix_any _ _).mono ?_; rintro e w' ⟨rfl, rfl⟩)
        go_ret2
        exact ⟨Or.inr ⟨decAt_bad HA.out hlt HC.out, rfl⟩, hb⟩
      · have hc : 0 ≤ ix s[k] := by omega
        have hix : ix s[k] < 64 := by rcases ix_cases s[k] with h | h <;> omega
        have HC := Lib.hid hc
        have hp := push6_lt H (ix s[k]).toNat (by omega)
        have ho := or_push6 H (ix s[k]) (by omega) hix
        rcases h0642 with rfl | rfl | rfl | rfl
        · go_wp2_with (go_at_call 50; refine (ix_any _ _).mono ?_; rintro e w' ⟨rfl, rfl⟩)
          go_roundw
          case rel => exact ⟨k + 1, push6 H (ix s[k]).toNat, 6, acc, by omega, by go_num, rfl, hp, rfl, .inr (.inl rfl), hown, by omega, decAt_0 HA.out hlt HC.out, hb⟩
          case measure => simp [intOf]; omega
        · go_wp2_with (first
            | (go_at_call 50; refine (ix_any _ _).mono ?_; rintro e w' ⟨rfl, rfl⟩)
            | (at_builtin; refine wpList_append_own _ rfl (.tmp 37) (.tmp 42) 39 rfl w.heap.size 5 i0 _ 1 1 Tryd.underlying39 hi hz0 hz1 hz2 rfl (by decide) _ _ _ rfl (World.ownsRow.alloc hown _) ⟨_, 0, none⟩ 1 1 [.int .u8 _] rfl rfl (new_cells _ #[_] _) (one_cell _) (by unfold maxLen; omega) (by omega) (by simp; omega) ?_))
          intro v' w1 hown' hg' _
          have hb1 : Below w.heap.size w w1 := (hb.alloc hbs _).grown hg' (by simp; omega) (fun j hj => (hown.lt j hj).1)
          go_wp2
          go_roundw
          case rel => exact ⟨k + 1, push6 H (ix s[k]).toNat, 4, acc ++ [UInt8.ofNat (push6 H (ix s[k]).toNat / 16)], by omega, by go_num, rfl, hp, rfl, .inr (.inr (.inl rfl)), Buf.cut hown' (by simp) (cells_byte _ (push6 H (ix s[k]).toNat / 16) _ _ (by omega) rfl), by simp; omega, decAt_s HA.out (by decide) hlt HC.out, hb1⟩
          case measure => simp [intOf]; omega
        · go_wp2_with (first
            | (go_at_call 50; refine (ix_any _ _).mono ?_; rintro e w' ⟨rfl, rfl⟩)
            | (at_builtin; refine wpList_append_own _ rfl (.tmp 37) (.tmp 42) 39 rfl w.heap.size 5 i0 _ 1 1 Tryd.underlying39 hi hz0 hz1 hz2 rfl (by decide) _ _ _ rfl (World.ownsRow.alloc hown _) ⟨_, 0, none⟩ 1 1 [.int .u8 _] rfl rfl (new_cells _ #[_] _) (one_cell _) (by unfold maxLen; omega) (by omega) (by simp; omega) ?_))
          intro v' w1 hown' hg' _
          have hb1 : Below w.heap.size w w1 := (hb.alloc hbs _).grown hg' (by simp; omega) (fun j hj => (hown.lt j hj).1)
          go_wp2
          go_roundw
          case rel => exact ⟨k + 1, push6 H (ix s[k]).toNat, 2, acc ++ [UInt8.ofNat (push6 H (ix s[k]).toNat / 4)], by omega, by go_num, rfl, hp, rfl, .inr (.inr (.inr rfl)), Buf.cut hown' (by simp) (cells_byte _ (push6 H (ix s[k]).toNat / 4) _ _ (by omega) rfl), by simp; omega, decAt_s HA.out (by decide) hlt HC.out, hb1⟩
          case measure => simp [intOf]; omega
        · go_wp2_with (first
            | (go_at_call 50; refine (ix_any _ _).mono ?_; rintro e w' ⟨rfl, rfl⟩)
            | (at_builtin; refine wpList_append_own _ rfl (.tmp 37) (.tmp 42) 39 rfl w.heap.size 5 i0 _ 1 1 Tryd.underlying39 hi hz0 hz1 hz2 rfl (by decide) _ _ _ rfl (World.ownsRow.alloc hown _) ⟨_, 0, none⟩ 1 1 [.int .u8 _] rfl rfl (new_cells _ #[_] _) (one_cell _) (by unfold maxLen; omega) (by omega) (by simp; omega) ?_))
          intro v' w1 hown' hg' _
          have hb1 : Below w.heap.size w w1 := (hb.alloc hbs _).grown hg' (by simp; omega) (fun j hj => (hown.lt j hj).1)
          go_wp2
          go_roundw
          case rel => exact ⟨k + 1, push6 H (ix s[k]).toNat, 0, acc ++ [UInt8.ofNat (push6 H (ix s[k]).toNat / 1)], by omega, by go_num, rfl, hp, rfl, .inl rfl, Buf.cut hown' (by simp) (cells_byte _ (push6 H (ix s[k]).toNat / 1) _ _ (by omega) rfl), by simp; omega, decAt_s HA.out (by decide) hlt HC.out, hb1⟩
          case measure => simp [intOf]; omega
    · have hke : k = s.size := by omega
      subst hke
      have hcv := hown.text
      rcases h0642 with rfl | rfl | rfl | rfl
      · have hq : bits .and .u32 (H : Int) 0 = 0 := by have := and_mask H (by omega) (by omega) 0 (by decide); simpa using this
        go_wp2
        go_ret2
        exact ⟨Or.inl ⟨acc, decAt_end HA.out (by decide) (by omega), rfl⟩, hb⟩
      · go_wp2
        go_ret2
        exact ⟨Or.inr ⟨decAt_not HA.out (.inl rfl), rfl⟩, hb⟩
      · have hq : bits .and .u32 (H : Int) 15 = (H : Int) % 16 := and_mask H (by omega) (by omega) 4 (by decide)
        by_cases hm : H % 16 = 0
        · have ht : ((H : Int) % 16 != 0) = false := by simp; omega
          have HM := Lib.hid hm; clear hm
          go_wp2
          go_ret2
          exact ⟨Or.inl ⟨acc, decAt_end HA.out (by decide) HM.out, rfl⟩, hb⟩
        · have ht : ((H : Int) % 16 != 0) = true := by simp; omega
          have HM := Lib.hid hm; clear hm
          go_wp2
          go_ret2
          exact ⟨Or.inr ⟨decAt_not HA.out (.inr HM.out), rfl⟩, hb⟩
      · have hq : bits .and .u32 (H : Int) 3 = (H : Int) % 4 := and_mask H (by omega) (by omega) 2 (by decide)
        by_cases hm : H % 4 = 0
        · have ht : ((H : Int) % 4 != 0) = false := by simp; omega
          have HM := Lib.hid hm; clear hm
          go_wp2
          go_ret2
          exact ⟨Or.inl ⟨acc, decAt_end HA.out (by decide) HM.out, rfl⟩, hb⟩
        · have ht : ((H : Int) % 4 != 0) = true := by simp; omega
          have HM := Lib.hid hm; clear hm
          go_wp2
          go_ret2
          exact ⟨Or.inr ⟨decAt_not HA.out (.inr HM.out), rfl⟩, hb⟩
end Go.Proofs.YtjgjajnpbcghmaaDoor
