/- JSON: the code's same, Same. -/
import Derived.Test.YtoijjcbcmjdggaaDoorJsonField
import Derived.Test.YtoijjcbcmjdggaaDoorJsonRSame
namespace Go.Proofs.YtoijjcbcmjdggaaDoor
open Go.RowKit

theorem strsOf_inj : ∀ {a b : List (List UInt8)}, strsOf a = strsOf b → a = b
  | [], [], _ => rfl
  | [], _ :: _, h => by simp [strsOf] at h
  | _ :: _, [], h => by simp [strsOf] at h
  | x :: a, y :: b, h => by
    simp only [strsOf, List.map_cons, List.cons.injEq] at h
    rw [str_inj h.1, strsOf_inj h.2]
theorem keysEq_any (ks ks' : List (List UInt8)) (A A' : Option Addr) (c c' L N L' N' : Nat) (w : World) (hl : ks.length ≤ 9223372036854775807) (hl' : ks'.length ≤ 9223372036854775807)
    (h : ks = [] ∨ ∃ b o, A = some ⟨b, o, none⟩ ∧ KIs w L N ks b o) (h' : ks' = [] ∨ ∃ b o, A' = some ⟨b, o, none⟩ ∧ KIs w L' N' ks' b o) :
    Calls Tryd.prog 48 #[.slice A ks.length c, .slice A' ks'.length c'] w fun e w' => e = .returned (.bool (decide (ks = ks'))) ∧ Below w.heap.size w w' := by
  by_cases hlen : ks.length = ks'.length
  · rcases h with rfl | ⟨b, o, rfl, h⟩
    · have hk : ks' = [] := List.length_eq_zero_iff.1 hlen.symm
      subst hk
      refine (Tryd.slices_Equal_string_empty A A' c 0 c' w (by decide)).mono fun e w' ⟨he, hw⟩ => ⟨?_, by rw [hw]; exact Below.refl _ _⟩
      rw [he]; simp
    · rcases h' with rfl | ⟨b', o', rfl, h'⟩
      · have hk : ks = [] := List.length_eq_zero_iff.1 hlen
        subst hk
        refine (Tryd.slices_Equal_string_empty _ A' c 0 c' w (by decide)).mono fun e w' ⟨he, hw⟩ => ⟨?_, by rw [hw]; exact Below.refl _ _⟩
        rw [he]; simp
      · refine (Tryd.slices_Equal_string b o ks.length c b' o' ks'.length c' (strsOf ks) (strsOf ks') w (by rw [strsOf_len]; exact Nat.le_refl _) (by rw [strsOf_len]; exact Nat.le_refl _) hl hl' (fun j hj => ?_) (fun j hj => ?_)).mono fun e w' ⟨he, q, hw⟩ => ⟨?_, ?_⟩
        · rw [strsOf_len] at hj; rw [strsOf_getD ks j hj]; exact (h.get j hj).2.2
        · rw [strsOf_len] at hj; rw [strsOf_getD ks' j hj]; exact (h'.get j hj).2.2
        · rw [he]
          congr 2
          rw [List.take_of_length_le (by rw [strsOf_len]; exact Nat.le_refl _), List.take_of_length_le (by rw [strsOf_len]; exact Nat.le_refl _)]
          exact decide_eq_decide.2 ⟨strsOf_inj, fun h => by rw [h]⟩
        · rw [hw]; exact below_drewN (Below.refl _ w) q
  · refine (Tryd.slices_Equal_string_lens A A' ks.length c ks'.length c' w hlen).mono fun e w' ⟨he, hw⟩ => ⟨?_, by rw [hw]; exact Below.refl _ _⟩
    rw [he]
    have : ks ≠ ks' := fun h => hlen (by rw [h])
    simp [this]
theorem ten_in {W W' : World} {p p' o o' : Nat} {a0 a1 a2 a3 a4 b0 b1 b2 b3 b4 : Value} (hp : p < W.heap.size) (hp' : p' < W.heap.size) (hb : Below W.heap.size W W')
    (h : W.cell? ⟨p, o, none⟩ = some a0 ∧ W.cell? ⟨p, o + 1, none⟩ = some a1 ∧ W.cell? ⟨p, o + 2, none⟩ = some a2 ∧ W.cell? ⟨p, o + 3, none⟩ = some a3 ∧ W.cell? ⟨p, o + 4, none⟩ = some a4 ∧ W.cell? ⟨p', o', none⟩ = some b0 ∧ W.cell? ⟨p', o' + 1, none⟩ = some b1 ∧ W.cell? ⟨p', o' + 2, none⟩ = some b2 ∧ W.cell? ⟨p', o' + 3, none⟩ = some b3 ∧ W.cell? ⟨p', o' + 4, none⟩ = some b4) :
    W'.cell? ⟨p, o, none⟩ = some a0 ∧ W'.cell? ⟨p, o + 1, none⟩ = some a1 ∧ W'.cell? ⟨p, o + 2, none⟩ = some a2 ∧ W'.cell? ⟨p, o + 3, none⟩ = some a3 ∧ W'.cell? ⟨p, o + 4, none⟩ = some a4 ∧ W'.cell? ⟨p', o', none⟩ = some b0 ∧ W'.cell? ⟨p', o' + 1, none⟩ = some b1 ∧ W'.cell? ⟨p', o' + 2, none⟩ = some b2 ∧ W'.cell? ⟨p', o' + 3, none⟩ = some b3 ∧ W'.cell? ⟨p', o' + 4, none⟩ = some b4 := by
  obtain ⟨h2, h3, h4, h5, h6, h7, h8, h9, h10, h11⟩ := h
  exact ⟨(hb.cell (p := ⟨p, _, none⟩) hp).trans h2, (hb.cell (p := ⟨p, _, none⟩) hp).trans h3, (hb.cell (p := ⟨p, _, none⟩) hp).trans h4, (hb.cell (p := ⟨p, _, none⟩) hp).trans h5, (hb.cell (p := ⟨p, _, none⟩) hp).trans h6, (hb.cell (p := ⟨p', _, none⟩) hp').trans h7, (hb.cell (p := ⟨p', _, none⟩) hp').trans h8, (hb.cell (p := ⟨p', _, none⟩) hp').trans h9, (hb.cell (p := ⟨p', _, none⟩) hp').trans h10, (hb.cell (p := ⟨p', _, none⟩) hp').trans h11⟩
theorem two_in {W W' : World} {p p' o o' : Nat} {x y : Value} (hp : p < W.heap.size) (hp' : p' < W.heap.size) (hb : Below W.heap.size W W') (h : W.cell? ⟨p, o + 3, none⟩ = some x ∧ W.cell? ⟨p', o' + 3, none⟩ = some y) : W'.cell? ⟨p, o + 3, none⟩ = some x ∧ W'.cell? ⟨p', o' + 3, none⟩ = some y :=
  ⟨(hb.cell (p := ⟨p, _, none⟩) hp).trans h.1, (hb.cell (p := ⟨p', _, none⟩) hp').trans h.2⟩
set_option maxRecDepth 100000 in
set_option maxHeartbeats 20000000 in
theorem same_at (m : Nat) : ∀ (v u : V) (w : World) (L N b o : Nat) (cs : List Value) (L' N' b' o' : Nat) (ds : List Value), v.size ≤ m → Five w b o cs → b < N → VIs w L N v cs → N ≤ w.heap.size → Five w b' o' ds → b' < N' → VIs w L' N' u ds → N' ≤ w.heap.size →
    Calls Tryd.prog 29 #[.pointer (some ⟨b, o, none⟩), .pointer (some ⟨b', o', none⟩)] w fun e w' => ∃ r : Bool, e = .returned (.bool r) ∧ (r = true ↔ v = u) ∧ Below w.heap.size w w' := by
  induction m with
  | zero => intro v u w L N b o cs L' N' b' o' ds hm; exact absurd (size_pos v) (by omega)
  | succ m ih =>
  intro v u w L N b o cs L' N' b' o' ds hm h5 hbN hv hN h5' hbN' hv' hN'
  obtain ⟨k, n, t, l, ks⟩ := v
  obtain ⟨k', n', t', l', ks'⟩ := u
  obtain ⟨⟨ml, mk, -, -⟩, A, c, A', c', rfl, h1, h2⟩ := hv.out
  obtain ⟨⟨ml', mk', -, -⟩, B, d, B', d', rfl, i1, i2⟩ := hv'.out
  obtain ⟨c0, c1, c2, c3, c4, e, m0, m1, m2, m3, m4⟩ := h5
  injection e with e0 e; injection e with e1 e; injection e with e2 e; injection e with e3 e; injection e with e4 e
  subst e0; subst e1; subst e2; subst e3; subst e4
  obtain ⟨c0, c1, c2, c3, c4, e, n0, n1, n2, n3, n4⟩ := h5'
  injection e with e0 e; injection e with e1 e; injection e with e2 e; injection e with e3 e; injection e with e4 e
  subst e0; subst e1; subst e2; subst e3; subst e4
  have hbw : b < w.heap.size := by omega
  have hbw' : b' < w.heap.size := by omega
  have hke := fun wq (hwq : Below w.heap.size w wq) => keysEq_any ks ks' A' B' c' d' L N L' N' wq mk mk' (by
    rcases h1 with h | ⟨b, o, e, h⟩
    · exact .inl h
    · exact .inr ⟨b, o, e, h.below (hwq.mono hN)⟩) (by
    rcases i1 with h | ⟨b, o, e, h⟩
    · exact .inl h
    · exact .inr ⟨b, o, e, h.below (hwq.mono hN')⟩)
  have H2 := Lib.hid h2; have I2 := Lib.hid i2; have KE := Lib.hid hke; have HM := Lib.hid hm
  clear hv hv' h1 h2 i1 i2 hke hm
  obtain ⟨nl, hnl⟩ : ∃ nl, l.length = nl := ⟨_, rfl⟩
  obtain ⟨nk, hnk⟩ : ∃ nk, ks.length = nk := ⟨_, rfl⟩
  obtain ⟨nl', hnl'⟩ : ∃ nl', l'.length = nl' := ⟨_, rfl⟩
  obtain ⟨nk', hnk'⟩ : ∃ nk', ks'.length = nk' := ⟨_, rfl⟩
  rw [hnl] at ml m3; rw [hnk] at mk m4 KE; rw [hnl'] at ml' n3; rw [hnk'] at mk' n4 KE
  have NL := Lib.hid hnl; have NL' := Lib.hid hnl'
  clear hnl hnl' hnk hnk'
  by_cases ek : k = k'
  · subst ek
    have q0 : (k != k) = false := by simp
    by_cases en : n = n'
    · subst en
      have q1 : (n != n) = false := by simp
      by_cases et : t = t'
      · subst et
        have q2 : (t != t) = false := by simp
        by_cases el : nl = nl'
        · subst el
          have q3 : ((nl : Int) != (nl : Int)) = false := by simp
          obtain ⟨R, hR⟩ : ∃ R : Bool, decide (ks = ks') = R := ⟨_, rfl⟩
          rw [hR] at KE
          have hRR := Lib.hid hR
          clear hR
          have hS := And.intro m0 (And.intro m1 (And.intro m2 (And.intro m3 (And.intro m4 (And.intro n0 (And.intro n1 (And.intro n2 (And.intro n3 n4))))))))
          go_enter Tryd.func29, Tryd.ntmps29
          go_wp2_with fail
          go_region_held3 (fun W => W.cell? ⟨b, o, none⟩ = some (.int .i64 k) ∧ W.cell? ⟨b, o + 1, none⟩ = some (.int .i64 n) ∧ W.cell? ⟨b, o + 2, none⟩ = some (.string ⟨t.toArray⟩) ∧ W.cell? ⟨b, o + 3, none⟩ = some (.slice A nl c) ∧ W.cell? ⟨b, o + 4, none⟩ = some (.slice A' nk c') ∧ W.cell? ⟨b', o', none⟩ = some (.int .i64 k) ∧ W.cell? ⟨b', o' + 1, none⟩ = some (.int .i64 n) ∧ W.cell? ⟨b', o' + 2, none⟩ = some (.string ⟨t.toArray⟩) ∧ W.cell? ⟨b', o' + 3, none⟩ = some (.slice B nl d) ∧ W.cell? ⟨b', o' + 4, none⟩ = some (.slice B' nk' d')) (first | exact hS | exact ten_in hbw hbw' (below_drew2 _ _ hb1) hS) (first | (go_at_call 48; with_reducible refine (KE.out _ (Below.refl _ _).drew).mono ?_; rintro e1 w1 ⟨rfl, hb1⟩))
          have hb1' := below_drew2 _ _ hb1
          have p3 := (hb1'.cell (p := ⟨b, o + 3, none⟩) hbw).trans m3
          have s3 := (hb1'.cell (p := ⟨b', o' + 3, none⟩) hbw').trans n3
          have HB1 := Lib.hid hb1'
          clear hb1 hb1' hS
          cases R with
          | false =>
            go_wp2
            go_ret
            exact ⟨false, rfl, v_ne (.inr (.inr (.inr (.inr (of_decide_eq_false hRR.out))))), HB1.out⟩
          | true =>
            have hks := of_decide_eq_true hRR.out
            subst hks
            go_wp2_with fail
            go_loopw [67] (fun i wr => ∃ j : Nat, j ≤ nl ∧ i = .int .i64 j ∧ l.take j = l'.take j ∧ Below w.heap.size w wr) (fun i _ => nl - (intOf i).toNat)
            case atStart => exact ⟨0, Nat.zero_le _, rfl, rfl, HB1.out⟩
            case round =>
              obtain ⟨j, hj, rfl, htk, hb⟩ := hrel
              have HT := Lib.hid htk
              clear htk p3 s3
              have p3 := (hb.cell (p := ⟨b, o + 3, none⟩) hbw).trans m3
              have s3 := (hb.cell (p := ⟨b', o' + 3, none⟩) hbw').trans n3
              by_cases hlt : j < nl
              · have hjl : j < l.length := by have := NL.out; omega
                have hjl' : j < l'.length := by have := NL'.out; omega
                obtain ⟨p, q, rfl, _, hpN, xs, hx5, hxv⟩ := VIs.item H2.out j hjl
                obtain ⟨p', q', rfl, _, hpN', ys, hy5, hyv⟩ := VIs.item I2.out j hjl'
                have hc := fun wq (hwq : Below w.heap.size w wq) => ih l[j] l'[j] wq L N p (q + j * 5) xs L' N' p' (q' + j * 5) ys (by have := HM.out; have := size_get (k := k) (n := n) (t := t) (ks := ks) j hjl; omega) (hx5.keep hpN (fun r hr => (hwq.mono hN).cell hr)) hpN (hxv.below (hwq.mono hN)) (Nat.le_trans hN hwq.size) (hy5.keep hpN' (fun r hr => (hwq.mono hN').cell hr)) hpN' (hyv.below (hwq.mono hN')) (Nat.le_trans hN' hwq.size)
                have T1 := Lib.hid (take_next (l := l) (r := l') (j := j) HT.out hjl hjl')
                have T2 := Lib.hid (take_not (l := l) (r := l') (j := j) hjl hjl')
                generalize l[j] = x at *
                generalize l'[j] = y at *
                have HC := Lib.hid hc; have HBW := Lib.hid hb
                have hs := hb.size
                have hS := And.intro p3 s3
                have hj0 : (0 : Int) ≤ j := by omega
                have hj1 : (j : Int) < nl := by omega
                have hq1 : b < wr.heap.size := by omega
                have hq2 : b' < wr.heap.size := by omega
                clear hc ih hx5 hy5 hxv hyv I2 H2 hb
                go_wp2_with fail
                go_region_held3 (fun W => W.cell? ⟨b, o + 3, none⟩ = some (.slice (some ⟨p, q, none⟩) nl c) ∧ W.cell? ⟨b', o' + 3, none⟩ = some (.slice (some ⟨p', q', none⟩) nl d)) (first | exact hS | exact two_in hq1 hq2 (below_drew2 _ _ hb1) hS) (first | (go_at_call 29; with_reducible refine (HC.out _ HBW.out.drew).mono ?_; rintro e1 w1 ⟨r, rfl, hr, hb1⟩))
                have hb2 := HBW.out.trans ((below_drew2 _ _ hb1).mono hs)
                have HB2 := Lib.hid hb2
                clear hb2 hb1 hS HC
                cases r with
                | true =>
                  have T3 := Lib.hid (T1.out (hr.1 rfl)); clear T1 T2 hr
                  go_wp2
                  go_roundw
                  case rel => exact ⟨j + 1, by omega, by go_num, T3.out, HB2.out⟩
                  case measure => simp [intOf]; omega
                | false =>
                  have T3 := Lib.hid (T2.out (fun h => by cases hr.2 h)); clear T1 T2 hr
                  go_wp2
                  go_ret
                  exact ⟨false, rfl, v_ne (.inr (.inr (.inr (.inl T3.out)))), HB2.out⟩
              · have T4 := Lib.hid (take_whole HT.out (by have := NL.out; omega) (by have := NL'.out; omega))
                obtain rfl : nl = j := by omega
                clear HT
                go_wp2
                go_ret
                exact ⟨true, rfl, ⟨fun _ => by rw [T4.out], fun _ => rfl⟩, hb⟩
        · have q3 : ((nl : Int) != (nl' : Int)) = true := by simp; omega
          have T := Lib.hid (fun h : l = l' => el (by have := NL.out; have := NL'.out; rw [h] at *; omega))
          clear el NL NL' KE ih
          go_enter Tryd.func29, Tryd.ntmps29
          go_wp2_with fail
          go_region
          all_goals
            go_wp2
            go_ret
            exact ⟨false, rfl, v_ne (.inr (.inr (.inr (.inl T.out)))), by first | exact Below.refl _ _ | exact (Below.refl _ _).drew⟩
      · have T := Lib.hid et
        have q2 : (t == t') = false := by rw [beq_eq_false_iff_ne]; exact et
        clear et NL NL' KE ih
        go_enter Tryd.func29, Tryd.ntmps29
        go_wp2_with fail
        go_region
        all_goals
          go_wp2
          go_ret
          exact ⟨false, rfl, v_ne (.inr (.inr (.inl T.out))), by first | exact Below.refl _ _ | exact (Below.refl _ _).drew⟩
    · have q1 : (n != n') = true := by simpa using en
      have T := Lib.hid en
      clear en NL NL' KE ih
      go_enter Tryd.func29, Tryd.ntmps29
      go_wp2_with fail
      go_region
      all_goals
        go_wp2
        go_ret
        exact ⟨false, rfl, v_ne (.inr (.inl T.out)), by first | exact Below.refl _ _ | exact (Below.refl _ _).drew⟩
  · have q0 : (k != k') = true := by simpa using ek
    have T := Lib.hid ek
    clear ek NL NL' KE ih
    go_enter Tryd.func29, Tryd.ntmps29
    go_wp2_with fail
    go_region
    all_goals
      go_wp2
      go_ret
      exact ⟨false, rfl, v_ne (.inl T.out), by first | exact Below.refl _ _ | exact (Below.refl _ _).drew⟩
end Go.Proofs.YtoijjcbcmjdggaaDoor
