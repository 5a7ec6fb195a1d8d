/- JSON: the reference's Same. -/
import Derived.Test.YtobicmpgfiddhaaDoorJsonMem
namespace Go.Proofs.YtobicmpgfiddhaaDoor
open Go.RowKit

theorem take_next {α : Type} {l r : List α} {j : Nat} (h : l.take j = r.take j) (hj : j < l.length) (hj' : j < r.length) (e : l[j] = r[j]) : l.take (j + 1) = r.take (j + 1) := by
  rw [List.take_succ_eq_append_getElem hj, List.take_succ_eq_append_getElem hj', h, e]
theorem take_not {α : Type} {l r : List α} {j : Nat} (hj : j < l.length) (hj' : j < r.length) (e : l[j] ≠ r[j]) : l ≠ r := fun h => e (by subst h; rfl)
theorem take_whole {α : Type} {l r : List α} {j : Nat} (h : l.take j = r.take j) (hj : l.length ≤ j) (hj' : r.length ≤ j) : l = r := by
  rwa [List.take_of_length_le hj, List.take_of_length_le hj'] at h
theorem v_ne {k n : Int} {t : List UInt8} {l : List V} {ks : List (List UInt8)} {k' n' : Int} {t' : List UInt8} {l' : List V} {ks' : List (List UInt8)} (h : k ≠ k' ∨ n ≠ n' ∨ t ≠ t' ∨ l ≠ l' ∨ ks ≠ ks') :
    (false = true ↔ V.mk k n t l ks = V.mk k' n' t' l' ks') := by
  constructor
  · intro h; cases h
  · intro e; injection e with e1 e2 e3 e4 e5
    rcases h with h | h | h | h | h
    · exact absurd e1 h
    · exact absurd e2 h
    · exact absurd e3 h
    · exact absurd e4 h
    · exact absurd e5 h
theorem ten_keep {W W' : World} {b b' p p' o o' : Nat} {x y a0 a1 a2 a3 a4 b0 b1 b2 b3 b4 : Value} (hb1 : b < W.heap.size) (hb2 : b' < W.heap.size) (hp : p < W.heap.size) (hp' : p' < W.heap.size) (hb : Below W.heap.size W W')
    (h : W.cell? ⟨b, 3, none⟩ = some x ∧ W.cell? ⟨b', 3, none⟩ = some y ∧ W.cell? ⟨p, o, none⟩ = some a0 ∧ W.cell? ⟨p, o + 1, none⟩ = some a1 ∧ W.cell? ⟨p, o + 2, none⟩ = some a2 ∧ W.cell? ⟨p, o + 3, none⟩ = some a3 ∧ W.cell? ⟨p, o + 4, none⟩ = some a4 ∧ W.cell? ⟨p', o', none⟩ = some b0 ∧ W.cell? ⟨p', o' + 1, none⟩ = some b1 ∧ W.cell? ⟨p', o' + 2, none⟩ = some b2 ∧ W.cell? ⟨p', o' + 3, none⟩ = some b3 ∧ W.cell? ⟨p', o' + 4, none⟩ = some b4) :
    W'.cell? ⟨b, 3, none⟩ = some x ∧ W'.cell? ⟨b', 3, none⟩ = some y ∧ W'.cell? ⟨p, o, none⟩ = some a0 ∧ W'.cell? ⟨p, o + 1, none⟩ = some a1 ∧ W'.cell? ⟨p, o + 2, none⟩ = some a2 ∧ W'.cell? ⟨p, o + 3, none⟩ = some a3 ∧ W'.cell? ⟨p, o + 4, none⟩ = some a4 ∧ W'.cell? ⟨p', o', none⟩ = some b0 ∧ W'.cell? ⟨p', o' + 1, none⟩ = some b1 ∧ W'.cell? ⟨p', o' + 2, none⟩ = some b2 ∧ W'.cell? ⟨p', o' + 3, none⟩ = some b3 ∧ W'.cell? ⟨p', o' + 4, none⟩ = some b4 := by
  obtain ⟨h0, h1, h2, h3, h4, h5, h6, h7, h8, h9, h10, h11⟩ := h
  exact ⟨(hb.cell (p := ⟨b, _, none⟩) hb1).trans h0, (hb.cell (p := ⟨b', _, none⟩) hb2).trans h1, (hb.cell (p := ⟨p, _, none⟩) hp).trans h2, (hb.cell (p := ⟨p, _, none⟩) hp).trans h3, (hb.cell (p := ⟨p, _, none⟩) hp).trans h4, (hb.cell (p := ⟨p, _, none⟩) hp).trans h5, (hb.cell (p := ⟨p, _, none⟩) hp).trans h6, (hb.cell (p := ⟨p', _, none⟩) hp').trans h7, (hb.cell (p := ⟨p', _, none⟩) hp').trans h8, (hb.cell (p := ⟨p', _, none⟩) hp').trans h9, (hb.cell (p := ⟨p', _, none⟩) hp').trans h10, (hb.cell (p := ⟨p', _, none⟩) hp').trans h11⟩
set_option maxRecDepth 100000 in
set_option maxHeartbeats 2000000 in
theorem refSame_at (m : Nat) : ∀ (v u : V) (w : World) (L N L' N' : Nat) (cs ds : List Value), v.size ≤ m → VIs w L N v cs → VIs w L' N' u ds → N ≤ w.heap.size → N' ≤ w.heap.size →
    Calls Tryd.prog 14 #[.agg cs.toArray, .agg ds.toArray] w fun e w' => ∃ b : Bool, e = .returned (.bool b) ∧ (b = true ↔ v = u) ∧ Below w.heap.size w w' := by
  induction m with
  | zero => intro v u w L N L' N' cs ds hm; exact absurd (size_pos v) (by omega)
  | succ m ih =>
  intro v u w L N L' N' cs ds hm hv hu hN hN'
  obtain ⟨k, n, t, l, ks⟩ := v
  obtain ⟨k', n', t', l', ks'⟩ := u
  obtain ⟨⟨ml, mk, -, -⟩, A, c, A', c', rfl, h1, h2⟩ := hv.out
  obtain ⟨⟨ml', mk', -, -⟩, B, d, B', d', rfl, i1, i2⟩ := hu.out
  have hb0 := ((Below.refl w.heap.size w).alloc (Nat.le_refl _) (.cells #[.int .i64 k, .int .i64 n, .string ⟨t.toArray⟩, .slice A l.length c, .slice A' ks.length c'] 25)).alloc (by simp) (.cells #[.int .i64 k', .int .i64 n', .string ⟨t'.toArray⟩, .slice B l'.length d, .slice B' ks'.length d'] 25)
  have x1 := (Box.new w (.int .i64 k) (.int .i64 n) (.string ⟨t.toArray⟩) (.slice A l.length c) (.slice A' ks.length c') 25).below (by simp) ((Below.refl _ _).alloc (Nat.le_refl _) (.cells #[.int .i64 k', .int .i64 n', .string ⟨t'.toArray⟩, .slice B l'.length d, .slice B' ks'.length d'] 25))
  have x2 := Box.new (w.alloc (.cells #[.int .i64 k, .int .i64 n, .string ⟨t.toArray⟩, .slice A l.length c, .slice A' ks.length c'] 25)) (.int .i64 k') (.int .i64 n') (.string ⟨t'.toArray⟩) (.slice B l'.length d) (.slice B' ks'.length d') 25
  have hsz2 : w.heap.size + 2 ≤ ((w.alloc (.cells #[.int .i64 k, .int .i64 n, .string ⟨t.toArray⟩, .slice A l.length c, .slice A' ks.length c'] 25)).alloc (.cells #[.int .i64 k', .int .i64 n', .string ⟨t'.toArray⟩, .slice B l'.length d, .slice B' ks'.length d'] 25)).heap.size := by simp
  have es : (w.alloc (.cells #[.int .i64 k, .int .i64 n, .string ⟨t.toArray⟩, .slice A l.length c, .slice A' ks.length c'] 25)).heap.size = w.heap.size + 1 := by simp
  rw [es] at x2
  have HB0 := Lib.hid hb0; have X1 := Lib.hid x1; have X2 := Lib.hid x2; have HS2 := Lib.hid hsz2
  clear hb0 x1 x2 hsz2 es hv hu
  by_cases ek : k = k'
  · subst ek
    by_cases en : n = n'
    · subst en
      by_cases et : t = t'
      · subst et
        by_cases el : l.length = l'.length
        · by_cases eks : ks.length = ks'.length
          · obtain ⟨nl, hnl⟩ : ∃ nl, l.length = nl := ⟨_, rfl⟩
            obtain ⟨nk, hnk⟩ : ∃ nk, ks.length = nk := ⟨_, rfl⟩
            rw [hnl] at ml; rw [hnk] at mk; clear ml' mk'
            rw [← el, hnl, ← eks, hnk] at HB0 X1 X2 HS2
            rw [← el, hnl, ← eks, hnk]
            have NL := Lib.hid hnl; have NK := Lib.hid hnk; have EL := Lib.hid el; have EK := Lib.hid eks; have I1 := Lib.hid h1; have I2 := Lib.hid h2; have J1 := Lib.hid i1; have J2 := Lib.hid i2
            clear hnl hnk el eks h1 h2 i1 i2
            go_enter Tryd.func14, Tryd.ntmps14
            go_wp2
            trace_state
            go_loopw [5] (fun i wr => ∃ j : Nat, j ≤ nk ∧ i = .int .i64 j ∧ ks.take j = ks'.take j ∧ Box wr w.heap.size (.int .i64 k) (.int .i64 n) (.string ⟨t.toArray⟩) (.slice A nl c) (.slice A' nk c') ∧ Box wr (w.heap.size + 1) (.int .i64 k) (.int .i64 n) (.string ⟨t.toArray⟩) (.slice B nl d) (.slice B' nk d') ∧ w.heap.size + 2 ≤ wr.heap.size ∧ Below w.heap.size w wr) (fun i _ => nk - (intOf i).toNat)
            case atStart => exact ⟨0, Nat.zero_le _, rfl, rfl, X1.out, X2.out, HS2.out, HB0.out⟩
            case round =>
              obtain ⟨j, hj, rfl, htk, b1, b2, hs, hb⟩ := hrel
              have HT := Lib.hid htk; have B1 := Lib.hid b1; have B2 := Lib.hid b2; clear htk
              obtain ⟨-, -, -, l1, k1⟩ := b1
              obtain ⟨-, -, -, l2, k2⟩ := b2
              by_cases hlt : j < nk
              · obtain ⟨p, o, rfl, _, hpN, hc1⟩ := VIs.key I1.out j (by have := NK.out; omega)
                obtain ⟨p', o', rfl, _, hpN', hc2⟩ := VIs.key J1.out j (by have := NK.out; have := EK.out; omega)
                have hc1 := (hb.cell (p := ⟨p, o + j, none⟩) (by show p < _; omega)).trans hc1
                have hc2 := (hb.cell (p := ⟨p', o' + j, none⟩) (by show p' < _; omega)).trans hc2
                have hjk : j < ks.length := by have := NK.out; omega
                have hjk' : j < ks'.length := by have := NK.out; have := EK.out; omega
                have T1 := Lib.hid (take_next (l := ks) (r := ks') (j := j) HT.out hjk hjk')
                have T2 := Lib.hid (take_not (l := ks) (r := ks') (j := j) hjk hjk')
                generalize ks[j] = x at *
                generalize ks'[j] = y at *
                clear I1 J1
                by_cases hxy : x = y
                · subst hxy
                  have hbe : (x == x) = true := by simp
                  have T3 := Lib.hid (T1.out rfl); clear T1 T2
                  go_wp2_with fail
                  go_region
                  all_goals
                    go_wp2
                    go_roundw
                    case rel => exact ⟨j + 1, by omega, by go_num, T3.out, B1.out, B2.out, hs, hb.drew⟩
                    case measure => simp [intOf]; omega
                · have hbe : (x == y) = false := by simpa using hxy
                  have T3 := Lib.hid (T2.out hxy); clear T1 T2 hxy
                  go_wp2_with fail
                  go_region
                  all_goals
                    go_wp2
                    go_ret
                    exact ⟨false, rfl, v_ne (.inr (.inr (.inr (.inr T3.out)))), hb.drew⟩
              · obtain rfl : nk = j := by omega
                have T3 := Lib.hid (take_whole HT.out (by have := NK.out; omega) (by have := NK.out; have := EK.out; omega)); clear HT NK EK I1 J1
                go_wp2
                go_loopw [6] (fun i wr => ∃ j : Nat, j ≤ nl ∧ i = .int .i64 j ∧ l.take j = l'.take j ∧ Box wr w.heap.size (.int .i64 k) (.int .i64 n) (.string ⟨t.toArray⟩) (.slice A nl c) (.slice A' nk c') ∧ Box wr (w.heap.size + 1) (.int .i64 k) (.int .i64 n) (.string ⟨t.toArray⟩) (.slice B nl d) (.slice B' nk d') ∧ w.heap.size + 2 ≤ wr.heap.size ∧ Below w.heap.size w wr) (fun i _ => nl - (intOf i).toNat)
                case atStart => exact ⟨0, Nat.zero_le _, rfl, rfl, B1.out, B2.out, hs, hb⟩
                case round =>
                  clear l1 k1 l2 k2 B1 B2 hs hb
                  obtain ⟨j, hj, rfl, htk, b1, b2, hs, hb⟩ := hrel
                  have HT := Lib.hid htk; have B1 := Lib.hid b1; have B2 := Lib.hid b2; clear htk
                  obtain ⟨-, -, -, l1, k1⟩ := b1
                  obtain ⟨-, -, -, l2, k2⟩ := b2
                  by_cases hlt : j < nl
                  · have hjl : j < l.length := by have := NL.out; omega
                    have hjl' : j < l'.length := by have := NL.out; have := EL.out; omega
                    obtain ⟨p, o, rfl, _, hpN, xs, hx5, hxv⟩ := VIs.item I2.out j hjl
                    obtain ⟨p', o', rfl, _, hpN', ys, hy5, hyv⟩ := VIs.item J2.out j hjl'
                    have hbN := hb.mono hN; have hbN' := hb.mono hN'
                    have hc := fun wq (hwq : Below w.heap.size w wq) => ih l[j] l'[j] wq L N L' N' xs ys (by have := size_get (k := k) (n := n) (t := t) (ks := ks) j hjl; omega) (hxv.below (hwq.mono hN)) (hyv.below (hwq.mono hN')) (Nat.le_trans hN hwq.size) (Nat.le_trans hN' hwq.size)
                    have T1 := Lib.hid (take_next (l := l) (r := l') (j := j) HT.out hjl hjl')
                    have T2 := Lib.hid (take_not (l := l) (r := l') (j := j) hjl hjl')
                    generalize l[j] = x at *
                    generalize l'[j] = y at *
                    obtain ⟨a0, a1, a2, a3, a4, rfl, m0, m1, m2, m3, m4⟩ := hx5.keep (w' := wr) hpN (fun p hp => hbN.cell hp)
                    obtain ⟨b0, b1, b2, b3, b4, rfl, m0', m1', m2', m3', m4'⟩ := hy5.keep (w' := wr) hpN' (fun p hp => hbN'.cell hp)
                    have HBW := Lib.hid hb
                    have hS := And.intro l1 (And.intro l2 (And.intro m0 (And.intro m1 (And.intro m2 (And.intro m3 (And.intro m4 (And.intro m0' (And.intro m1' (And.intro m2' (And.intro m3' m4'))))))))))
                    have hq1 : w.heap.size < wr.heap.size := by omega
                    have hq2 : w.heap.size + 1 < wr.heap.size := by omega
                    have hq3 : p < wr.heap.size := by omega
                    have hq4 : p' < wr.heap.size := by omega
                    have hcc := fun wq (h : Below wr.heap.size wr wq) => hc wq (hb.trans (h.mono (by omega)))
                    have HC := Lib.hid hcc
                    clear I2 J2 hc hcc ih hbN hbN' hx5 hy5 hxv hyv
                    have hj0 : (0 : Int) ≤ j := by omega
                    have hj1 : (j : Int) < nl := by omega
                    go_wp2_with fail
                    go_region_held3 (fun W => W.cell? ⟨w.heap.size, 3, none⟩ = some (.slice (some ⟨p, o, none⟩) nl c) ∧ W.cell? ⟨w.heap.size + 1, 3, none⟩ = some (.slice (some ⟨p', o', none⟩) nl d) ∧ W.cell? ⟨p, o + j * 5, none⟩ = some a0 ∧ W.cell? ⟨p, o + j * 5 + 1, none⟩ = some a1 ∧ W.cell? ⟨p, o + j * 5 + 2, none⟩ = some a2 ∧ W.cell? ⟨p, o + j * 5 + 3, none⟩ = some a3 ∧ W.cell? ⟨p, o + j * 5 + 4, none⟩ = some a4 ∧ W.cell? ⟨p', o' + j * 5, none⟩ = some b0 ∧ W.cell? ⟨p', o' + j * 5 + 1, none⟩ = some b1 ∧ W.cell? ⟨p', o' + j * 5 + 2, none⟩ = some b2 ∧ W.cell? ⟨p', o' + j * 5 + 3, none⟩ = some b3 ∧ W.cell? ⟨p', o' + j * 5 + 4, none⟩ = some b4) (first | exact hS | exact ten_keep hq1 hq2 hq3 hq4 (below_drew2 _ _ hb1) hS) (first | (go_at_call 14; with_reducible refine (HC.out _ (Below.refl _ _).drew).mono ?_; rintro e1 w1 ⟨b, rfl, hbb, hb1⟩))
                    have hb1 := below_drew2 wr w1 hb1
                    have hs1 := hb1.size
                    have hbw1 : Below w.heap.size w w1 := HBW.out.trans (hb1.mono (by omega))
                    have D1 := B1.out.below (by omega) hb1
                    have D2 := B2.out.below (by omega) hb1
                    have HD1 := Lib.hid D1; have HD2 := Lib.hid D2; have HW1 := Lib.hid hbw1; have HSS := Lib.hid hs1
                    clear D1 D2 hb1 hbw1 hs1 hS HC
                    cases b with
                    | true =>
                      have T3 := Lib.hid (T1.out (hbb.1 rfl)); clear T1 T2 hbb
                      go_wp2
                      go_roundw
                      case rel => exact ⟨j + 1, by omega, by go_num, T3.out, HD1.out, HD2.out, by have := HSS.out; omega, HW1.out⟩
                      case measure => simp [intOf]; omega
                    | false =>
                      have T3 := Lib.hid (T2.out (fun h => by cases hbb.2 h)); clear T1 T2 hbb
                      go_wp2
                      go_ret
                      exact ⟨false, rfl, v_ne (.inr (.inr (.inr (.inl T3.out)))), HW1.out⟩
                  · have T4 := Lib.hid (take_whole HT.out (by have := NL.out; omega) (by have := NL.out; have := EL.out; omega))
                    obtain rfl : nl = j := by omega
                    clear HT NL EL
                    go_wp2
                    go_ret
                    exact ⟨true, rfl, ⟨fun _ => by rw [T3.out, T4.out], fun _ => rfl⟩, hb⟩
          · have q1 : ((ks.length : Int) == (ks'.length : Int)) = false := by simp; omega
            have q2 := Lib.hid (fun h : ks = ks' => eks (by rw [h]))
            rw [el] at HB0
            rw [el]
            clear el
            go_enter Tryd.func14, Tryd.ntmps14
            go_wp2
            go_ret
            exact ⟨false, rfl, v_ne (.inr (.inr (.inr (.inr q2.out)))), HB0.out⟩
        · have q1 : ((l.length : Int) == (l'.length : Int)) = false := by simp; omega
          have q2 := Lib.hid (fun h : l = l' => el (by rw [h]))
          go_enter Tryd.func14, Tryd.ntmps14
          go_wp2
          go_ret
          exact ⟨false, rfl, v_ne (.inr (.inr (.inr (.inl q2.out)))), HB0.out⟩
      · have q1 : (t == t') = false := by simpa using et
        have q2 := Lib.hid et; clear et
        go_enter Tryd.func14, Tryd.ntmps14
        go_wp2
        go_ret
        exact ⟨false, rfl, v_ne (.inr (.inr (.inl q2.out))), HB0.out⟩
    · have q1 : (n == n') = false := by simpa using en
      have q2 := Lib.hid en; clear en
      go_enter Tryd.func14, Tryd.ntmps14
      go_wp2
      go_ret
      exact ⟨false, rfl, v_ne (.inr (.inl q2.out)), HB0.out⟩
  · have q1 : (k == k') = false := by simpa using ek
    have q2 := Lib.hid ek; clear ek
    go_enter Tryd.func14, Tryd.ntmps14
    go_wp2
    go_ret
    exact ⟨false, rfl, v_ne (.inl q2.out), HB0.out⟩
theorem refSame_any (v u : V) (w : World) (L N L' N' : Nat) (cs ds : List Value) (hv : VIs w L N v cs) (hu : VIs w L' N' u ds) (hN : N ≤ w.heap.size) (hN' : N' ≤ w.heap.size) :
    Calls Tryd.prog 14 #[.agg cs.toArray, .agg ds.toArray] w fun e w' => ∃ b : Bool, e = .returned (.bool b) ∧ (b = true ↔ v = u) ∧ Below w.heap.size w w' :=
  refSame_at v.size v u w L N L' N' cs ds (Nat.le_refl _) hv hu hN hN'
end Go.Proofs.YtobicmpgfiddhaaDoor
