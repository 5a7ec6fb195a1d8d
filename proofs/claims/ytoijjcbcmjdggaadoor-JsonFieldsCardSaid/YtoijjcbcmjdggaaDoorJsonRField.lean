/- JSON: the reference's Field. -/
import Derived.Test.YtoijjcbcmjdggaaDoorJsonRSame
import Derived.Test.YtoijjcbcmjdggaaDoorJsonField
namespace Go.Proofs.YtoijjcbcmjdggaaDoor
open Go.RowKit
set_option linter.unusedVariables false
set_option linter.unusedSimpArgs false

theorem zero_isF (w : World) (L N : Nat) : VIs w L N V.zero [.int .i64 0, .int .i64 0, .string ⟨#[]⟩, .slice none 0 0, .slice none 0 0] := VIs.mk (t := []) (l := []) (ks := []) ⟨by simp, by simp, by simp, by simp⟩ (.inl rfl) (.inl rfl)
theorem fieldV_hit {key : List UInt8} {n : Int} {t : List UInt8} {l : List V} {ks : List (List UInt8)} {j : Nat} (hj : j < ks.length) (hl : j < l.length) (h : ks[j] = key) (hne : ∀ i (hi : i < ks.length), i < j → ks[i] ≠ key) : fieldV key (.mk 6 n t l ks) = some l[j] := by
  show (if (6 : Int) = 6 ∧ keyAt key ks < ks.length then l[keyAt key ks]? else none) = _
  rw [keyAt_is key ks j hj h hne, if_pos ⟨rfl, hj⟩, List.getElem?_eq_getElem hl]
theorem fieldV_miss {key : List UInt8} {n : Int} {t : List UInt8} {l : List V} {ks : List (List UInt8)} {j : Nat} (hj : ks.length ≤ j ∨ l.length ≤ j) (hne : ∀ i (hi : i < ks.length), i < j → ks[i] ≠ key) : fieldV key (.mk 6 n t l ks) = none := by
  show (if (6 : Int) = 6 ∧ keyAt key ks < ks.length then l[keyAt key ks]? else none) = _
  by_cases h : keyAt key ks < ks.length
  · rw [if_pos ⟨rfl, h⟩]
    refine List.getElem?_eq_none ?_
    rcases Nat.lt_or_ge (keyAt key ks) j with h' | h'
    · exact absurd (keyAt_hit key ks h) (hne _ h h')
    · rcases hj with hj | hj <;> omega
  · rw [if_neg (fun e => h e.2)]
theorem fieldV_not {key : List UInt8} {k n : Int} {t : List UInt8} {l : List V} {ks : List (List UInt8)} (h : k ≠ 6) : fieldV key (.mk k n t l ks) = none := by
  show (if k = 6 ∧ keyAt key ks < ks.length then l[keyAt key ks]? else none) = _
  rw [if_neg (fun e => h e.1)]
set_option maxRecDepth 100000 in
set_option maxHeartbeats 40000000 in
theorem refField_any (v : V) (key : List UInt8) (w : World) (L N : Nat) (cs : List Value) (hv : VIs w L N v cs) (hN : N ≤ w.heap.size) :
    Calls Tryd.prog 20 #[.agg cs.toArray, .string ⟨key.toArray⟩] w fun e w' => (∃ k n t A a b A' a' b', e = .returned (.tuple #[.agg #[.int .i64 k, .int .i64 n, .string t, .slice A a b, .slice A' a' b'], .bool (fieldV key v).isSome]) ∧
      VIs w' L N ((fieldV key v).getD V.zero) [.int .i64 k, .int .i64 n, .string t, .slice A a b, .slice A' a' b']) ∧ Below w.heap.size w w' := by
  obtain ⟨k, n, t, l, ks⟩ := v
  obtain ⟨⟨ml, mk, -, -⟩, A, c, A', c', rfl, h1, h2⟩ := hv.out
  have HIT := Lib.hid (fun (j : Nat) (hj : j < ks.length) (hl : j < l.length) (h : ks[j] = key) (hne : ∀ i (hi : i < ks.length), i < j → ks[i] ≠ key) => fieldV_hit (n := n) (t := t) hj hl h hne)
  have MISS := Lib.hid (fun (j : Nat) (hj : ks.length ≤ j ∨ l.length ≤ j) (hne : ∀ i (hi : i < ks.length), i < j → ks[i] ≠ key) => fieldV_miss (key := key) (n := n) (t := t) hj hne)
  obtain ⟨nl, hnl⟩ : ∃ nl, l.length = nl := ⟨_, rfl⟩
  obtain ⟨nk, hnk⟩ : ∃ nk, ks.length = nk := ⟨_, rfl⟩
  rw [hnl] at ml ⊢
  rw [hnk] at mk ⊢
  obtain ⟨F, hF⟩ : ∃ F, fieldV key (.mk k n t l ks) = F := ⟨_, rfl⟩
  rw [hF]
  have hb0 := ((Below.refl w.heap.size w).alloc (Nat.le_refl _) (.cells #[.int .i64 k, .int .i64 n, .string ⟨t.toArray⟩, .slice A nl c, .slice A' nk c'] 25)).alloc (by simp) (.cells #[.int .i64 0, .int .i64 0, .string ⟨#[]⟩, .slice none 0 0, .slice none 0 0] 25)
  obtain ⟨W2, hW2⟩ : ∃ W2, W2 = ((w.alloc (.cells #[.int .i64 k, .int .i64 n, .string ⟨t.toArray⟩, .slice A nl c, .slice A' nk c'] 25)).alloc (.cells #[.int .i64 0, .int .i64 0, .string ⟨#[]⟩, .slice none 0 0, .slice none 0 0] 25)) := ⟨_, rfl⟩
  rw [← hW2] at hb0
  have x1 : W2.heap[w.heap.size]? = some (.cells #[.int .i64 k, .int .i64 n, .string ⟨t.toArray⟩, .slice A nl c, .slice A' nk c'] 25 (0, 0)) := by
    rw [hW2, Below.heap_alloc _ _ _ (by simp)]; exact heap_alloc_last w _
  have x2 : W2.heap[w.heap.size + 1]? = some (.cells #[.int .i64 0, .int .i64 0, .string ⟨#[]⟩, .slice none 0 0, .slice none 0 0] 25 (0, 0)) := by
    rw [hW2]
    have := heap_alloc_last (w.alloc (.cells #[.int .i64 k, .int .i64 n, .string ⟨t.toArray⟩, .slice A nl c, .slice A' nk c'] 25)) (.cells #[.int .i64 0, .int .i64 0, .string ⟨#[]⟩, .slice none 0 0, .slice none 0 0] 25)
    simpa using this
  have HW2 := Lib.hid hW2; have HB0 := Lib.hid hb0; have X1 := Lib.hid x1; have X2 := Lib.hid x2; have NL := Lib.hid hnl; have NK := Lib.hid hnk; have H1 := Lib.hid h1; have H2 := Lib.hid h2; have HF := Lib.hid hF
  clear hv h1 h2 hW2 hb0 x1 x2 hnl hnk hF
  by_cases hk6 : k = 6
  · subst hk6
    go_enter Tryd.func20, Tryd.ntmps20
    go_wp2_with fail
    rw [← HW2.out]
    go_loopw [6] (fun i wr => ∃ j : Nat, j ≤ nk ∧ i = .int .i64 j ∧ (∀ i (hi : i < ks.length), i < j → ks[i] ≠ key) ∧ W2 = wr) (fun i _ => nk - (intOf i).toNat)
    case atStart => exact ⟨0, Nat.zero_le _, rfl, fun _ _ h => absurd h (Nat.not_lt_zero _), rfl⟩
    case round =>
      obtain ⟨j, hj, rfl, hne, rfl⟩ := hrel
      have HNE := Lib.hid hne
      clear hne
      obtain ⟨⟨e0, e1, e2, e3, e4⟩, -⟩ := box_of X1.out
      obtain ⟨⟨p0, p1, p2, p3, p4⟩, q0, q1, q2, q3, q4⟩ := box_of X2.out
      by_cases hjk : j < nk
      · by_cases hjl : j < nl
        · have hjk' : j < ks.length := by have := NK.out; omega
          have hjl' : j < l.length := by have := NL.out; omega
          obtain ⟨p, o, rfl, _, hpN, hc⟩ := VIs.key H1.out j hjk'
          obtain ⟨p', o', rfl, _, hpN', xs, hx5, hxv⟩ := VIs.item H2.out j hjl'
          have hc := (HB0.out.cell (p := ⟨p, o + j, none⟩) (by show p < _; omega)).trans hc
          have T1 := Lib.hid (HIT.out j hjk' hjl')
          have T2 := Lib.hid (fun (h : ks[j] ≠ key) i (hi : i < ks.length) (hij : i < j + 1) => (show ks[i] ≠ key from if e : i = j then by subst e; exact h else HNE.out i hi (by omega)))
          have hx6 := hx5.keep (w' := W2) hpN' (fun r hr => (HB0.out.mono hN).cell hr)
          have hxv2 := hxv.below (HB0.out.mono hN)
          obtain ⟨x, hx⟩ : ∃ x, ks[j] = x := ⟨_, rfl⟩
          rw [hx] at hc T1 T2
          obtain ⟨y, hy⟩ : ∃ y, l[j] = y := ⟨_, rfl⟩
          rw [hy] at hxv2 T1
          obtain ⟨u1, u2, u3, u4, rfl⟩ := hxv2.form
          obtain ⟨a0, a1, a2, a3, a4, ea, m0, m1, m2, m3, m4⟩ := hx6
          injection ea with ea0 ea; injection ea with ea1 ea; injection ea with ea2 ea; injection ea with ea3 ea; injection ea with ea4 ea
          subst ea0; subst ea1; subst ea2; subst ea3; subst ea4
          have HXV := Lib.hid hxv2
          have hj0 : (0 : Int) ≤ j := by omega
          have hj1 : (j : Int) < nk := by omega
          have hj2 : (j : Int) < nl := by omega
          have hpw : p' ≠ w.heap.size + 1 := by omega
          clear hx5 hxv hxv2 hx hy
          by_cases hxk : x = key
          · subst hxk
            have hbe : (x == x) = true := by simp
            have T3 := Lib.hid (T1.out rfl HNE.out); clear T1 T2
            go_wp2_with fail
            obtain ⟨wf, hwf⟩ : ∃ wf, wf = set5 W2 (w.heap.size + 1) 0 (.int .i64 y.kind) (.int .i64 y.num) (.string ⟨y.text.toArray⟩) (.slice u1 y.list.length u2) (.slice u3 y.keys.length u4) := ⟨_, rfl⟩
            change bodyPost _ _ _ _ _ (set5 W2 (w.heap.size + 1) 0 (.int .i64 y.kind) (.int .i64 y.num) (.string ⟨y.text.toArray⟩) (.slice u1 y.list.length u2) (.slice u3 y.keys.length u4))
            rw [← hwf]
            have hy : wf.heap[w.heap.size + 1]? = some (.cells #[.int .i64 y.kind, .int .i64 y.num, .string ⟨y.text.toArray⟩, .slice u1 y.list.length u2, .slice u3 y.keys.length u4] 25 (0, 0)) := by rw [hwf]; exact set5_here X2.out
            have hbf : Below w.heap.size w wf := by rw [hwf]; exact HB0.out.trans (set5_below (by omega))
            have hvf : VIs wf L N y [.int .i64 y.kind, .int .i64 y.num, .string ⟨y.text.toArray⟩, .slice u1 y.list.length u2, .slice u3 y.keys.length u4] :=
              HXV.out.keep fun p hp => World.cell?_of_block (w := W2) (by rw [hwf]; exact set5_there (by omega))
            obtain ⟨⟨g0, g1, g2, g3, g4⟩, -⟩ := box_of hy
            have e : F = some y := HF.out.symm.trans T3.out
            subst e
            have HBF := Lib.hid hbf; have HVF := Lib.hid hvf
            clear hbf hvf hwf hy p0 p1 p2 p3 p4 q0 q1 q2 q3 q4 e0 e1 e2 e3 e4 m0 m1 m2 m3 m4
            refine bodyPost_ret (v := .tuple #[.agg #[.int .i64 y.kind, .int .i64 y.num, .string ⟨y.text.toArray⟩, .slice u1 y.list.length u2, .slice u3 y.keys.length u4], .bool true]) (by simp [results, Tryd.results20, go_sem, g0, g1, g2, g3, g4]) rfl ?_
            exact ⟨⟨_, _, _, _, _, _, _, _, _, rfl, HVF.out⟩, HBF.out⟩
          · have hbe : (x == key) = false := by rw [beq_eq_false_iff_ne]; exact hxk
            have T3 := Lib.hid (T2.out hxk); clear T1 T2 hxk
            go_wp2_with fail
            exact ⟨⟨j + 1, by omega, by go_num, T3.out, trivial⟩, by simp [intOf]; omega⟩
        · have T3 := Lib.hid (MISS.out j (.inr (by have := NL.out; omega)) HNE.out)
          have d1 : decide ((j : Int) < (nl : Int)) = false := by simp; omega
          have d2 : decide ((j : Int) < (nk : Int)) = true := by simp; omega
          have e : F = none := HF.out.symm.trans T3.out
          subst e
          go_wp2_with fail
          obtain ⟨wf, hwf⟩ : ∃ wf, wf = set5 W2 (w.heap.size + 1) 0 (.int .i64 0) (.int .i64 0) (.string ⟨#[]⟩) (.slice none 0 0) (.slice none 0 0) := ⟨_, rfl⟩
          change bodyPost _ _ _ _ _ (set5 W2 (w.heap.size + 1) 0 (.int .i64 0) (.int .i64 0) (.string ⟨#[]⟩) (.slice none 0 0) (.slice none 0 0))
          rw [← hwf]
          have hy : wf.heap[w.heap.size + 1]? = some (.cells #[.int .i64 0, .int .i64 0, .string ⟨#[]⟩, .slice none 0 0, .slice none 0 0] 25 (0, 0)) := by rw [hwf]; exact set5_here X2.out
          have hbf : Below w.heap.size w wf := by rw [hwf]; exact HB0.out.trans (set5_below (by omega))
          obtain ⟨⟨g0, g1, g2, g3, g4⟩, -⟩ := box_of hy
          have HBF := Lib.hid hbf
          clear hbf hwf hy p0 p1 p2 p3 p4 q0 q1 q2 q3 q4 e0 e1 e2 e3 e4
          refine bodyPost_ret (v := .tuple #[.agg #[.int .i64 0, .int .i64 0, .string ⟨#[]⟩, .slice none 0 0, .slice none 0 0], .bool false]) (by simp [results, Tryd.results20, go_sem, g0, g1, g2, g3, g4]) rfl ?_
          exact ⟨⟨_, _, _, _, _, _, _, _, _, rfl, zero_isF _ _ _⟩, HBF.out⟩
      · obtain rfl : j = nk := by omega
        have T3 := Lib.hid (MISS.out j (.inl (by have := NK.out; omega)) HNE.out)
        have e : F = none := HF.out.symm.trans T3.out
        subst e
        go_wp2_with fail
        obtain ⟨wf, hwf⟩ : ∃ wf, wf = set5 W2 (w.heap.size + 1) 0 (.int .i64 0) (.int .i64 0) (.string ⟨#[]⟩) (.slice none 0 0) (.slice none 0 0) := ⟨_, rfl⟩
        change bodyPost _ _ _ _ _ (set5 W2 (w.heap.size + 1) 0 (.int .i64 0) (.int .i64 0) (.string ⟨#[]⟩) (.slice none 0 0) (.slice none 0 0))
        rw [← hwf]
        have hy : wf.heap[w.heap.size + 1]? = some (.cells #[.int .i64 0, .int .i64 0, .string ⟨#[]⟩, .slice none 0 0, .slice none 0 0] 25 (0, 0)) := by rw [hwf]; exact set5_here X2.out
        have hbf : Below w.heap.size w wf := by rw [hwf]; exact HB0.out.trans (set5_below (by omega))
        obtain ⟨⟨g0, g1, g2, g3, g4⟩, -⟩ := box_of hy
        have HBF := Lib.hid hbf
        clear hbf hwf hy p0 p1 p2 p3 p4 q0 q1 q2 q3 q4 e0 e1 e2 e3 e4
        refine bodyPost_ret (v := .tuple #[.agg #[.int .i64 0, .int .i64 0, .string ⟨#[]⟩, .slice none 0 0, .slice none 0 0], .bool false]) (by simp [results, Tryd.results20, go_sem, g0, g1, g2, g3, g4]) rfl ?_
        exact ⟨⟨_, _, _, _, _, _, _, _, _, rfl, zero_isF _ _ _⟩, HBF.out⟩
  · have d6 : (k == 6) = false := by simpa using hk6
    have e : F = none := HF.out.symm.trans (fieldV_not hk6)
    subst e
    clear hk6
    go_enter Tryd.func20, Tryd.ntmps20
    go_wp2_with fail
    rw [← HW2.out]
    go_loopw [6] (fun i wr => i = .int .i64 0 ∧ W2 = wr) (fun i _ => 0)
    case atStart => exact ⟨rfl, rfl⟩
    case round =>
      obtain ⟨rfl, rfl⟩ := hrel
      obtain ⟨⟨e0, e1, e2, e3, e4⟩, -⟩ := box_of X1.out
      obtain ⟨⟨p0, p1, p2, p3, p4⟩, q0, q1, q2, q3, q4⟩ := box_of X2.out
      go_wp2_with fail
      obtain ⟨wf, hwf⟩ : ∃ wf, wf = set5 W2 (w.heap.size + 1) 0 (.int .i64 0) (.int .i64 0) (.string ⟨#[]⟩) (.slice none 0 0) (.slice none 0 0) := ⟨_, rfl⟩
      change bodyPost _ _ _ _ _ (set5 W2 (w.heap.size + 1) 0 (.int .i64 0) (.int .i64 0) (.string ⟨#[]⟩) (.slice none 0 0) (.slice none 0 0))
      rw [← hwf]
      have hy : wf.heap[w.heap.size + 1]? = some (.cells #[.int .i64 0, .int .i64 0, .string ⟨#[]⟩, .slice none 0 0, .slice none 0 0] 25 (0, 0)) := by rw [hwf]; exact set5_here X2.out
      have hbf : Below w.heap.size w wf := by rw [hwf]; exact HB0.out.trans (set5_below (by omega))
      obtain ⟨⟨g0, g1, g2, g3, g4⟩, -⟩ := box_of hy
      have HBF := Lib.hid hbf
      clear hbf hwf hy p0 p1 p2 p3 p4 q0 q1 q2 q3 q4 e0 e1 e2 e3 e4
      refine bodyPost_ret (v := .tuple #[.agg #[.int .i64 0, .int .i64 0, .string ⟨#[]⟩, .slice none 0 0, .slice none 0 0], .bool false]) (by simp [results, Tryd.results20, go_sem, g0, g1, g2, g3, g4]) rfl ?_
      exact ⟨⟨_, _, _, _, _, _, _, _, _, rfl, zero_isF _ _ _⟩, HBF.out⟩
end Go.Proofs.YtoijjcbcmjdggaaDoor
