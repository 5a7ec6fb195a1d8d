/- Texts merged by program, in build order: JsonRField, JsonRFits. -/
import Derived.Test.YtobicmpgfiddhaaDoorJsonRSame
import Derived.Test.YtobicmpgfiddhaaDoorKeyAt
import Derived.Test.YtobicmpgfiddhaaDoorJsonSet
import Derived.Test.YtobicmpgfiddhaaDoorJsonGood
import Derived.Deep.RegionHeld3
namespace Go.Proofs.YtobicmpgfiddhaaDoor
open Go.RowKit
set_option linter.unusedVariables false
set_option linter.unusedSimpArgs false

theorem zero_isF (w : World) (L N : Nat) : VIs w L N V.zero [.int .i64 0, .int .i64 0, .string ⟨#[]⟩, .slice none 0 0, .slice none 0 0] := VIs.mk (t := []) (l := []) (ks := []) ⟨by simp, by simp, by simp, by simp⟩ (.inl rfl) (.inl rfl)
theorem fieldV_hit {key : List UInt8} {n : Int} {t : List UInt8} {l : List V} {ks : List (List UInt8)} {j : Nat} (hj : j < ks.length) (hl : j < l.length) (h : ks[j] = key) (hne : ∀ i (hi : i < ks.length), i < j → ks[i] ≠ key) : fieldV key (.mk 6 n t l ks) = some l[j] := by
  show (if (6 : Int) = 6 ∧ keyAt key ks < ks.length then l[keyAt key ks]? else none) = _
  rw [keyAt_is key ks j hj h hne, if_pos ⟨rfl, hj⟩, List.getElem?_eq_getElem hl]
theorem fieldV_miss {key : List UInt8} {n : Int} {t : List UInt8} {l : List V} {ks : List (List UInt8)} {j : Nat} (hj : ks.length ≤ j ∨ l.length ≤ j) (hne : ∀ i (hi : i < ks.length), i < j → ks[i] ≠ key) : fieldV key (.mk 6 n t l ks) = none := by
  show (if (6 : Int) = 6 ∧ keyAt key ks < ks.length then l[keyAt key ks]? else none) = _
  by_cases h : keyAt key ks < ks.length
  · rw [if_pos ⟨rfl, h⟩]
    refine List.getElem?_eq_none ?_
    rcases Nat.lt_or_ge (keyAt key ks) j with h' | h'
    · exact absurd (keyAt_hit key ks h) (hne _ h h')
    · rcases hj with hj | hj <;> omega
  · rw [if_neg (fun e => h e.2)]
theorem fieldV_not {key : List UInt8} {k n : Int} {t : List UInt8} {l : List V} {ks : List (List UInt8)} (h : k ≠ 6) : fieldV key (.mk k n t l ks) = none := by
  show (if k = 6 ∧ keyAt key ks < ks.length then l[keyAt key ks]? else none) = _
  rw [if_neg (fun e => h e.1)]
set_option maxRecDepth 100000 in
set_option maxHeartbeats 40000000 in
theorem refField_any (v : V) (key : List UInt8) (w : World) (L N : Nat) (cs : List Value) (hv : VIs w L N v cs) (hN : N ≤ w.heap.size) :
    Calls Tryd.prog 17 #[.agg cs.toArray, .string ⟨key.toArray⟩] w fun e w' => (∃ k n t A a b A' a' b', e = .returned (.tuple #[.agg #[.int .i64 k, .int .i64 n, .string t, .slice A a b, .slice A' a' b'], .bool (fieldV key v).isSome]) ∧
      VIs w' L N ((fieldV key v).getD V.zero) [.int .i64 k, .int .i64 n, .string t, .slice A a b, .slice A' a' b']) ∧ Below w.heap.size w w' := by
  obtain ⟨k, n, t, l, ks⟩ := v
  obtain ⟨⟨ml, mk, -, -⟩, A, c, A', c', rfl, h1, h2⟩ := hv.out
  have HIT := Lib.hid (fun (j : Nat) (hj : j < ks.length) (hl : j < l.length) (h : ks[j] = key) (hne : ∀ i (hi : i < ks.length), i < j → ks[i] ≠ key) => fieldV_hit (n := n) (t := t) hj hl h hne)
  have MISS := Lib.hid (fun (j : Nat) (hj : ks.length ≤ j ∨ l.length ≤ j) (hne : ∀ i (hi : i < ks.length), i < j → ks[i] ≠ key) => fieldV_miss (key := key) (n := n) (t := t) hj hne)
  obtain ⟨nl, hnl⟩ : ∃ nl, l.length = nl := ⟨_, rfl⟩
  obtain ⟨nk, hnk⟩ : ∃ nk, ks.length = nk := ⟨_, rfl⟩
  rw [hnl] at ml ⊢
  rw [hnk] at mk ⊢
  obtain ⟨F, hF⟩ : ∃ F, fieldV key (.mk k n t l ks) = F := ⟨_, rfl⟩
  rw [hF]
  have hb0 := ((Below.refl w.heap.size w).alloc (Nat.le_refl _) (.cells #[.int .i64 k, .int .i64 n, .string ⟨t.toArray⟩, .slice A nl c, .slice A' nk c'] 25)).alloc (by simp) (.cells #[.int .i64 0, .int .i64 0, .string ⟨#[]⟩, .slice none 0 0, .slice none 0 0] 25)
  obtain ⟨W2, hW2⟩ : ∃ W2, W2 = ((w.alloc (.cells #[.int .i64 k, .int .i64 n, .string ⟨t.toArray⟩, .slice A nl c, .slice A' nk c'] 25)).alloc (.cells #[.int .i64 0, .int .i64 0, .string ⟨#[]⟩, .slice none 0 0, .slice none 0 0] 25)) := ⟨_, rfl⟩
  rw [← hW2] at hb0
  have x1 : W2.heap[w.heap.size]? = some (.cells #[.int .i64 k, .int .i64 n, .string ⟨t.toArray⟩, .slice A nl c, .slice A' nk c'] 25 (0, 0)) := by
    rw [hW2, Below.heap_alloc _ _ _ (by simp)]; exact heap_alloc_last w _
  have x2 : W2.heap[w.heap.size + 1]? = some (.cells #[.int .i64 0, .int .i64 0, .string ⟨#[]⟩, .slice none 0 0, .slice none 0 0] 25 (0, 0)) := by
    rw [hW2]
    have := heap_alloc_last (w.alloc (.cells #[.int .i64 k, .int .i64 n, .string ⟨t.toArray⟩, .slice A nl c, .slice A' nk c'] 25)) (.cells #[.int .i64 0, .int .i64 0, .string ⟨#[]⟩, .slice none 0 0, .slice none 0 0] 25)
    simpa using this
  have HW2 := Lib.hid hW2; have HB0 := Lib.hid hb0; have X1 := Lib.hid x1; have X2 := Lib.hid x2; have NL := Lib.hid hnl; have NK := Lib.hid hnk; have H1 := Lib.hid h1; have H2 := Lib.hid h2; have HF := Lib.hid hF
  clear hv h1 h2 hW2 hb0 x1 x2 hnl hnk hF
  by_cases hk6 : k = 6
  · subst hk6
    go_enter Tryd.func17, Tryd.ntmps17
    go_wp2_with fail
    rw [← HW2.out]
    go_loopw [6] (fun i wr => ∃ j : Nat, j ≤ nk ∧ i = .int .i64 j ∧ (∀ i (hi : i < ks.length), i < j → ks[i] ≠ key) ∧ W2 = wr) (fun i _ => nk - (intOf i).toNat)
    case atStart => exact ⟨0, Nat.zero_le _, rfl, fun _ _ h => absurd h (Nat.not_lt_zero _), rfl⟩
    case round =>
      obtain ⟨j, hj, rfl, hne, rfl⟩ := hrel
      have HNE := Lib.hid hne
      clear hne
      obtain ⟨⟨e0, e1, e2, e3, e4⟩, -⟩ := box_of X1.out
      obtain ⟨⟨p0, p1, p2, p3, p4⟩, q0, q1, q2, q3, q4⟩ := box_of X2.out
      by_cases hjk : j < nk
      · by_cases hjl : j < nl
        · have hjk' : j < ks.length := by have := NK.out; omega
          have hjl' : j < l.length := by have := NL.out; omega
          obtain ⟨p, o, rfl, _, hpN, hc⟩ := VIs.key H1.out j hjk'
          obtain ⟨p', o', rfl, _, hpN', xs, hx5, hxv⟩ := VIs.item H2.out j hjl'
          have hc := (HB0.out.cell (p := ⟨p, o + j, none⟩) (by show p < _; omega)).trans hc
          have T1 := Lib.hid (HIT.out j hjk' hjl')
          have T2 := Lib.hid (fun (h : ks[j] ≠ key) i (hi : i < ks.length) (hij : i < j + 1) => (show ks[i] ≠ key from if e : i = j then by subst e; exact h else HNE.out i hi (by omega)))
          have hx6 := hx5.keep (w' := W2) hpN' (fun r hr => (HB0.out.mono hN).cell hr)
          have hxv2 := hxv.below (HB0.out.mono hN)
          obtain ⟨x, hx⟩ : ∃ x, ks[j] = x := ⟨_, rfl⟩
          rw [hx] at hc T1 T2
          obtain ⟨y, hy⟩ : ∃ y, l[j] = y := ⟨_, rfl⟩
          rw [hy] at hxv2 T1
          obtain ⟨u1, u2, u3, u4, rfl⟩ := hxv2.form
          obtain ⟨a0, a1, a2, a3, a4, ea, m0, m1, m2, m3, m4⟩ := hx6
          injection ea with ea0 ea; injection ea with ea1 ea; injection ea with ea2 ea; injection ea with ea3 ea; injection ea with ea4 ea
          subst ea0; subst ea1; subst ea2; subst ea3; subst ea4
          have HXV := Lib.hid hxv2
          have hj0 : (0 : Int) ≤ j := by omega
          have hj1 : (j : Int) < nk := by omega
          have hj2 : (j : Int) < nl := by omega
          have hpw : p' ≠ w.heap.size + 1 := by omega
          clear hx5 hxv hxv2 hx hy
          by_cases hxk : x = key
          · subst hxk
            have hbe : (x == x) = true := by simp
            have T3 := Lib.hid (T1.out rfl HNE.out); clear T1 T2
            go_wp2_with fail
            obtain ⟨wf, hwf⟩ : ∃ wf, wf = set5 W2 (w.heap.size + 1) 0 (.int .i64 y.kind) (.int .i64 y.num) (.string ⟨y.text.toArray⟩) (.slice u1 y.list.length u2) (.slice u3 y.keys.length u4) := ⟨_, rfl⟩
            change bodyPost _ _ _ _ _ (set5 W2 (w.heap.size + 1) 0 (.int .i64 y.kind) (.int .i64 y.num) (.string ⟨y.text.toArray⟩) (.slice u1 y.list.length u2) (.slice u3 y.keys.length u4))
            rw [← hwf]
            have hy : wf.heap[w.heap.size + 1]? = some (.cells #[.int .i64 y.kind, .int .i64 y.num, .string ⟨y.text.toArray⟩, .slice u1 y.list.length u2, .slice u3 y.keys.length u4] 25 (0, 0)) := by rw [hwf]; exact set5_here X2.out
            have hbf : Below w.heap.size w wf := by rw [hwf]; exact HB0.out.trans (set5_below (by omega))
            have hvf : VIs wf L N y [.int .i64 y.kind, .int .i64 y.num, .string ⟨y.text.toArray⟩, .slice u1 y.list.length u2, .slice u3 y.keys.length u4] :=
              HXV.out.keep fun p hp => World.cell?_of_block (w := W2) (by rw [hwf]; exact set5_there (by omega))
            obtain ⟨⟨g0, g1, g2, g3, g4⟩, -⟩ := box_of hy
            have e : F = some y := HF.out.symm.trans T3.out
            subst e
            have HBF := Lib.hid hbf; have HVF := Lib.hid hvf
            clear hbf hvf hwf hy p0 p1 p2 p3 p4 q0 q1 q2 q3 q4 e0 e1 e2 e3 e4 m0 m1 m2 m3 m4
            refine bodyPost_ret (v := .tuple #[.agg #[.int .i64 y.kind, .int .i64 y.num, .string ⟨y.text.toArray⟩, .slice u1 y.list.length u2, .slice u3 y.keys.length u4], .bool true]) (by simp [results, Tryd.results17, go_sem, g0, g1, g2, g3, g4]) rfl ?_
            exact ⟨⟨_, _, _, _, _, _, _, _, _, rfl, HVF.out⟩, HBF.out⟩
          · have hbe : (x == key) = false := by rw [beq_eq_false_iff_ne]; exact hxk
            have T3 := Lib.hid (T2.out hxk); clear T1 T2 hxk
            go_wp2_with fail
            exact ⟨⟨j + 1, by omega, by go_num, T3.out, trivial⟩, by simp [intOf]; omega⟩
        · have T3 := Lib.hid (MISS.out j (.inr (by have := NL.out; omega)) HNE.out)
          have d1 : decide ((j : Int) < (nl : Int)) = false := by simp; omega
          have d2 : decide ((j : Int) < (nk : Int)) = true := by simp; omega
          have e : F = none := HF.out.symm.trans T3.out
          subst e
          go_wp2_with fail
          obtain ⟨wf, hwf⟩ : ∃ wf, wf = set5 W2 (w.heap.size + 1) 0 (.int .i64 0) (.int .i64 0) (.string ⟨#[]⟩) (.slice none 0 0) (.slice none 0 0) := ⟨_, rfl⟩
          change bodyPost _ _ _ _ _ (set5 W2 (w.heap.size + 1) 0 (.int .i64 0) (.int .i64 0) (.string ⟨#[]⟩) (.slice none 0 0) (.slice none 0 0))
          rw [← hwf]
          have hy : wf.heap[w.heap.size + 1]? = some (.cells #[.int .i64 0, .int .i64 0, .string ⟨#[]⟩, .slice none 0 0, .slice none 0 0] 25 (0, 0)) := by rw [hwf]; exact set5_here X2.out
          have hbf : Below w.heap.size w wf := by rw [hwf]; exact HB0.out.trans (set5_below (by omega))
          obtain ⟨⟨g0, g1, g2, g3, g4⟩, -⟩ := box_of hy
          have HBF := Lib.hid hbf
          clear hbf hwf hy p0 p1 p2 p3 p4 q0 q1 q2 q3 q4 e0 e1 e2 e3 e4
          refine bodyPost_ret (v := .tuple #[.agg #[.int .i64 0, .int .i64 0, .string ⟨#[]⟩, .slice none 0 0, .slice none 0 0], .bool false]) (by simp [results, Tryd.results17, go_sem, g0, g1, g2, g3, g4]) rfl ?_
          exact ⟨⟨_, _, _, _, _, _, _, _, _, rfl, zero_isF _ _ _⟩, HBF.out⟩
      · obtain rfl : j = nk := by omega
        have T3 := Lib.hid (MISS.out j (.inl (by have := NK.out; omega)) HNE.out)
        have e : F = none := HF.out.symm.trans T3.out
        subst e
        go_wp2_with fail
        obtain ⟨wf, hwf⟩ : ∃ wf, wf = set5 W2 (w.heap.size + 1) 0 (.int .i64 0) (.int .i64 0) (.string ⟨#[]⟩) (.slice none 0 0) (.slice none 0 0) := ⟨_, rfl⟩
        change bodyPost _ _ _ _ _ (set5 W2 (w.heap.size + 1) 0 (.int .i64 0) (.int .i64 0) (.string ⟨#[]⟩) (.slice none 0 0) (.slice none 0 0))
        rw [← hwf]
        have hy : wf.heap[w.heap.size + 1]? = some (.cells #[.int .i64 0, .int .i64 0, .string ⟨#[]⟩, .slice none 0 0, .slice none 0 0] 25 (0, 0)) := by rw [hwf]; exact set5_here X2.out
        have hbf : Below w.heap.size w wf := by rw [hwf]; exact HB0.out.trans (set5_below (by omega))
        obtain ⟨⟨g0, g1, g2, g3, g4⟩, -⟩ := box_of hy
        have HBF := Lib.hid hbf
        clear hbf hwf hy p0 p1 p2 p3 p4 q0 q1 q2 q3 q4 e0 e1 e2 e3 e4
        refine bodyPost_ret (v := .tuple #[.agg #[.int .i64 0, .int .i64 0, .string ⟨#[]⟩, .slice none 0 0, .slice none 0 0], .bool false]) (by simp [results, Tryd.results17, go_sem, g0, g1, g2, g3, g4]) rfl ?_
        exact ⟨⟨_, _, _, _, _, _, _, _, _, rfl, zero_isF _ _ _⟩, HBF.out⟩
  · have d6 : (k == 6) = false := by simpa using hk6
    have e : F = none := HF.out.symm.trans (fieldV_not hk6)
    subst e
    clear hk6
    go_enter Tryd.func17, Tryd.ntmps17
    go_wp2_with fail
    rw [← HW2.out]
    go_loopw [6] (fun i wr => i = .int .i64 0 ∧ W2 = wr) (fun i _ => 0)
    case atStart => exact ⟨rfl, rfl⟩
    case round =>
      obtain ⟨rfl, rfl⟩ := hrel
      obtain ⟨⟨e0, e1, e2, e3, e4⟩, -⟩ := box_of X1.out
      obtain ⟨⟨p0, p1, p2, p3, p4⟩, q0, q1, q2, q3, q4⟩ := box_of X2.out
      go_wp2_with fail
      obtain ⟨wf, hwf⟩ : ∃ wf, wf = set5 W2 (w.heap.size + 1) 0 (.int .i64 0) (.int .i64 0) (.string ⟨#[]⟩) (.slice none 0 0) (.slice none 0 0) := ⟨_, rfl⟩
      change bodyPost _ _ _ _ _ (set5 W2 (w.heap.size + 1) 0 (.int .i64 0) (.int .i64 0) (.string ⟨#[]⟩) (.slice none 0 0) (.slice none 0 0))
      rw [← hwf]
      have hy : wf.heap[w.heap.size + 1]? = some (.cells #[.int .i64 0, .int .i64 0, .string ⟨#[]⟩, .slice none 0 0, .slice none 0 0] 25 (0, 0)) := by rw [hwf]; exact set5_here X2.out
      have hbf : Below w.heap.size w wf := by rw [hwf]; exact HB0.out.trans (set5_below (by omega))
      obtain ⟨⟨g0, g1, g2, g3, g4⟩, -⟩ := box_of hy
      have HBF := Lib.hid hbf
      clear hbf hwf hy p0 p1 p2 p3 p4 q0 q1 q2 q3 q4 e0 e1 e2 e3 e4
      refine bodyPost_ret (v := .tuple #[.agg #[.int .i64 0, .int .i64 0, .string ⟨#[]⟩, .slice none 0 0, .slice none 0 0], .bool false]) (by simp [results, Tryd.results17, go_sem, g0, g1, g2, g3, g4]) rfl ?_
      exact ⟨⟨_, _, _, _, _, _, _, _, _, rfl, zero_isF _ _ _⟩, HBF.out⟩
end Go.Proofs.YtobicmpgfiddhaaDoor
namespace Go.Proofs.YtobicmpgfiddhaaDoor
open Go.RowKit
set_option linter.unusedVariables false
set_option linter.unusedSimpArgs false

/-- what a value must be by itself, by lengths -/
def headD (k n : Int) (te : Bool) (ll lk : Nat) (U : Bool) : Bool :=
  decide (1 ≤ k ∧ k ≤ 6) && decide (k = 2 → n = 0 ∨ n = 1) && decide (k = 3 → -9007199254740992 ≤ n ∧ n ≤ 9007199254740992) && decide (k ≠ 2 → k ≠ 3 → n = 0) &&
  (decide (k = 4) || te) && decide (k ≠ 5 → k ≠ 6 → ll = 0) && decide (ll ≤ 64) && decide (k = 6 → lk = ll) && decide (k ≠ 6 → lk = 0) && U
theorem headD_eq (k n : Int) (t : List UInt8) (ll : Nat) (ks : List (List UInt8)) : headB k n t ll ks = headD k n t.isEmpty ll ks.length (unlikeB ks) := by
  unfold headB headD
  have e1 : decide (k ≠ 4 → t = []) = (decide (k = 4) || t.isEmpty) := by
    by_cases h : k = 4 <;> cases t <;> simp [h]
  have e2 : decide (k ≠ 6 → ks = []) = decide (k ≠ 6 → ks.length = 0) := by
    cases ks <;> simp
  rw [e1, e2]
theorem nodup_next {ks : List (List UInt8)} {j : Nat} (h : (ks.take j).Nodup) (hj : j < ks.length) (hne : ∀ s (hs : s < ks.length), s < j → ks[s] ≠ ks[j]) : (ks.take (j + 1)).Nodup := by
  rw [List.take_succ_eq_append_getElem hj, List.nodup_append]
  refine ⟨h, by simp, fun a ha b hb => ?_⟩
  obtain rfl := List.mem_singleton.1 hb
  obtain ⟨s, hs, rfl⟩ := List.mem_iff_getElem.1 ha
  rw [List.length_take] at hs
  rw [List.getElem_take]
  exact hne s (by omega) (by omega)
theorem unlike_yes {ks : List (List UInt8)} {j : Nat} (h : (ks.take j).Nodup) (hj : ks.length ≤ j) : unlikeB ks = true := by
  rw [List.take_of_length_le hj] at h
  exact (unlike_nodup ks).2 h
theorem unlike_no {ks : List (List UInt8)} {s j : Nat} (hs : s < ks.length) (hj : j < ks.length) (hlt : s < j) (h : ks[s] = ks[j]) : unlikeB ks = false := by
  cases hu : unlikeB ks with
  | false => rfl
  | true =>
    have hn := (unlike_nodup ks).1 hu
    have := (List.nodup_iff_pairwise_ne.1 hn)
    rw [List.pairwise_iff_getElem] at this
    exact absurd h (this s j hs hj hlt)
theorem fitsAll_at (l : List V) (d : Nat) : V.fitsAll l d = true ↔ ∀ i (h : i < l.length), l[i].fits d = true := by
  rw [fitsAll_iff]
  exact ⟨fun h i hi => h _ (List.getElem_mem hi), fun h v hv => by
    obtain ⟨i, hi, rfl⟩ := List.mem_iff_getElem.1 hv
    exact h i hi⟩
theorem all_no {l : List V} {d i : Nat} (hi : i < l.length) (h : l[i].fits d = false) : V.fitsAll l d = false := by
  cases hu : V.fitsAll l d with
  | false => rfl
  | true => rw [(fitsAll_at l d).1 hu i hi] at h; cases h
set_option maxRecDepth 100000 in
set_option maxHeartbeats 20000000 in
theorem refFits_at (m : Nat) : ∀ (v : V) (d : Nat) (w : World) (L N : Nat) (cs : List Value), v.size ≤ m → d ≤ 1000000 → VIs w L N v cs → N ≤ w.heap.size →
    Calls Tryd.prog 11 #[.agg cs.toArray, .int .i64 (d : Int)] w fun e w' => e = .returned (.bool (v.fits d)) ∧ Below w.heap.size w w' := by
  induction m with
  | zero => intro v d w L N cs hm; exact absurd (size_pos v) (by omega)
  | succ m ih =>
  intro v d w L N cs hm hd hv hN
  obtain ⟨k, n, t, l, ks⟩ := v
  obtain ⟨⟨ml, mk, mt, mx⟩, A, c, A', c', rfl, h1, h2⟩ := hv.out
  have hb0 := (Below.refl w.heap.size w).alloc (Nat.le_refl _) (.cells #[.int .i64 k, .int .i64 n, .string ⟨t.toArray⟩, .slice A l.length c, .slice A' ks.length c'] 25)
  have x1 := Box.new w (.int .i64 k) (.int .i64 n) (.string ⟨t.toArray⟩) (.slice A l.length c) (.slice A' ks.length c') 25
  have hsz1 : w.heap.size + 1 ≤ (w.alloc (.cells #[.int .i64 k, .int .i64 n, .string ⟨t.toArray⟩, .slice A l.length c, .slice A' ks.length c'] 25)).heap.size := by simp
  have HB0 := Lib.hid hb0; have X1 := Lib.hid x1; have HS1 := Lib.hid hsz1; have HV := Lib.hid hv; have HM := Lib.hid hm
  clear hb0 x1 hsz1 hv mx hm
  cases d with
  | zero =>
    have e0 : (V.mk k n t l ks).fits 0 = false := fits_zero _
    rw [e0]
    clear e0
    go_enter Tryd.func11, Tryd.ntmps11
    go_wp2
    go_ret
    exact ⟨rfl, HB0.out⟩
  | succ d =>
  have hH : (V.mk k n t l ks).fits (d + 1) = (headD k n t.isEmpty l.length ks.length (unlikeB ks) && V.fitsAll l d) := by rw [fits_mk, headD_eq]
  generalize (V.mk k n t l ks).fits (d + 1) = H at *
  have UY := Lib.hid (fun (j : Nat) (h : (ks.take j).Nodup) (hj : ks.length ≤ j) => unlike_yes h hj)
  have UN := Lib.hid (fun (s j : Nat) (hs : s < ks.length) (hj : j < ks.length) (hlt : s < j) (h : ks[s] = ks[j]) => unlike_no hs hj hlt h)
  have FY := Lib.hid (fitsAll_at l d).2
  have FN := Lib.hid (fun (i : Nat) (hi : i < l.length) (h : l[i].fits d = false) => all_no hi h)
  generalize unlikeB ks = U at *
  generalize V.fitsAll l d = F at *
  obtain ⟨ll, hll⟩ : ∃ ll, l.length = ll := ⟨_, rfl⟩
  obtain ⟨lk, hlk⟩ : ∃ lk, ks.length = lk := ⟨_, rfl⟩
  rw [hll] at HB0 X1 HS1 ml hH ⊢
  rw [hlk] at HB0 X1 HS1 mk hH ⊢
  have HH := Lib.hid hH; have NL := Lib.hid hll; have NK := Lib.hid hlk; have H1 := Lib.hid h1; have H2 := Lib.hid h2
  clear hH hll hlk h1 h2
  obtain ⟨D, hD⟩ : ∃ D : Int, ((d + 1 : Nat) : Int) = D := ⟨_, rfl⟩
  rw [hD]
  have u1 : decide (D < 1) = false := decide_eq_false (by omega)
  have u2 : D - 1 = (d : Int) := by omega
  have u3 : IntKind.i64.wrap (d : Int) = (d : Int) := by rw [IntKind.wrap_i64]; omega
  have HD := Lib.hid hD
  clear hD
  by_cases hk : 1 ≤ k ∧ k ≤ 6
  · have hk' : k = 1 ∨ k = 2 ∨ k = 3 ∨ k = 4 ∨ k = 5 ∨ k = 6 := by omega
    clear hk
    rcases hk' with rfl | rfl | rfl | rfl | rfl | rfl
    · -- kind 1
      by_cases q1 : n = 0
      rotate_left
      · have d1 : (n == 0) = false := by simp; omega
        go_enter Tryd.func11, Tryd.ntmps11
        go_wp2
        go_ret
        exact ⟨ret_bool (HH.out.trans (by unfold headD; cases U <;> cases F <;> simp <;> omega)).symm, HB0.out⟩
      · subst q1
        cases t with
        | cons x r =>
          have d3 : ((x :: r) == ([] : List UInt8)) = false := rfl
          go_enter Tryd.func11, Tryd.ntmps11
          go_wp2
          go_ret
          exact ⟨ret_bool (HH.out.trans (by unfold headD; cases U <;> cases F <;> simp <;> omega)).symm, HB0.out⟩
        | nil =>
          cases ll with
          | succ ll =>
            have d4 : decide (0 < ((ll + 1 : Nat) : Int)) = true := decide_eq_true (by omega)
            go_enter Tryd.func11, Tryd.ntmps11
            go_wp2
            go_ret
            exact ⟨ret_bool (HH.out.trans (by unfold headD; cases U <;> cases F <;> simp <;> omega)).symm, HB0.out⟩
          | zero =>
            cases lk with
            | succ lk =>
              have d5 : decide (0 < ((lk + 1 : Nat) : Int)) = true := decide_eq_true (by omega)
              go_enter Tryd.func11, Tryd.ntmps11
              go_wp2
              go_ret
              exact ⟨ret_bool (HH.out.trans (by unfold headD; cases U <;> cases F <;> simp <;> omega)).symm, HB0.out⟩
            | zero =>
              have hl0 : l = [] := List.length_eq_zero_iff.1 NL.out
              have hk0 : ks = [] := List.length_eq_zero_iff.1 NK.out
              have HU := Lib.hid (UY.out 0 (by simp) (by rw [hk0]; exact Nat.le_refl _))
              have HF := Lib.hid (FY.out (fun s hs => by rw [hl0] at hs; exact absurd hs (Nat.not_lt_zero _)))
              clear hl0 hk0
              go_enter Tryd.func11, Tryd.ntmps11
              go_wp2
              go_loopw [6] (fun i wr => i = .int .i64 0 ∧ Box wr w.heap.size (.int .i64 1) (.int .i64 0) (.string ⟨#[]⟩) (.slice A 0 c) (.slice A' 0 c') ∧ Below w.heap.size w wr) (fun i _ => 0)
              case atStart => exact ⟨rfl, X1.out, HB0.out⟩
              case round =>
                obtain ⟨rfl, bx, hb⟩ := hrel
                have BX := Lib.hid bx
                obtain ⟨-, -, -, x3, x4⟩ := bx
                go_wp2
                go_loopw [8] (fun i wr => i = .int .i64 0 ∧ Box wr w.heap.size (.int .i64 1) (.int .i64 0) (.string ⟨#[]⟩) (.slice A 0 c) (.slice A' 0 c') ∧ Below w.heap.size w wr) (fun i _ => 0)
                case atStart => exact ⟨rfl, BX.out, hb⟩
                case round =>
                  clear x3 x4 hb
                  obtain ⟨rfl, bx, hb⟩ := hrel
                  obtain ⟨-, -, -, x3, x4⟩ := bx
                  go_wp2
                  go_ret
                  exact ⟨ret_bool (HH.out.trans (by rw [HU.out, HF.out]; unfold headD; simp <;> omega)).symm, hb⟩
    · -- kind 2
      by_cases q1 : n = 0 ∨ n = 1
      rotate_left
      · have d1 : (n == 0) = false := by simp; omega
        have d2 : (n == 1) = false := by simp; omega
        have d1b : (n != 0) = true := by simp; omega
        have d2b : (n != 1) = true := by simp; omega
        go_enter Tryd.func11, Tryd.ntmps11
        go_wp2
        go_ret
        exact ⟨ret_bool (HH.out.trans (by unfold headD; cases U <;> cases F <;> simp <;> omega)).symm, HB0.out⟩
      · rcases q1 with rfl | rfl
        · -- 0
          cases t with
          | cons x r =>
            have d3 : ((x :: r) == ([] : List UInt8)) = false := rfl
            go_enter Tryd.func11, Tryd.ntmps11
            go_wp2
            go_ret
            exact ⟨ret_bool (HH.out.trans (by unfold headD; cases U <;> cases F <;> simp <;> omega)).symm, HB0.out⟩
          | nil =>
            cases ll with
            | succ ll =>
              have d4 : decide (0 < ((ll + 1 : Nat) : Int)) = true := decide_eq_true (by omega)
              go_enter Tryd.func11, Tryd.ntmps11
              go_wp2
              go_ret
              exact ⟨ret_bool (HH.out.trans (by unfold headD; cases U <;> cases F <;> simp <;> omega)).symm, HB0.out⟩
            | zero =>
              cases lk with
              | succ lk =>
                have d5 : decide (0 < ((lk + 1 : Nat) : Int)) = true := decide_eq_true (by omega)
                go_enter Tryd.func11, Tryd.ntmps11
                go_wp2
                go_ret
                exact ⟨ret_bool (HH.out.trans (by unfold headD; cases U <;> cases F <;> simp <;> omega)).symm, HB0.out⟩
              | zero =>
                have hl0 : l = [] := List.length_eq_zero_iff.1 NL.out
                have hk0 : ks = [] := List.length_eq_zero_iff.1 NK.out
                have HU := Lib.hid (UY.out 0 (by simp) (by rw [hk0]; exact Nat.le_refl _))
                have HF := Lib.hid (FY.out (fun s hs => by rw [hl0] at hs; exact absurd hs (Nat.not_lt_zero _)))
                clear hl0 hk0
                go_enter Tryd.func11, Tryd.ntmps11
                go_wp2
                go_loopw [6] (fun i wr => i = .int .i64 0 ∧ Box wr w.heap.size (.int .i64 2) (.int .i64 0) (.string ⟨#[]⟩) (.slice A 0 c) (.slice A' 0 c') ∧ Below w.heap.size w wr) (fun i _ => 0)
                case atStart => exact ⟨rfl, X1.out, HB0.out⟩
                case round =>
                  obtain ⟨rfl, bx, hb⟩ := hrel
                  have BX := Lib.hid bx
                  obtain ⟨-, -, -, x3, x4⟩ := bx
                  go_wp2
                  go_loopw [8] (fun i wr => i = .int .i64 0 ∧ Box wr w.heap.size (.int .i64 2) (.int .i64 0) (.string ⟨#[]⟩) (.slice A 0 c) (.slice A' 0 c') ∧ Below w.heap.size w wr) (fun i _ => 0)
                  case atStart => exact ⟨rfl, BX.out, hb⟩
                  case round =>
                    clear x3 x4 hb
                    obtain ⟨rfl, bx, hb⟩ := hrel
                    obtain ⟨-, -, -, x3, x4⟩ := bx
                    go_wp2
                    go_ret
                    exact ⟨ret_bool (HH.out.trans (by rw [HU.out, HF.out]; unfold headD; simp <;> omega)).symm, hb⟩
        · -- 1
          cases t with
          | cons x r =>
            have d3 : ((x :: r) == ([] : List UInt8)) = false := rfl
            go_enter Tryd.func11, Tryd.ntmps11
            go_wp2
            go_ret
            exact ⟨ret_bool (HH.out.trans (by unfold headD; cases U <;> cases F <;> simp <;> omega)).symm, HB0.out⟩
          | nil =>
            cases ll with
            | succ ll =>
              have d4 : decide (0 < ((ll + 1 : Nat) : Int)) = true := decide_eq_true (by omega)
              go_enter Tryd.func11, Tryd.ntmps11
              go_wp2
              go_ret
              exact ⟨ret_bool (HH.out.trans (by unfold headD; cases U <;> cases F <;> simp <;> omega)).symm, HB0.out⟩
            | zero =>
              cases lk with
              | succ lk =>
                have d5 : decide (0 < ((lk + 1 : Nat) : Int)) = true := decide_eq_true (by omega)
                go_enter Tryd.func11, Tryd.ntmps11
                go_wp2
                go_ret
                exact ⟨ret_bool (HH.out.trans (by unfold headD; cases U <;> cases F <;> simp <;> omega)).symm, HB0.out⟩
              | zero =>
                have hl0 : l = [] := List.length_eq_zero_iff.1 NL.out
                have hk0 : ks = [] := List.length_eq_zero_iff.1 NK.out
                have HU := Lib.hid (UY.out 0 (by simp) (by rw [hk0]; exact Nat.le_refl _))
                have HF := Lib.hid (FY.out (fun s hs => by rw [hl0] at hs; exact absurd hs (Nat.not_lt_zero _)))
                clear hl0 hk0
                go_enter Tryd.func11, Tryd.ntmps11
                go_wp2
                go_loopw [6] (fun i wr => i = .int .i64 0 ∧ Box wr w.heap.size (.int .i64 2) (.int .i64 1) (.string ⟨#[]⟩) (.slice A 0 c) (.slice A' 0 c') ∧ Below w.heap.size w wr) (fun i _ => 0)
                case atStart => exact ⟨rfl, X1.out, HB0.out⟩
                case round =>
                  obtain ⟨rfl, bx, hb⟩ := hrel
                  have BX := Lib.hid bx
                  obtain ⟨-, -, -, x3, x4⟩ := bx
                  go_wp2
                  go_loopw [8] (fun i wr => i = .int .i64 0 ∧ Box wr w.heap.size (.int .i64 2) (.int .i64 1) (.string ⟨#[]⟩) (.slice A 0 c) (.slice A' 0 c') ∧ Below w.heap.size w wr) (fun i _ => 0)
                  case atStart => exact ⟨rfl, BX.out, hb⟩
                  case round =>
                    clear x3 x4 hb
                    obtain ⟨rfl, bx, hb⟩ := hrel
                    obtain ⟨-, -, -, x3, x4⟩ := bx
                    go_wp2
                    go_ret
                    exact ⟨ret_bool (HH.out.trans (by rw [HU.out, HF.out]; unfold headD; simp <;> omega)).symm, hb⟩
    · -- kind 3
      by_cases q1 : -9007199254740992 ≤ n
      rotate_left
      · have d1 : decide (n < -9007199254740992) = true := decide_eq_true (by omega)
        go_enter Tryd.func11, Tryd.ntmps11
        go_wp2
        go_ret
        exact ⟨ret_bool (HH.out.trans (by unfold headD; cases U <;> cases F <;> simp <;> omega)).symm, HB0.out⟩
      · have d1 : decide (n < -9007199254740992) = false := decide_eq_false (by omega)
        by_cases q2 : n ≤ 9007199254740992
        rotate_left
        · have d2 : decide (9007199254740992 < n) = true := decide_eq_true (by omega)
          go_enter Tryd.func11, Tryd.ntmps11
          go_wp2
          go_ret
          exact ⟨ret_bool (HH.out.trans (by unfold headD; cases U <;> cases F <;> simp <;> omega)).symm, HB0.out⟩
        · have d2 : decide (9007199254740992 < n) = false := decide_eq_false (by omega)
          cases t with
          | cons x r =>
            have d3 : ((x :: r) == ([] : List UInt8)) = false := rfl
            go_enter Tryd.func11, Tryd.ntmps11
            go_wp2
            go_ret
            exact ⟨ret_bool (HH.out.trans (by unfold headD; cases U <;> cases F <;> simp <;> omega)).symm, HB0.out⟩
          | nil =>
            cases ll with
            | succ ll =>
              have d4 : decide (0 < ((ll + 1 : Nat) : Int)) = true := decide_eq_true (by omega)
              go_enter Tryd.func11, Tryd.ntmps11
              go_wp2
              go_ret
              exact ⟨ret_bool (HH.out.trans (by unfold headD; cases U <;> cases F <;> simp <;> omega)).symm, HB0.out⟩
            | zero =>
              cases lk with
              | succ lk =>
                have d5 : decide (0 < ((lk + 1 : Nat) : Int)) = true := decide_eq_true (by omega)
                go_enter Tryd.func11, Tryd.ntmps11
                go_wp2
                go_ret
                exact ⟨ret_bool (HH.out.trans (by unfold headD; cases U <;> cases F <;> simp <;> omega)).symm, HB0.out⟩
              | zero =>
                have hl0 : l = [] := List.length_eq_zero_iff.1 NL.out
                have hk0 : ks = [] := List.length_eq_zero_iff.1 NK.out
                have HU := Lib.hid (UY.out 0 (by simp) (by rw [hk0]; exact Nat.le_refl _))
                have HF := Lib.hid (FY.out (fun s hs => by rw [hl0] at hs; exact absurd hs (Nat.not_lt_zero _)))
                clear hl0 hk0
                go_enter Tryd.func11, Tryd.ntmps11
                go_wp2
                go_loopw [6] (fun i wr => i = .int .i64 0 ∧ Box wr w.heap.size (.int .i64 3) (.int .i64 n) (.string ⟨#[]⟩) (.slice A 0 c) (.slice A' 0 c') ∧ Below w.heap.size w wr) (fun i _ => 0)
                case atStart => exact ⟨rfl, X1.out, HB0.out⟩
                case round =>
                  obtain ⟨rfl, bx, hb⟩ := hrel
                  have BX := Lib.hid bx
                  obtain ⟨-, -, -, x3, x4⟩ := bx
                  go_wp2
                  go_loopw [8] (fun i wr => i = .int .i64 0 ∧ Box wr w.heap.size (.int .i64 3) (.int .i64 n) (.string ⟨#[]⟩) (.slice A 0 c) (.slice A' 0 c') ∧ Below w.heap.size w wr) (fun i _ => 0)
                  case atStart => exact ⟨rfl, BX.out, hb⟩
                  case round =>
                    clear x3 x4 hb
                    obtain ⟨rfl, bx, hb⟩ := hrel
                    obtain ⟨-, -, -, x3, x4⟩ := bx
                    go_wp2
                    go_ret
                    exact ⟨ret_bool (HH.out.trans (by rw [HU.out, HF.out]; unfold headD; simp <;> omega)).symm, hb⟩
    · -- kind 4
      by_cases q1 : n = 0
      rotate_left
      · have d1 : (n == 0) = false := by simp; omega
        go_enter Tryd.func11, Tryd.ntmps11
        go_wp2
        go_ret
        exact ⟨ret_bool (HH.out.trans (by unfold headD; cases U <;> cases F <;> simp <;> omega)).symm, HB0.out⟩
      · subst q1
        cases ll with
        | succ ll =>
          have d4 : decide (0 < ((ll + 1 : Nat) : Int)) = true := decide_eq_true (by omega)
          go_enter Tryd.func11, Tryd.ntmps11
          go_wp2
          go_ret
          exact ⟨ret_bool (HH.out.trans (by unfold headD; cases U <;> cases F <;> simp <;> omega)).symm, HB0.out⟩
        | zero =>
          cases lk with
          | succ lk =>
            have d5 : decide (0 < ((lk + 1 : Nat) : Int)) = true := decide_eq_true (by omega)
            go_enter Tryd.func11, Tryd.ntmps11
            go_wp2
            go_ret
            exact ⟨ret_bool (HH.out.trans (by unfold headD; cases U <;> cases F <;> simp <;> omega)).symm, HB0.out⟩
          | zero =>
            have hl0 : l = [] := List.length_eq_zero_iff.1 NL.out
            have hk0 : ks = [] := List.length_eq_zero_iff.1 NK.out
            have HU := Lib.hid (UY.out 0 (by simp) (by rw [hk0]; exact Nat.le_refl _))
            have HF := Lib.hid (FY.out (fun s hs => by rw [hl0] at hs; exact absurd hs (Nat.not_lt_zero _)))
            clear hl0 hk0
            go_enter Tryd.func11, Tryd.ntmps11
            go_wp2
            go_loopw [6] (fun i wr => i = .int .i64 0 ∧ Box wr w.heap.size (.int .i64 4) (.int .i64 0) (.string ⟨t.toArray⟩) (.slice A 0 c) (.slice A' 0 c') ∧ Below w.heap.size w wr) (fun i _ => 0)
            case atStart => exact ⟨rfl, X1.out, HB0.out⟩
            case round =>
              obtain ⟨rfl, bx, hb⟩ := hrel
              have BX := Lib.hid bx
              obtain ⟨-, -, -, x3, x4⟩ := bx
              go_wp2
              go_loopw [8] (fun i wr => i = .int .i64 0 ∧ Box wr w.heap.size (.int .i64 4) (.int .i64 0) (.string ⟨t.toArray⟩) (.slice A 0 c) (.slice A' 0 c') ∧ Below w.heap.size w wr) (fun i _ => 0)
              case atStart => exact ⟨rfl, BX.out, hb⟩
              case round =>
                clear x3 x4 hb
                obtain ⟨rfl, bx, hb⟩ := hrel
                obtain ⟨-, -, -, x3, x4⟩ := bx
                go_wp2
                go_ret
                exact ⟨ret_bool (HH.out.trans (by rw [HU.out, HF.out]; unfold headD; simp <;> omega)).symm, hb⟩
    · -- kind 5
      by_cases q1 : n = 0
      rotate_left
      · have d1 : (n == 0) = false := by simp; omega
        go_enter Tryd.func11, Tryd.ntmps11
        go_wp2
        go_ret
        exact ⟨ret_bool (HH.out.trans (by unfold headD; cases U <;> cases F <;> simp <;> omega)).symm, HB0.out⟩
      · subst q1
        cases t with
        | cons x r =>
          have d3 : ((x :: r) == ([] : List UInt8)) = false := rfl
          go_enter Tryd.func11, Tryd.ntmps11
          go_wp2
          go_ret
          exact ⟨ret_bool (HH.out.trans (by unfold headD; cases U <;> cases F <;> simp <;> omega)).symm, HB0.out⟩
        | nil =>
          by_cases q4 : ll ≤ 64
          rotate_left
          · have d4 : decide ((64 : Int) < (ll : Int)) = true := decide_eq_true (by omega)
            go_enter Tryd.func11, Tryd.ntmps11
            go_wp2
            go_ret
            exact ⟨ret_bool (HH.out.trans (by unfold headD; cases U <;> cases F <;> simp <;> omega)).symm, HB0.out⟩
          · have d4 : decide ((64 : Int) < (ll : Int)) = false := decide_eq_false (by omega)
            cases lk with
            | succ lk =>
              have d5 : decide (0 < ((lk + 1 : Nat) : Int)) = true := decide_eq_true (by omega)
              go_enter Tryd.func11, Tryd.ntmps11
              go_wp2
              go_ret
              exact ⟨ret_bool (HH.out.trans (by unfold headD; cases U <;> cases F <;> simp <;> omega)).symm, HB0.out⟩
            | zero =>
              have hk0 : ks = [] := List.length_eq_zero_iff.1 NK.out
              have T3 := Lib.hid (UY.out 0 (by simp) (by rw [hk0]; exact Nat.le_refl _))
              have HG := Lib.hid (fun (hU : U = true) (hF : F = true) => HH.out.trans (by subst hU; subst hF; unfold headD; simp <;> omega) : U = true → F = true → H = true)
              have HN2 := Lib.hid (fun (hF : F = false) => HH.out.trans (by subst hF; simp) : F = false → H = false)
              clear hk0
              go_enter Tryd.func11, Tryd.ntmps11
              go_wp2
              go_loopw [6] (fun i wr => i = .int .i64 0 ∧ Box wr w.heap.size (.int .i64 5) (.int .i64 0) (.string ⟨#[]⟩) (.slice A ll c) (.slice A' 0 c') ∧ w.heap.size + 1 ≤ wr.heap.size ∧ Below w.heap.size w wr) (fun i _ => 0)
              case atStart => exact ⟨rfl, X1.out, HS1.out, HB0.out⟩
              case round =>
                obtain ⟨rfl, bx, hs, hb⟩ := hrel
                have BX := Lib.hid bx; have HBB := Lib.hid hb
                clear hb
                obtain ⟨-, -, -, x3, x4⟩ := bx
                go_wp2
                go_loopw [8] (fun i W => ∃ r : Nat, r ≤ ll ∧ i = .int .i64 r ∧ (∀ s (hs : s < l.length), s < r → l[s].fits d = true) ∧ Box W w.heap.size (.int .i64 5) (.int .i64 0) (.string ⟨#[]⟩) (.slice A ll c) (.slice A' 0 c') ∧ w.heap.size + 1 ≤ W.heap.size ∧ Below w.heap.size w W) (fun i _ => ll - (intOf i).toNat)
                case atStart => exact ⟨0, Nat.zero_le _, rfl, fun _ _ h => absurd h (Nat.not_lt_zero _), BX.out, hs, HBB.out⟩
                case round =>
                  clear x3 x4 hs BX HBB
                  obtain ⟨r, hr, rfl, hne, bx, hs, hb⟩ := hrel
                  have HNE := Lib.hid hne; have BX := Lib.hid bx; have HBB := Lib.hid hb; clear hne
                  obtain ⟨-, -, -, x3, x4⟩ := bx
                  by_cases hrt : r < ll
                  · have hrl : r < l.length := by have := NL.out; omega
                    obtain ⟨p, o, rfl, _, hpN, xs, hx5, hxv⟩ := VIs.item H2.out r hrl
                    have hbN := hb.mono hN
                    have hc := fun wq (hwq : Below w.heap.size w wq) => ih l[r] d wq L N xs (by have := HM.out; have := size_get (k := 5) (n := 0) (t := []) (ks := ks) r hrl; omega) (by omega) (hxv.below (hwq.mono hN)) (Nat.le_trans hN hwq.size)
                    have T1 := Lib.hid (FN.out r hrl)
                    have T2 := Lib.hid (fun (h : l[r].fits d = true) s (hs : s < l.length) (hsr : s < r + 1) => (show l[s].fits d = true from if e : s = r then by subst e; exact h else HNE.out s hs (by omega)))
                    obtain ⟨a0, a1, a2, a3, a4, rfl, m0, m1, m2, m3, m4⟩ := hx5.keep (w' := wr) hpN (fun p hp => hbN.cell hp)
                    obtain ⟨Q, hQ⟩ : ∃ Q, l[r].fits d = Q := ⟨_, rfl⟩
                    rw [hQ] at hc T1 T2
                    have HC := Lib.hid hc
                    have hr0 : (0 : Int) ≤ r := by omega
                    have hr1 : (r : Int) < ll := by omega
                    clear hc hQ hx5 hxv hb
                    go_wp2_with fail
                    refine (HC.out _ HBB.out).mono ?_
                    rintro e1 w1 ⟨rfl, hb1⟩
                    dsimp only
                    have hs1 := hb1.size
                    have BX1 := Lib.hid (BX.out.below (by omega) hb1)
                    have HB1 := Lib.hid (HBB.out.trans (hb1.mono (by omega)))
                    have HS2 := Lib.hid hs1
                    clear hb1 hs1 HC
                    cases Q with
                    | false =>
                      have T3b := Lib.hid (T1.out rfl); clear T1 T2
                      go_wp2
                      go_ret
                      exact ⟨ret_bool (HN2.out T3b.out).symm, HB1.out⟩
                    | true =>
                      have T3b := Lib.hid (T2.out rfl); clear T1 T2
                      go_wp2
                      go_roundw
                      case rel => exact ⟨r + 1, by omega, by go_num, T3b.out, BX1.out, by have := HS2.out; omega, HB1.out⟩
                      case measure => simp [intOf]; omega
                  · have T4 := Lib.hid (FY.out (fun s hs => HNE.out s hs (by have := NL.out; omega)))
                    obtain rfl : r = ll := by omega
                    go_wp2
                    go_ret
                    exact ⟨ret_bool (HG.out T3.out T4.out).symm, HBB.out⟩
    · -- kind 6
      by_cases q1 : n = 0
      rotate_left
      · have d1 : (n == 0) = false := by simp; omega
        go_enter Tryd.func11, Tryd.ntmps11
        go_wp2
        go_ret
        exact ⟨ret_bool (HH.out.trans (by unfold headD; cases U <;> cases F <;> simp <;> omega)).symm, HB0.out⟩
      · subst q1
        cases t with
        | cons x r =>
          have d3 : ((x :: r) == ([] : List UInt8)) = false := rfl
          go_enter Tryd.func11, Tryd.ntmps11
          go_wp2
          go_ret
          exact ⟨ret_bool (HH.out.trans (by unfold headD; cases U <;> cases F <;> simp <;> omega)).symm, HB0.out⟩
        | nil =>
          by_cases q4 : ll ≤ 64
          rotate_left
          · have d4 : decide ((64 : Int) < (ll : Int)) = true := decide_eq_true (by omega)
            go_enter Tryd.func11, Tryd.ntmps11
            go_wp2
            go_ret
            exact ⟨ret_bool (HH.out.trans (by unfold headD; cases U <;> cases F <;> simp <;> omega)).symm, HB0.out⟩
          · have d4 : decide ((64 : Int) < (ll : Int)) = false := decide_eq_false (by omega)
            by_cases q5 : lk = ll
            rotate_left
            · have d5 : ((lk : Int) == (ll : Int)) = false := by simp; omega
              go_enter Tryd.func11, Tryd.ntmps11
              go_wp2
              go_ret
              exact ⟨ret_bool (HH.out.trans (by unfold headD; cases U <;> cases F <;> simp <;> omega)).symm, HB0.out⟩
            · subst q5
              have HG := Lib.hid (fun (hU : U = true) (hF : F = true) => HH.out.trans (by subst hU; subst hF; unfold headD; simp <;> omega) : U = true → F = true → H = true)
              have HN1 := Lib.hid (fun (hU : U = false) => HH.out.trans (by subst hU; unfold headD; simp) : U = false → H = false)
              have HN2 := Lib.hid (fun (hF : F = false) => HH.out.trans (by subst hF; simp) : F = false → H = false)
              go_enter Tryd.func11, Tryd.ntmps11
              go_wp2
              go_loopw [6] (fun i wr => ∃ j : Nat, j ≤ lk ∧ i = .int .i64 j ∧ (ks.take j).Nodup ∧ Box wr w.heap.size (.int .i64 6) (.int .i64 0) (.string ⟨#[]⟩) (.slice A lk c) (.slice A' lk c') ∧ w.heap.size + 1 ≤ wr.heap.size ∧ Below w.heap.size w wr) (fun i _ => lk - (intOf i).toNat)
              case atStart => exact ⟨0, Nat.zero_le _, rfl, by simp, X1.out, HS1.out, HB0.out⟩
              case round =>
                obtain ⟨j, hj, rfl, hnd, bx, hs, hb⟩ := hrel
                have HND := Lib.hid hnd; have BX := Lib.hid bx; have HBB := Lib.hid hb; clear hnd hb
                obtain ⟨-, -, -, x3, x4⟩ := bx
                by_cases hlt : j < lk
                · have hjk : j < ks.length := by have := NK.out; omega
                  have NX := Lib.hid (nodup_next HND.out hjk)
                  have hj0 : (0 : Int) ≤ j := by omega
                  have hj1 : (j : Int) < lk := by omega
                  go_wp2_with fail
                  go_loopw [7] (fun i W => ∃ r : Nat, r ≤ j ∧ i = .int .i64 r ∧ (∀ s (hs : s < ks.length), s < r → ks[s] ≠ ks[j]) ∧ Box W w.heap.size (.int .i64 6) (.int .i64 0) (.string ⟨#[]⟩) (.slice A lk c) (.slice A' lk c') ∧ w.heap.size + 1 ≤ W.heap.size ∧ Below w.heap.size w W) (fun i _ => j - (intOf i).toNat)
                  case atStart => exact ⟨0, Nat.zero_le _, rfl, fun _ _ h => absurd h (Nat.not_lt_zero _), BX.out, hs, HBB.out⟩
                  case round =>
                    clear x3 x4 hs BX HBB HND
                    obtain ⟨r, hr, rfl, hne, bx, hs, hb⟩ := hrel
                    have HNE := Lib.hid hne; have BX := Lib.hid bx; have HBB := Lib.hid hb; clear hne
                    obtain ⟨-, -, -, x3, x4⟩ := bx
                    by_cases hrt : r < j
                    · have hrk : r < ks.length := by omega
                      obtain ⟨p, o, rfl, _, hpN, hc1⟩ := VIs.key H1.out j hjk
                      obtain ⟨p2, o2, e2, _, hpN2, hc2⟩ := VIs.key H1.out r hrk
                      injection e2 with e2; injection e2 with e2 e3; subst e2; subst e3
                      have hc1 := (hb.cell (p := ⟨p, o + j, none⟩) (by show p < _; omega)).trans hc1
                      have hc2 := (hb.cell (p := ⟨p, o + r, none⟩) (by show p < _; omega)).trans hc2
                      have T1 := Lib.hid (UN.out r j hrk hjk hrt)
                      have T2 := Lib.hid (fun (h : ks[r] ≠ ks[j]) s (hs : s < ks.length) (hsr : s < r + 1) => (show ks[s] ≠ ks[j] from if e : s = r then by subst e; exact h else HNE.out s hs (by omega)))
                      obtain ⟨x, hx⟩ : ∃ x, ks[j] = x := ⟨_, rfl⟩
                      obtain ⟨y, hy⟩ : ∃ y, ks[r] = y := ⟨_, rfl⟩
                      rw [hx] at hc1 T1 T2
                      rw [hy] at hc2 T1 T2
                      have HX := Lib.hid hx
                      have hr0 : (0 : Int) ≤ r := by omega
                      have hr1 : (r : Int) < lk := by omega
                      clear hx hy hb
                      by_cases hxy : x = y
                      · subst hxy
                        have hbe : (x == x) = true := by simp
                        have T3 := Lib.hid (T1.out rfl); clear T1 T2
                        go_wp2_with fail
                        go_region
                        all_goals
                          go_wp2
                          go_ret
                          exact ⟨ret_bool (HN1.out T3.out).symm, HBB.out.drew⟩
                      · have hbe : (x == y) = false := by simpa using hxy
                        have T3 := Lib.hid (T2.out (fun h => hxy h.symm)); clear hxy
                        go_wp2_with fail
                        go_region
                        all_goals
                          go_wp2
                          go_roundw
                          case rel => exact ⟨r + 1, by omega, by go_num, by rw [HX.out]; exact T3.out, BX.out, hs, HBB.out.drew⟩
                          case measure => simp [intOf]; omega
                    · obtain rfl : r = j := by omega
                      have T3 := Lib.hid (NX.out HNE.out)
                      clear NX HNE
                      go_wp2
                      go_roundw
                      case rel => exact ⟨r + 1, by omega, by go_num, T3.out, BX.out, hs, HBB.out⟩
                      case measure => simp [intOf]; omega
                · have T3 := Lib.hid (UY.out j HND.out (by have := NK.out; omega))
                  obtain rfl : j = lk := by omega
                  clear HND
                  go_wp2
                  go_loopw [8] (fun i W => ∃ r : Nat, r ≤ j ∧ i = .int .i64 r ∧ (∀ s (hs : s < l.length), s < r → l[s].fits d = true) ∧ Box W w.heap.size (.int .i64 6) (.int .i64 0) (.string ⟨#[]⟩) (.slice A j c) (.slice A' j c') ∧ w.heap.size + 1 ≤ W.heap.size ∧ Below w.heap.size w W) (fun i _ => j - (intOf i).toNat)
                  case atStart => exact ⟨0, Nat.zero_le _, rfl, fun _ _ h => absurd h (Nat.not_lt_zero _), BX.out, hs, HBB.out⟩
                  case round =>
                    clear x3 x4 hs BX HBB
                    obtain ⟨r, hr, rfl, hne, bx, hs, hb⟩ := hrel
                    have HNE := Lib.hid hne; have BX := Lib.hid bx; have HBB := Lib.hid hb; clear hne
                    obtain ⟨-, -, -, x3, x4⟩ := bx
                    by_cases hrt : r < j
                    · have hrl : r < l.length := by have := NL.out; omega
                      obtain ⟨p, o, rfl, _, hpN, xs, hx5, hxv⟩ := VIs.item H2.out r hrl
                      have hbN := hb.mono hN
                      have hc := fun wq (hwq : Below w.heap.size w wq) => ih l[r] d wq L N xs (by have := HM.out; have := size_get (k := 6) (n := 0) (t := []) (ks := ks) r hrl; omega) (by omega) (hxv.below (hwq.mono hN)) (Nat.le_trans hN hwq.size)
                      have T1 := Lib.hid (FN.out r hrl)
                      have T2 := Lib.hid (fun (h : l[r].fits d = true) s (hs : s < l.length) (hsr : s < r + 1) => (show l[s].fits d = true from if e : s = r then by subst e; exact h else HNE.out s hs (by omega)))
                      obtain ⟨a0, a1, a2, a3, a4, rfl, m0, m1, m2, m3, m4⟩ := hx5.keep (w' := wr) hpN (fun p hp => hbN.cell hp)
                      obtain ⟨Q, hQ⟩ : ∃ Q, l[r].fits d = Q := ⟨_, rfl⟩
                      rw [hQ] at hc T1 T2
                      have HC := Lib.hid hc
                      have hr0 : (0 : Int) ≤ r := by omega
                      have hr1 : (r : Int) < j := by omega
                      clear hc hQ hx5 hxv hb
                      go_wp2_with fail
                      refine (HC.out _ HBB.out).mono ?_
                      rintro e1 w1 ⟨rfl, hb1⟩
                      dsimp only
                      have hs1 := hb1.size
                      have BX1 := Lib.hid (BX.out.below (by omega) hb1)
                      have HB1 := Lib.hid (HBB.out.trans (hb1.mono (by omega)))
                      have HS2 := Lib.hid hs1
                      clear hb1 hs1 HC
                      cases Q with
                      | false =>
                        have T3b := Lib.hid (T1.out rfl); clear T1 T2
                        go_wp2
                        go_ret
                        exact ⟨ret_bool (HN2.out T3b.out).symm, HB1.out⟩
                      | true =>
                        have T3b := Lib.hid (T2.out rfl); clear T1 T2
                        go_wp2
                        go_roundw
                        case rel => exact ⟨r + 1, by omega, by go_num, T3b.out, BX1.out, by have := HS2.out; omega, HB1.out⟩
                        case measure => simp [intOf]; omega
                    · have T4 := Lib.hid (FY.out (fun s hs => HNE.out s hs (by have := NL.out; omega)))
                      obtain rfl : r = j := by omega
                      go_wp2
                      go_ret
                      exact ⟨ret_bool (HG.out T3.out T4.out).symm, HBB.out⟩
  · by_cases hk1 : k < 1
    · have d1 : decide (k < 1) = true := decide_eq_true hk1
      have hK := Lib.hid hk; clear hk hk1
      go_enter Tryd.func11, Tryd.ntmps11
      go_wp2
      go_ret
      exact ⟨ret_bool (HH.out.trans (by unfold headD; rw [decide_eq_false hK.out]; rfl)).symm, HB0.out⟩
    · have d1 : decide (k < 1) = false := decide_eq_false hk1
      have d2 : decide (6 < k) = true := decide_eq_true (by omega)
      have hK := Lib.hid hk; clear hk hk1
      go_enter Tryd.func11, Tryd.ntmps11
      go_wp2
      go_ret
      exact ⟨ret_bool (HH.out.trans (by unfold headD; rw [decide_eq_false hK.out]; rfl)).symm, HB0.out⟩
theorem refFits_any (v : V) (d : Nat) (w : World) (L N : Nat) (cs : List Value) (hd : d ≤ 1000000) (hv : VIs w L N v cs) (hN : N ≤ w.heap.size) :
    Calls Tryd.prog 11 #[.agg cs.toArray, .int .i64 (d : Int)] w fun e w' => e = .returned (.bool (v.fits d)) ∧ Below w.heap.size w w' :=
  refFits_at v.size v d w L N cs (Nat.le_refl _) hd hv hN
end Go.Proofs.YtobicmpgfiddhaaDoor
