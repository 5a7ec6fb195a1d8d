/- Texts merged by program, in build order: JsonRField, JsonGroup0, JsonRows, ClaimsRef. -/
import Derived.Test.YtcbajbpdgmmaeaaDoorC06
import Derived.Test.YtcbajbpdgmmaeaaDoorC04
import Derived.Maps.AppendAt
import Derived.Laws.AppendOwnNone
import Derived.Deep.WholeRow
namespace Go.Proofs.YtcbajbpdgmmaeaaDoor
open Go.RowKit
set_option linter.unusedVariables false
set_option linter.unusedSimpArgs false

theorem zero_isF (w : World) (L N : Nat) : VIs w L N V.zero [.int .i64 0, .int .i64 0, .string ⟨#[]⟩, .slice none 0 0, .slice none 0 0] := VIs.mk (t := []) (l := []) (ks := []) ⟨by simp, by simp, by simp, by simp⟩ (.inl rfl) (.inl rfl)
theorem fieldV_hit {key : List UInt8} {n : Int} {t : List UInt8} {l : List V} {ks : List (List UInt8)} {j : Nat} (hj : j < ks.length) (hl : j < l.length) (h : ks[j] = key) (hne : ∀ i (hi : i < ks.length), i < j → ks[i] ≠ key) : fieldV key (.mk 6 n t l ks) = some l[j] := by
  show (if (6 : Int) = 6 ∧ keyAt key ks < ks.length then l[keyAt key ks]? else none) = _
  rw [keyAt_is key ks j hj h hne, if_pos ⟨rfl, hj⟩, List.getElem?_eq_getElem hl]
theorem fieldV_miss {key : List UInt8} {n : Int} {t : List UInt8} {l : List V} {ks : List (List UInt8)} {j : Nat} (hj : ks.length ≤ j ∨ l.length ≤ j) (hne : ∀ i (hi : i < ks.length), i < j → ks[i] ≠ key) : fieldV key (.mk 6 n t l ks) = none := by
  show (if (6 : Int) = 6 ∧ keyAt key ks < ks.length then l[keyAt key ks]? else none) = _
  by_cases h : keyAt key ks < ks.length
  · rw [if_pos ⟨rfl, h⟩]
    refine List.getElem?_eq_none ?_
    rcases Nat.lt_or_ge (keyAt key ks) j with h' | h'
    · exact absurd (keyAt_hit key ks h) (hne _ h h')
    · rcases hj with hj | hj <;> omega
  · rw [if_neg (fun e => h e.2)]
theorem fieldV_not {key : List UInt8} {k n : Int} {t : List UInt8} {l : List V} {ks : List (List UInt8)} (h : k ≠ 6) : fieldV key (.mk k n t l ks) = none := by
  show (if k = 6 ∧ keyAt key ks < ks.length then l[keyAt key ks]? else none) = _
  rw [if_neg (fun e => h e.1)]
set_option maxRecDepth 100000 in
set_option maxHeartbeats 40000000 in
theorem refField_any (v : V) (key : List UInt8) (w : World) (L N : Nat) (cs : List Value) (hv : VIs w L N v cs) (hN : N ≤ w.heap.size) :
    Calls Tryd.prog 18 #[.agg cs.toArray, .string ⟨key.toArray⟩] w fun e w' => (∃ k n t A a b A' a' b', e = .returned (.tuple #[.agg #[.int .i64 k, .int .i64 n, .string t, .slice A a b, .slice A' a' b'], .bool (fieldV key v).isSome]) ∧
      VIs w' L N ((fieldV key v).getD V.zero) [.int .i64 k, .int .i64 n, .string t, .slice A a b, .slice A' a' b']) ∧ Below w.heap.size w w' := by
  obtain ⟨k, n, t, l, ks⟩ := v
  obtain ⟨⟨ml, mk, -, -⟩, A, c, A', c', rfl, h1, h2⟩ := hv.out
  have HIT := Lib.hid (fun (j : Nat) (hj : j < ks.length) (hl : j < l.length) (h : ks[j] = key) (hne : ∀ i (hi : i < ks.length), i < j → ks[i] ≠ key) => fieldV_hit (n := n) (t := t) hj hl h hne)
  have MISS := Lib.hid (fun (j : Nat) (hj : ks.length ≤ j ∨ l.length ≤ j) (hne : ∀ i (hi : i < ks.length), i < j → ks[i] ≠ key) => fieldV_miss (key := key) (n := n) (t := t) hj hne)
  obtain ⟨nl, hnl⟩ : ∃ nl, l.length = nl := ⟨_, rfl⟩
  obtain ⟨nk, hnk⟩ : ∃ nk, ks.length = nk := ⟨_, rfl⟩
  rw [hnl] at ml ⊢
  rw [hnk] at mk ⊢
  obtain ⟨F, hF⟩ : ∃ F, fieldV key (.mk k n t l ks) = F := ⟨_, rfl⟩
  rw [hF]
  have hb0 := ((Below.refl w.heap.size w).alloc (Nat.le_refl _) (.cells #[.int .i64 k, .int .i64 n, .string ⟨t.toArray⟩, .slice A nl c, .slice A' nk c'] 28)).alloc (by simp) (.cells #[.int .i64 0, .int .i64 0, .string ⟨#[]⟩, .slice none 0 0, .slice none 0 0] 28)
  obtain ⟨W2, hW2⟩ : ∃ W2, W2 = ((w.alloc (.cells #[.int .i64 k, .int .i64 n, .string ⟨t.toArray⟩, .slice A nl c, .slice A' nk c'] 28)).alloc (.cells #[.int .i64 0, .int .i64 0, .string ⟨#[]⟩, .slice none 0 0, .slice none 0 0] 28)) := ⟨_, rfl⟩
  rw [← hW2] at hb0
  have x1 : W2.heap[w.heap.size]? = some (.cells #[.int .i64 k, .int .i64 n, .string ⟨t.toArray⟩, .slice A nl c, .slice A' nk c'] 28 (0, 0)) := by
    rw [hW2, Below.heap_alloc _ _ _ (by simp)]; exact heap_alloc_last w _
  have x2 : W2.heap[w.heap.size + 1]? = some (.cells #[.int .i64 0, .int .i64 0, .string ⟨#[]⟩, .slice none 0 0, .slice none 0 0] 28 (0, 0)) := by
    rw [hW2]
    have := heap_alloc_last (w.alloc (.cells #[.int .i64 k, .int .i64 n, .string ⟨t.toArray⟩, .slice A nl c, .slice A' nk c'] 28)) (.cells #[.int .i64 0, .int .i64 0, .string ⟨#[]⟩, .slice none 0 0, .slice none 0 0] 28)
    simpa using this
  have HW2 := Lib.hid hW2; have HB0 := Lib.hid hb0; have X1 := Lib.hid x1; have X2 := Lib.hid x2; have NL := Lib.hid hnl; have NK := Lib.hid hnk; have H1 := Lib.hid h1; have H2 := Lib.hid h2; have HF := Lib.hid hF
  clear hv h1 h2 hW2 hb0 x1 x2 hnl hnk hF
  by_cases hk6 : k = 6
  · subst hk6
    go_enter Tryd.func18, Tryd.ntmps18
    go_wp2_with fail
    rw [← HW2.out]
    go_loopw [6] (fun i wr => ∃ j : Nat, j ≤ nk ∧ i = .int .i64 j ∧ (∀ i (hi : i < ks.length), i < j → ks[i] ≠ key) ∧ W2 = wr) (fun i _ => nk - (intOf i).toNat)
    case atStart => exact ⟨0, Nat.zero_le _, rfl, fun _ _ h => absurd h (Nat.not_lt_zero _), rfl⟩
    case round =>
      obtain ⟨j, hj, rfl, hne, rfl⟩ := hrel
      have HNE := Lib.hid hne
      clear hne
      obtain ⟨⟨e0, e1, e2, e3, e4⟩, -⟩ := box_of X1.out
      obtain ⟨⟨p0, p1, p2, p3, p4⟩, q0, q1, q2, q3, q4⟩ := box_of X2.out
      by_cases hjk : j < nk
      · by_cases hjl : j < nl
        · have hjk' : j < ks.length := by have := NK.out; omega
          have hjl' : j < l.length := by have := NL.out; omega
          obtain ⟨p, o, rfl, _, hpN, hc⟩ := VIs.key H1.out j hjk'
          obtain ⟨p', o', rfl, _, hpN', xs, hx5, hxv⟩ := VIs.item H2.out j hjl'
          have hc := (HB0.out.cell (p := ⟨p, o + j, none⟩) (by show p < _; omega)).trans hc
          have T1 := Lib.hid (HIT.out j hjk' hjl')
          have T2 := Lib.hid (fun (h : ks[j] ≠ key) i (hi : i < ks.length) (hij : i < j + 1) => (show ks[i] ≠ key from if e : i = j then by subst e; exact h else HNE.out i hi (by omega)))
          have hx6 := hx5.keep (w' := W2) hpN' (fun r hr => (HB0.out.mono hN).cell hr)
          have hxv2 := hxv.below (HB0.out.mono hN)
          obtain ⟨x, hx⟩ : ∃ x, ks[j] = x := ⟨_, rfl⟩
          rw [hx] at hc T1 T2
          obtain ⟨y, hy⟩ : ∃ y, l[j] = y := ⟨_, rfl⟩
          rw [hy] at hxv2 T1
          obtain ⟨u1, u2, u3, u4, rfl⟩ := hxv2.form
          obtain ⟨a0, a1, a2, a3, a4, ea, m0, m1, m2, m3, m4⟩ := hx6
          injection ea with ea0 ea; injection ea with ea1 ea; injection ea with ea2 ea; injection ea with ea3 ea; injection ea with ea4 ea
          subst ea0; subst ea1; subst ea2; subst ea3; subst ea4
          have HXV := Lib.hid hxv2
          have hj0 : (0 : Int) ≤ j := by omega
          have hj1 : (j : Int) < nk := by omega
          have hj2 : (j : Int) < nl := by omega
          have hpw : p' ≠ w.heap.size + 1 := by omega
          clear hx5 hxv hxv2 hx hy
          by_cases hxk : x = key
          · subst hxk
            have hbe : (x == x) = true := by simp
            have T3 := Lib.hid (T1.out rfl HNE.out); clear T1 T2
            go_wp2_with fail
            obtain ⟨wf, hwf⟩ : ∃ wf, wf = set5 W2 (w.heap.size + 1) 0 (.int .i64 y.kind) (.int .i64 y.num) (.string ⟨y.text.toArray⟩) (.slice u1 y.list.length u2) (.slice u3 y.keys.length u4) := ⟨_, rfl⟩
            change bodyPost _ _ _ _ _ (set5 W2 (w.heap.size + 1) 0 (.int .i64 y.kind) (.int .i64 y.num) (.string ⟨y.text.toArray⟩) (.slice u1 y.list.length u2) (.slice u3 y.keys.length u4))
            rw [← hwf]
            have hy : wf.heap[w.heap.size + 1]? = some (.cells #[.int .i64 y.kind, .int .i64 y.num, .string ⟨y.text.toArray⟩, .slice u1 y.list.length u2, .slice u3 y.keys.length u4] 28 (0, 0)) := by rw [hwf]; exact set5_here X2.out
            have hbf : Below w.heap.size w wf := by rw [hwf]; exact HB0.out.trans (set5_below (by omega))
            have hvf : VIs wf L N y [.int .i64 y.kind, .int .i64 y.num, .string ⟨y.text.toArray⟩, .slice u1 y.list.length u2, .slice u3 y.keys.length u4] :=
              HXV.out.keep fun p hp => World.cell?_of_block (w := W2) (by rw [hwf]; exact set5_there (by omega))
            obtain ⟨⟨g0, g1, g2, g3, g4⟩, -⟩ := box_of hy
            have e : F = some y := HF.out.symm.trans T3.out
            subst e
            have HBF := Lib.hid hbf; have HVF := Lib.hid hvf
            clear hbf hvf hwf hy p0 p1 p2 p3 p4 q0 q1 q2 q3 q4 e0 e1 e2 e3 e4 m0 m1 m2 m3 m4
            refine bodyPost_ret (v := .tuple #[.agg #[.int .i64 y.kind, .int .i64 y.num, .string ⟨y.text.toArray⟩, .slice u1 y.list.length u2, .slice u3 y.keys.length u4], .bool true]) (by simp [results, Tryd.results18, go_sem, g0, g1, g2, g3, g4]) rfl ?_
            exact ⟨⟨_, _, _, _, _, _, _, _, _, rfl, HVF.out⟩, HBF.out⟩
          · have hbe : (x == key) = false := by rw [beq_eq_false_iff_ne]; exact hxk
            have T3 := Lib.hid (T2.out hxk); clear T1 T2 hxk
            go_wp2_with fail
            exact ⟨⟨j + 1, by omega, by go_num, T3.out, trivial⟩, by simp [intOf]; omega⟩
        · have T3 := Lib.hid (MISS.out j (.inr (by have := NL.out; omega)) HNE.out)
          have d1 : decide ((j : Int) < (nl : Int)) = false := by simp; omega
          have d2 : decide ((j : Int) < (nk : Int)) = true := by simp; omega
          have e : F = none := HF.out.symm.trans T3.out
          subst e
          go_wp2_with fail
          obtain ⟨wf, hwf⟩ : ∃ wf, wf = set5 W2 (w.heap.size + 1) 0 (.int .i64 0) (.int .i64 0) (.string ⟨#[]⟩) (.slice none 0 0) (.slice none 0 0) := ⟨_, rfl⟩
          change bodyPost _ _ _ _ _ (set5 W2 (w.heap.size + 1) 0 (.int .i64 0) (.int .i64 0) (.string ⟨#[]⟩) (.slice none 0 0) (.slice none 0 0))
          rw [← hwf]
          have hy : wf.heap[w.heap.size + 1]? = some (.cells #[.int .i64 0, .int .i64 0, .string ⟨#[]⟩, .slice none 0 0, .slice none 0 0] 28 (0, 0)) := by rw [hwf]; exact set5_here X2.out
          have hbf : Below w.heap.size w wf := by rw [hwf]; exact HB0.out.trans (set5_below (by omega))
          obtain ⟨⟨g0, g1, g2, g3, g4⟩, -⟩ := box_of hy
          have HBF := Lib.hid hbf
          clear hbf hwf hy p0 p1 p2 p3 p4 q0 q1 q2 q3 q4 e0 e1 e2 e3 e4
          refine bodyPost_ret (v := .tuple #[.agg #[.int .i64 0, .int .i64 0, .string ⟨#[]⟩, .slice none 0 0, .slice none 0 0], .bool false]) (by simp [results, Tryd.results18, go_sem, g0, g1, g2, g3, g4]) rfl ?_
          exact ⟨⟨_, _, _, _, _, _, _, _, _, rfl, zero_isF _ _ _⟩, HBF.out⟩
      · obtain rfl : j = nk := by omega
        have T3 := Lib.hid (MISS.out j (.inl (by have := NK.out; omega)) HNE.out)
        have e : F = none := HF.out.symm.trans T3.out
        subst e
        go_wp2_with fail
        obtain ⟨wf, hwf⟩ : ∃ wf, wf = set5 W2 (w.heap.size + 1) 0 (.int .i64 0) (.int .i64 0) (.string ⟨#[]⟩) (.slice none 0 0) (.slice none 0 0) := ⟨_, rfl⟩
        change bodyPost _ _ _ _ _ (set5 W2 (w.heap.size + 1) 0 (.int .i64 0) (.int .i64 0) (.string ⟨#[]⟩) (.slice none 0 0) (.slice none 0 0))
        rw [← hwf]
        have hy : wf.heap[w.heap.size + 1]? = some (.cells #[.int .i64 0, .int .i64 0, .string ⟨#[]⟩, .slice none 0 0, .slice none 0 0] 28 (0, 0)) := by rw [hwf]; exact set5_here X2.out
        have hbf : Below w.heap.size w wf := by rw [hwf]; exact HB0.out.trans (set5_below (by omega))
        obtain ⟨⟨g0, g1, g2, g3, g4⟩, -⟩ := box_of hy
        have HBF := Lib.hid hbf
        clear hbf hwf hy p0 p1 p2 p3 p4 q0 q1 q2 q3 q4 e0 e1 e2 e3 e4
        refine bodyPost_ret (v := .tuple #[.agg #[.int .i64 0, .int .i64 0, .string ⟨#[]⟩, .slice none 0 0, .slice none 0 0], .bool false]) (by simp [results, Tryd.results18, go_sem, g0, g1, g2, g3, g4]) rfl ?_
        exact ⟨⟨_, _, _, _, _, _, _, _, _, rfl, zero_isF _ _ _⟩, HBF.out⟩
  · have d6 : (k == 6) = false := by simpa using hk6
    have e : F = none := HF.out.symm.trans (fieldV_not hk6)
    subst e
    clear hk6
    go_enter Tryd.func18, Tryd.ntmps18
    go_wp2_with fail
    rw [← HW2.out]
    go_loopw [6] (fun i wr => i = .int .i64 0 ∧ W2 = wr) (fun i _ => 0)
    case atStart => exact ⟨rfl, rfl⟩
    case round =>
      obtain ⟨rfl, rfl⟩ := hrel
      obtain ⟨⟨e0, e1, e2, e3, e4⟩, -⟩ := box_of X1.out
      obtain ⟨⟨p0, p1, p2, p3, p4⟩, q0, q1, q2, q3, q4⟩ := box_of X2.out
      go_wp2_with fail
      obtain ⟨wf, hwf⟩ : ∃ wf, wf = set5 W2 (w.heap.size + 1) 0 (.int .i64 0) (.int .i64 0) (.string ⟨#[]⟩) (.slice none 0 0) (.slice none 0 0) := ⟨_, rfl⟩
      change bodyPost _ _ _ _ _ (set5 W2 (w.heap.size + 1) 0 (.int .i64 0) (.int .i64 0) (.string ⟨#[]⟩) (.slice none 0 0) (.slice none 0 0))
      rw [← hwf]
      have hy : wf.heap[w.heap.size + 1]? = some (.cells #[.int .i64 0, .int .i64 0, .string ⟨#[]⟩, .slice none 0 0, .slice none 0 0] 28 (0, 0)) := by rw [hwf]; exact set5_here X2.out
      have hbf : Below w.heap.size w wf := by rw [hwf]; exact HB0.out.trans (set5_below (by omega))
      obtain ⟨⟨g0, g1, g2, g3, g4⟩, -⟩ := box_of hy
      have HBF := Lib.hid hbf
      clear hbf hwf hy p0 p1 p2 p3 p4 q0 q1 q2 q3 q4 e0 e1 e2 e3 e4
      refine bodyPost_ret (v := .tuple #[.agg #[.int .i64 0, .int .i64 0, .string ⟨#[]⟩, .slice none 0 0, .slice none 0 0], .bool false]) (by simp [results, Tryd.results18, go_sem, g0, g1, g2, g3, g4]) rfl ?_
      exact ⟨⟨_, _, _, _, _, _, _, _, _, rfl, zero_isF _ _ _⟩, HBF.out⟩
end Go.Proofs.YtcbajbpdgmmaeaaDoor
namespace Go.Proofs.YtcbajbpdgmmaeaaDoor
open Go.RowKit

theorem own_below {w w' : World} {B size n : Nat} {e : TypeId} {v : Value} {xs : List Value} (h : w.ownsRow B e size v n xs) (hb : Below w.heap.size w w') : w'.ownsRow B e size v n xs :=
  World.ownsRow.kept (row := none) h ⟨hb.os, hb.tape, hb.output, hb.size, fun k hk _ => hb.block k hk⟩ (by
    rcases h.2 with ⟨rfl, _⟩ | ⟨g, cap, cur, rfl, _⟩
    · exact .inl rfl
    · exact .inr (by simp [Value.ownBlock]))
theorem own_kept {w w' : World} {B size n : Nat} {e : TypeId} {v : Value} {xs : List Value} (h : w.ownsRow B e size v n xs) (hb : ∀ g, v.ownBlock = some g → w'.heap[g]? = w.heap[g]?) : w'.ownsRow B e size v n xs := by
  refine ⟨h.1, ?_⟩
  rcases h.2 with h' | ⟨g, cap, cur, hv, hB, hg, r⟩
  · exact .inl h'
  · exact .inr ⟨g, cap, cur, hv, hB, by rw [hb g (by rw [hv]; rfl)]; exact hg, r⟩
theorem own_apart {w : World} {B B' s s' n n' : Nat} {e e' : TypeId} {v v' : Value} {xs xs' : List Value} (h : w.ownsRow B e s v n xs) (h' : w.ownsRow B' e' s' v' n' xs') (he : e ≠ e') (g : Nat) (hv : v.ownBlock = some g) (hv' : v'.ownBlock = some g) : False := by
  rcases h.2 with ⟨rfl, _⟩ | ⟨k, cap, cur, rfl, _, hg, _⟩
  · cases hv
  rcases h'.2 with ⟨rfl, _⟩ | ⟨k', cap', cur', rfl, _, hg', _⟩
  · cases hv'
  · injection hv with hv; injection hv' with hv'
    subst hv; subst hv'
    rw [hg] at hg'
    injection hg' with hg'
    injection hg' with _ e
    exact he e
def ksCells (ks : List (List UInt8)) : List Value := ks.map fun t => .string ⟨t.toArray⟩
theorem ksCells_snoc (ks : List (List UInt8)) (t : List UInt8) : ksCells (ks ++ [t]) = ksCells ks ++ [.string ⟨t.toArray⟩] := by simp [ksCells]
/-- what holds of group's memory behind so many keys and items -/
structure GSt (R : Nat) (kind : Int) (w wr : World) (lv kv : Value) (l : List V) (ks : List (List UInt8)) (xs : List Value) : Prop where
  var : wr.heap[R + 1]? = some (.cells #[.int .i64 kind, .int .i64 0, .string ⟨#[]⟩, lv, kv] 28 (0, 0))
  res : wr.heap[R]? = some (.cells #[.int .i64 0, .int .i64 0, .string ⟨#[]⟩, .slice none 0 0, .slice none 0 0] 28 (0, 0))
  rowL : wr.ownsRow (R + 2) 28 5 lv l.length xs
  rowK : wr.ownsRow (R + 2) 9 1 kv ks.length (ksCells ks)
  elem : ∀ i (h : i < l.length), ∃ c0 c1 c2 c3 c4 L N, xs[i * 5]? = some c0 ∧ xs[i * 5 + 1]? = some c1 ∧ xs[i * 5 + 2]? = some c2 ∧ xs[i * 5 + 3]? = some c3 ∧ xs[i * 5 + 4]? = some c4 ∧
    VIs wr L N l[i] [c0, c1, c2, c3, c4] ∧ R + 2 ≤ L ∧ N ≤ wr.heap.size ∧ ∀ g, (lv.ownBlock = some g ∨ kv.ownBlock = some g) → ¬ (L ≤ g ∧ g < N)
  low : Below R w wr
  size : R + 2 ≤ wr.heap.size
theorem GSt.later {R : Nat} {kind : Int} {w wr w1 : World} {lv kv : Value} {l : List V} {ks : List (List UInt8)} {xs : List Value} (h : GSt R kind w wr lv kv l ks xs) (hb : Below wr.heap.size wr w1) : GSt R kind w w1 lv kv l ks xs := by
  obtain ⟨h1, h2, h3, h4, h5, h6, h7⟩ := h
  refine ⟨(hb.block _ (by omega)).trans h1, (hb.block _ (by omega)).trans h2, own_below h3 hb, own_below h4 hb, fun i hi => ?_, h6.trans (hb.mono (by omega)), Nat.le_trans h7 hb.size⟩
  obtain ⟨c0, c1, c2, c3, c4, L, N, e0, e1, e2, e3, e4, hv, hL, hN, hg⟩ := h5 i hi
  exact ⟨c0, c1, c2, c3, c4, L, N, e0, e1, e2, e3, e4, hv.below (hb.mono hN), hL, Nat.le_trans hN hb.size, hg⟩
/-- a key more: behind the append, and the store of its row -/
theorem GSt.key {R : Nat} {kind : Int} {w wr w2 : World} {lv kv kv' : Value} {l : List V} {ks : List (List UInt8)} {xs : List Value} (h : GSt R kind w wr lv kv l ks xs) (t : List UInt8)
    (hown : w2.ownsRow (R + 2) 9 1 kv' (ks.length + 1) (ksCells ks ++ [.string ⟨t.toArray⟩])) (hg : wr.grownBy w2 kv.ownBlock) (hat : kv'.ownBlock = kv.ownBlock ∨ kv'.ownBlock = some wr.heap.size) :
    GSt R kind w (w2.setCell ⟨R + 1, 4, none⟩ kv') lv kv' l (ks ++ [t]) xs := by
  obtain ⟨h1, h2, h3, h4, h5, h6, h7⟩ := h
  have hlt := h4.lt
  have hltL := h3.lt
  have hsz := hg.size
  have hblk : ∀ k, k < wr.heap.size → kv.ownBlock ≠ some k → k ≠ R + 1 → (w2.setCell ⟨R + 1, 4, none⟩ kv').heap[k]? = wr.heap[k]? := fun k hk hne hk1 => (set_there _ hk1).trans (hg.block k hk (fun e => hne e.symm))
  have hR1 : w2.heap[R + 1]? = wr.heap[R + 1]? := hg.block _ (by omega) (fun e => by have := (hlt _ e.symm).1; omega)
  have hown' := hown
  refine ⟨set_here (hR1.trans h1) _, (hblk R (by omega) (fun e => by have := (hlt _ e).1; omega) (by omega)).trans h2, own_kept h3 (fun g hgl => ?_), ?_, fun i hi => ?_, ?_, by rw [set_size]; omega⟩
  · exact hblk g (hltL g hgl).2 (fun e => own_apart h3 h4 (by decide) g hgl e) (by have := (hltL g hgl).1; omega)
  · rw [ksCells_snoc, List.length_append, List.length_singleton]
    exact own_kept hown (fun g hgk => set_there _ (by have := (hown.lt g hgk).1; omega))
  · obtain ⟨c0, c1, c2, c3, c4, L, N, e0, e1, e2, e3, e4, hv, hL, hN, hgg⟩ := h5 i hi
    refine ⟨c0, c1, c2, c3, c4, L, N, e0, e1, e2, e3, e4, hv.keep2 fun p hp1 hp2 => ?_, hL, by rw [set_size]; omega, fun g hgo => ?_⟩
    · exact World.cell?_of_block (w := wr) (hblk p.block (by omega) (fun e => hgg _ (.inr e) ⟨hp1, hp2⟩) (by omega))
    · rcases hgo with e | e
      · exact hgg g (.inl e)
      · rcases hat with ha | ha
        · exact hgg g (.inr (by rw [← ha]; exact e))
        · rw [ha] at e; injection e with e; omega
  · refine (h6.trans ((Below.refl R wr).grown hg (by omega) (fun k hk => by have := (hlt k hk).1; omega))).setCell (p := ⟨R + 1, 4, none⟩) (by show R ≤ R + 1; omega) _
theorem app_at {xs : List Value} {n k : Nat} (h : xs.length = n * 5) (c0 c1 c2 c3 c4 : Value) (hk : k < 5) : (xs ++ [c0, c1, c2, c3, c4])[n * 5 + k]? = [c0, c1, c2, c3, c4][k]? := by
  rw [List.getElem?_append_right (by omega), h]
  congr 1; omega
/-- an item more -/
theorem GSt.item {R : Nat} {kind : Int} {w wr w2 : World} {lv lv' kv : Value} {l : List V} {ks : List (List UInt8)} {xs : List Value} {c0 c1 c2 c3 c4 : Value} {L0 N0 : Nat} (h : GSt R kind w wr lv kv l ks xs) (x : V)
    (hx : VIs wr L0 N0 x [c0, c1, c2, c3, c4]) (hx1 : R + 2 ≤ L0) (hx2 : N0 ≤ wr.heap.size) (hx3 : ∀ g, (lv.ownBlock = some g ∨ kv.ownBlock = some g) → ¬ (L0 ≤ g ∧ g < N0))
    (hown : w2.ownsRow (R + 2) 28 5 lv' (l.length + 1) (xs ++ [c0, c1, c2, c3, c4])) (hg : wr.grownBy w2 lv.ownBlock) (hat : lv'.ownBlock = lv.ownBlock ∨ lv'.ownBlock = some wr.heap.size) :
    GSt R kind w (w2.setCell ⟨R + 1, 3, none⟩ lv') lv' kv (l ++ [x]) ks (xs ++ [c0, c1, c2, c3, c4]) := by
  obtain ⟨h1, h2, h3, h4, h5, h6, h7⟩ := h
  have hlt := h3.lt
  have hltK := h4.lt
  have hsz := hg.size
  have hxl := h3.1
  have hblk : ∀ k, k < wr.heap.size → lv.ownBlock ≠ some k → k ≠ R + 1 → (w2.setCell ⟨R + 1, 3, none⟩ lv').heap[k]? = wr.heap[k]? := fun k hk hne hk1 => (set_there _ hk1).trans (hg.block k hk (fun e => hne e.symm))
  have hR1 : w2.heap[R + 1]? = wr.heap[R + 1]? := hg.block _ (by omega) (fun e => by have := (hlt _ e.symm).1; omega)
  have hnew : ∀ {L N : Nat}, N ≤ wr.heap.size → (∀ g, (lv.ownBlock = some g ∨ kv.ownBlock = some g) → ¬ (L ≤ g ∧ g < N)) → ∀ g, (lv'.ownBlock = some g ∨ kv.ownBlock = some g) → ¬ (L ≤ g ∧ g < N) := fun hN hgg g hgo => by
    rcases hgo with e | e
    · rcases hat with ha | ha
      · exact hgg g (.inl (by rw [← ha]; exact e))
      · rw [ha] at e; injection e with e; omega
    · exact hgg g (.inr e)
  refine ⟨set_here (hR1.trans h1) _, (hblk R (by omega) (fun e => by have := (hlt _ e).1; omega) (by omega)).trans h2, ?_, own_kept h4 (fun g hgk => ?_), fun i hi => ?_, ?_, by rw [set_size]; omega⟩
  · rw [List.length_append, List.length_singleton]
    exact own_kept hown (fun g hgk => set_there _ (by have := (hown.lt g hgk).1; omega))
  · exact hblk g (hltK g hgk).2 (fun e => own_apart h3 h4 (by decide) g e hgk) (by have := (hltK g hgk).1; omega)
  · rcases Nat.lt_or_ge i l.length with hil | hil
    · obtain ⟨d0, d1, d2, d3, d4, L, N, e0, e1, e2, e3, e4, hv, hL, hN, hgg⟩ := h5 i hil
      have hgl : (l ++ [x])[i] = l[i] := List.getElem_append_left hil
      rw [hgl]
      refine ⟨d0, d1, d2, d3, d4, L, N, ?_, ?_, ?_, ?_, ?_, hv.keep2 fun p hp1 hp2 => ?_, hL, by rw [set_size]; omega, hnew hN hgg⟩
      · rw [List.getElem?_append_left (by omega)]; exact e0
      · rw [List.getElem?_append_left (by omega)]; exact e1
      · rw [List.getElem?_append_left (by omega)]; exact e2
      · rw [List.getElem?_append_left (by omega)]; exact e3
      · rw [List.getElem?_append_left (by omega)]; exact e4
      · exact World.cell?_of_block (w := wr) (hblk p.block (by omega) (fun e => hgg _ (.inl e) ⟨hp1, hp2⟩) (by omega))
    · have hie : i = l.length := by simp at hi; omega
      subst hie
      have hgl : (l ++ [x])[l.length] = x := by simp
      rw [hgl]
      refine ⟨c0, c1, c2, c3, c4, L0, N0, app_at hxl _ _ _ _ _ (k := 0) (by decide), app_at hxl _ _ _ _ _ (k := 1) (by decide), app_at hxl _ _ _ _ _ (k := 2) (by decide), app_at hxl _ _ _ _ _ (k := 3) (by decide), app_at hxl _ _ _ _ _ (k := 4) (by decide), hx.keep2 fun p hp1 hp2 => ?_, hx1, by rw [set_size]; omega, hnew hx2 hx3⟩
      exact World.cell?_of_block (w := wr) (hblk p.block (by omega) (fun e => hx3 _ (.inl e) ⟨hp1, hp2⟩) (by omega))
  · exact (h6.trans ((Below.refl R wr).grown hg (by omega) (fun k hk => by have := (hlt k hk).1; omega))).setCell (p := ⟨R + 1, 3, none⟩) (by show R ≤ R + 1; omega) _
/-- the whole -/
theorem GSt.done {R : Nat} {kind : Int} {w wr wf : World} {lv kv : Value} {l : List V} {ks : List (List UInt8)} {xs : List Value} (h : GSt R kind w wr lv kv l ks xs) (hl : l.length ≤ 9223372036854775807) (hk : ks.length ≤ 9223372036854775807) (hz : ∀ x ∈ ks, x.length ≤ 9223372036854775807)
    (hf : ∀ b, b ≠ R → wf.heap[b]? = wr.heap[b]?) (hs : wf.heap.size = wr.heap.size) : VIs wf R wf.heap.size (.mk kind 0 [] l ks) [.int .i64 kind, .int .i64 0, .string ⟨#[]⟩, lv, kv] := by
  obtain ⟨h1, h2, h3, h4, h5, h6, h7⟩ := h
  have hcell : ∀ p : Addr, p.block ≠ R → wf.cell? p = wr.cell? p := fun p hp => World.cell?_of_block (w := wr) (hf _ hp)
  obtain ⟨A, c, rfl, hA⟩ : ∃ A c, lv = .slice A l.length c ∧ (l = [] ∨ ∃ b o, A = some ⟨b, o, none⟩ ∧ LIs wf R wf.heap.size l b o) := by
    have hc := fun g => World.ownsRow.cells (g := g) h3
    rcases h3.2 with ⟨hv, h0⟩ | ⟨g, cap, cur, hv, hB, hg, _⟩
    · exact ⟨none, 0, by rw [hv, h0], .inl (List.length_eq_zero_iff.1 h0)⟩
    · refine ⟨_, _, hv, .inr ⟨g, 0, rfl, LIs.of (by omega) (by rw [hs]; exact (Array.getElem?_eq_some_iff.1 hg).1) fun i hi => ?_⟩⟩
      obtain ⟨c0, c1, c2, c3, c4, L, N, e0, e1, e2, e3, e4, hv', hL, hN, hgg⟩ := h5 i hi
      have hcc : ∀ j u, xs[j]? = some u → wf.cell? ⟨g, 0 + j, none⟩ = some u := fun j u hu => by
        rw [hcell _ (by show g ≠ R; omega)]
        have := hc g (by rw [hv]; rfl) j u hu
        rwa [Addr.add_lit] at this
      refine ⟨[c0, c1, c2, c3, c4], ⟨c0, c1, c2, c3, c4, rfl, hcc _ _ e0, hcc _ _ e1, hcc _ _ e2, hcc _ _ e3, hcc _ _ e4⟩, ?_⟩
      exact (hv'.keep2 fun p hp1 hp2 => hcell p (by omega)).more (by omega) (by omega)
  obtain ⟨A', c', rfl, hA'⟩ : ∃ A c, kv = .slice A ks.length c ∧ (ks = [] ∨ ∃ b o, A = some ⟨b, o, none⟩ ∧ KIs wf R wf.heap.size ks b o) := by
    have hc := fun g => World.ownsRow.cells (g := g) h4
    rcases h4.2 with ⟨hv, h0⟩ | ⟨g, cap, cur, hv, hB, hg, _⟩
    · exact ⟨none, 0, by rw [hv, h0], .inl (List.length_eq_zero_iff.1 h0)⟩
    · refine ⟨_, _, hv, .inr ⟨g, 0, rfl, KIs.of (by omega) (by rw [hs]; exact (Array.getElem?_eq_some_iff.1 hg).1) fun i hi => ?_⟩⟩
      rw [hcell _ (by show g ≠ R; omega)]
      have := hc g (by rw [hv]; rfl) i (.string ⟨ks[i].toArray⟩) (by unfold ksCells; rw [List.getElem?_map, List.getElem?_eq_getElem hi]; rfl)
      rwa [Addr.add_lit] at this
  exact VIs.mk (t := []) ⟨hl, hk, by simp, hz⟩ hA' hA
end Go.Proofs.YtcbajbpdgmmaeaaDoor
namespace Go.Proofs.YtcbajbpdgmmaeaaDoor
open Go.RowKit
set_option linter.unusedVariables false
set_option linter.unusedSimpArgs false

/-- append onto a row of the call's own, of a slice that may be nil, as one step of a region that draws its order; where the new row lies -/
theorem step_append_opt {P : Program} {w : World} {ops : Array Oper} {o : Oper} {a : Act} {K : Act → World → Prop} {Q : Exit → Act → World → Prop} {E : Prop} (hgd : o.guard = none) (s x : Operand) (t : TypeId)
    (ho : o.op = .call { callee := .builtin .append, args := #[s, x], argTypes := #[t, t] })
    (base : Nat) (e : TypeId) (i : TypeInfo) (z : Value) (size bytes : Nat) (ht : P.underlying t = some (.slice e)) (hi : P.info? e = some i) (hz : i.zero = some z)
    (hsize : i.size = size) (hby : i.bytes = bytes) (hzs : z.cells.size = size) (hsz : 0 < size)
    (v : Value) (n : Nat) (xs : List Value) (hs : a.eval s = v) (hown : w.ownsRow base e size v n xs)
    (A : Option Addr) (m c : Nat) (news : List Value) (hx : a.eval x = .slice A m c) (hl : news.length = m * size)
    (hnews : (A = none ∧ m = 0 ∧ c = 0) ∨ ∃ ad, A = some ad ∧ ∀ j u, news[j]? = some u → w.cell? (ad.add j) = some u) (h1 : ∀ u ∈ news, u.oneCell' = true)
    (h63 : n + m ≤ maxLen) (hbytes : (n + m) * bytes ≤ 140737488355328) (hbase : base ≤ w.heap.size)
    (h : ∀ v' w', w'.ownsRow base e size v' (n + m) (xs ++ news) → w.grownBy w' v.ownBlock → (v'.ownBlock = v.ownBlock ∨ v'.ownBlock = some w.heap.size) → K (a.put o.dst v') w') :
    if Region.wanted o (yielded ops a.tmps) = true then Oper.wp P o a w K Q else E := by
  have hw : Region.wanted o (yielded ops a.tmps) = true := by simp [Region.wanted, hgd]
  rw [if_pos hw]
  obtain ⟨v', w', hr, h2, h3, h4⟩ : ∃ v' w', (Builtin.append_ #[t, t] o.type #[v, .slice A m c]).run P w = .ok v' w' ∧ w'.ownsRow base e size v' (n + m) (xs ++ news) ∧ w.grownBy w' v.ownBlock ∧ (v'.ownBlock = v.ownBlock ∨ v'.ownBlock = some w.heap.size) := by
    rcases hnews with ⟨rfl, rfl, rfl⟩ | ⟨ad, rfl, hnews⟩
    · have hn : news = [] := List.eq_nil_of_length_eq_zero (by simpa using hl)
      subst hn
      refine ⟨v, w, run_append_owned_none (P := P) (w := w) base t o.type e i size ht hi v n xs hown, ?_, ⟨rfl, rfl, rfl, Nat.le_refl _, fun _ _ _ => rfl⟩, .inl rfl⟩
      simpa using hown
    · obtain ⟨v', w', hr, h2, h3, _, h5⟩ := run_append_own_at (P := P) w base t o.type e i z size bytes ht hi hz hsize hby hzs hsz v n xs hown ad m c news hl hnews h1 h63 hbytes hbase
      exact ⟨v', w', hr, h2, h3, h5⟩
  unfold Oper.wp execOp
  simp only [ho, resolve, invoke, builtin, Sem.run_bind, Sem.run_pure, Result.andThen_ok, List.map_toArray, List.map_cons, List.map_nil, hs, hx, hr]
  exact h v' w' h2 h3 h4

theorem blk_below {w w' : World} {b : Nat} {o : Obj} (h : w.heap[b]? = some o) (hb : Below w.heap.size w w') : w'.heap[b]? = some o :=
  (hb.block b (Array.getElem?_eq_some_iff.1 h).1).trans h
/-- a block that a row's growth does not touch -/
theorem grown_block {w w' : World} {row : Option Nat} {b : Nat} {o : Obj} (h : w.grownBy w' row) (hb : w.heap[b]? = some o) (hne : row ≠ some b) : w'.heap[b]? = some o :=
  (h.block b (Array.getElem?_eq_some_iff.1 hb).1 (fun e => hne e.symm)).trans hb
theorem alloc_block {w : World} {b : Nat} {o x : Obj} (hb : w.heap[b]? = some o) : (w.alloc x).heap[b]? = some o := (Below.heap_alloc _ _ _ (Array.getElem?_eq_some_iff.1 hb).1).trans hb
theorem own_not {w : World} {B size n b : Nat} {e t : TypeId} {v : Value} {xs : List Value} {C : Array Value} {fr : Nat × Nat} (h : w.ownsRow B e size v n xs) (hb : w.heap[b]? = some (.cells C t fr)) (he : e ≠ t) : v.ownBlock ≠ some b := by
  rcases h.2 with ⟨rfl, _⟩ | ⟨g, cap, cur, rfl, _, hg, _⟩
  · intro e; cases e
  · intro e
    injection e with e
    subst e
    rw [hb] at hg
    injection hg with hg
    injection hg with _ e'
    exact he e'.symm
theorem own_formR {w : World} {B size n : Nat} {e : TypeId} {v : Value} {xs : List Value} (h : w.ownsRow B e size v n xs) : ∃ A c, v = .slice A n c := by
  rcases h.2 with ⟨hv, h0⟩ | ⟨g, cap, cur, hv, _⟩
  · exact ⟨none, 0, by rw [hv, h0]⟩
  · exact ⟨_, _, hv⟩
/-- a row that has just been made, of no elements -/
theorem own_fresh (w : World) (B : Nat) (e : TypeId) (size : Nat) (hB : B ≤ w.heap.size) : (w.alloc (.cells #[] e)).ownsRow B e size (.slice (some ⟨w.heap.size, 0, none⟩) 0 0) 0 [] :=
  ⟨by simp, .inr ⟨w.heap.size, 0, #[], rfl, hB, heap_alloc_last w _, Nat.le_refl _, by unfold maxLen; decide, by simp, by simp⟩⟩
theorem own_freshAt (w : World) (B : Nat) (e : TypeId) (size g : Nat) (hg : g = w.heap.size) (hB : B ≤ w.heap.size) : (w.alloc (.cells #[] e)).ownsRow B e size (.slice (some ⟨g, 0, none⟩) 0 0) 0 [] := by
  subst hg; exact own_fresh w B e size hB
theorem own_grown {w w' : World} {B size n m c g k : Nat} {e : TypeId} {xs : List Value} (h : w.ownsRow B e size (.slice (some ⟨g, 0, none⟩) m c) n xs) (hg : w.grownBy w' (some k)) (hne : k ≠ g) : w'.ownsRow B e size (.slice (some ⟨g, 0, none⟩) m c) n xs :=
  own_kept h fun b hb => by
    obtain rfl : g = b := by injection hb
    exact hg.block g ((h.lt g rfl).2) (fun e => hne (by injection e with e; exact e.symm))
theorem own_other {w w' : World} {B B' s s' n m : Nat} {e e' : TypeId} {kv v : Value} {xs ys : List Value} (hK : w.ownsRow B e s kv n xs) (hL : w.ownsRow B' e' s' v m ys) (he : e ≠ e') (hg : w.grownBy w' v.ownBlock) : w'.ownsRow B e s kv n xs :=
  own_kept hK fun b hb => hg.block b (hK.lt b hb).2 fun h => own_apart hK hL he b hb h.symm
theorem far_of {X w : World} {B s n g p : Nat} {e : TypeId} {lv : Value} {xs : List Value} (hL : w.ownsRow B e s lv n xs) (hat : lv.ownBlock = some g ∨ lv.ownBlock = some X.heap.size) (h1 : g ≠ p) (h2 : p < X.heap.size ∨ w.heap.size ≤ p) : lv.ownBlock ≠ some p := fun e => by
  have h3 := (hL.lt _ e).2
  rcases hat with h | h
  · rw [h] at e; injection e with e; exact h1 e
  · rw [h] at e; injection e with e; omega
theorem intro_fact {p q : Prop} (h : p) (k : p → q) : q := k h
theorem one_at {w : World} {b : Nat} {v : Value} {t : TypeId} {fr : Nat × Nat} (h : w.heap[b]? = some (.cells #[v] t fr)) : ∀ j u, [v][j]? = some u → w.cell? ((⟨b, 0, none⟩ : Addr).add j) = some u := by
  intro j u hu
  rw [Addr.add_lit, Nat.zero_add, cell_here h]
  simpa using hu
theorem five_at {w : World} {b : Nat} {v0 v1 v2 v3 v4 : Value} {t : TypeId} {fr : Nat × Nat} (h : w.heap[b]? = some (.cells #[v0, v1, v2, v3, v4] t fr)) : ∀ j u, [v0, v1, v2, v3, v4][j]? = some u → w.cell? ((⟨b, 0, none⟩ : Addr).add j) = some u := by
  intro j u hu
  rw [Addr.add_lit, Nat.zero_add, cell_here h]
  simpa using hu
theorem far_of2 {X w : World} {B s n p : Nat} {e : TypeId} {lv lv0 : Value} {xs : List Value} (hL : w.ownsRow B e s lv n xs) (hat : lv.ownBlock = lv0.ownBlock ∨ lv.ownBlock = some X.heap.size) (h1 : lv0.ownBlock ≠ some p) (h2 : p < X.heap.size) : lv.ownBlock ≠ some p := fun e => by
  rcases hat with h | h
  · rw [h] at e; exact h1 e
  · rw [h] at e; injection e with e; omega
theorem fresh_at {w : World} {b : Nat} (o : Obj) (h : b = w.heap.size) : (w.alloc o).heap[b]? = some o := by subst h; exact heap_alloc_last w o
theorem drew_block {w : World} {b : Nat} {o : Obj} (h : w.heap[b]? = some o) : w.drew.heap[b]? = some o := h
theorem ks_one (ks : List (List UInt8)) : ∀ u ∈ ksCells ks, u.oneCell' = true := by
  intro u hu; obtain ⟨_, _, rfl⟩ := List.mem_map.1 hu; rfl
theorem five_oneR {w : World} {L N : Nat} {x : V} {cs : List Value} (h : VIs w L N x cs) : ∀ u ∈ cs, u.oneCell' = true := by
  obtain ⟨A, c, A', c', rfl⟩ := h.form
  intro u hu
  simp at hu; rcases hu with rfl | rfl | rfl | rfl | rfl <;> rfl
theorem Tryd.infoValR : (Tryd.prog.info? 28).map (fun i => (i.zero, i.size, i.bytes)) = some (some (.agg #[.int .i64 0, .int .i64 0, .string ⟨#[]⟩, .slice none 0 0, .slice none 0 0]), 5, 80) := by kernel_rfl
theorem Tryd.infoStrR : (Tryd.prog.info? 9).map (fun i => (i.zero, i.size, i.bytes)) = some (some (.string ⟨#[]⟩), 1, 16) := by kernel_rfl
/-- the cells of a row of values, with what each five read as -/
theorem flat_items {w : World} {L N b o : Nat} {l : List V} (h : LIs w L N l b o) : ∃ xs : List Value, xs.length = l.length * 5 ∧ (∀ j u, xs[j]? = some u → b < N ∧ w.cell? ⟨b, o + j, none⟩ = some u) ∧ (∀ u ∈ xs, u.oneCell' = true) ∧
    ∀ i (hi : i < l.length), ∃ c0 c1 c2 c3 c4, xs[i * 5]? = some c0 ∧ xs[i * 5 + 1]? = some c1 ∧ xs[i * 5 + 2]? = some c2 ∧ xs[i * 5 + 3]? = some c3 ∧ xs[i * 5 + 4]? = some c4 ∧ VIs w L N l[i] [c0, c1, c2, c3, c4] := by
  obtain ⟨xs, n1, n2, n3⟩ := h.flat
  refine ⟨xs, n1, fun j u hu => ⟨?_, n2 j u hu⟩, n3, fun i hi => ?_⟩
  · have hj := (List.getElem?_eq_some_iff.1 hu).1
    exact (h.get 0 (by omega)).2.1
  · obtain ⟨_, _, cs, ⟨c0, c1, c2, c3, c4, rfl, m0, m1, m2, m3, m4⟩, hv⟩ := h.get i hi
    have key : ∀ k c, k < 5 → w.cell? ⟨b, o + (i * 5 + k), none⟩ = some c → xs[i * 5 + k]? = some c := fun k c hk hc => by
      have hlt : i * 5 + k < xs.length := by omega
      have := n2 (i * 5 + k) xs[i * 5 + k] (List.getElem?_eq_getElem hlt)
      rw [hc] at this
      rw [List.getElem?_eq_getElem hlt]; exact this.symm
    exact ⟨c0, c1, c2, c3, c4, key 0 c0 (by decide) (by simpa using m0), key 1 c1 (by decide) (by rw [← Nat.add_assoc]; exact m1), key 2 c2 (by decide) (by rw [← Nat.add_assoc]; exact m2), key 3 c3 (by decide) (by rw [← Nat.add_assoc]; exact m3), key 4 c4 (by decide) (by rw [← Nat.add_assoc]; exact m4), hv⟩
/-- an object in a variable at p, its rows of the call's own from B on; what lies in it, lies as it lay in w, in blocks L to N -/
structure OSt (B p L N : Nat) (w wr : World) (lv kv : Value) (l : List V) (ks : List (List UInt8)) (xs : List Value) : Prop where
  var : wr.heap[p]? = some (.cells #[.int .i64 6, .int .i64 0, .string ⟨#[]⟩, lv, kv] 28 (0, 0))
  rowL : wr.ownsRow B 28 5 lv l.length xs
  rowK : wr.ownsRow B 9 1 kv ks.length (ksCells ks)
  far : lv.ownBlock ≠ some p
  elem : ∀ i (h : i < l.length), ∃ c0 c1 c2 c3 c4, xs[i * 5]? = some c0 ∧ xs[i * 5 + 1]? = some c1 ∧ xs[i * 5 + 2]? = some c2 ∧ xs[i * 5 + 3]? = some c3 ∧ xs[i * 5 + 4]? = some c4 ∧ VIs w L N l[i] [c0, c1, c2, c3, c4]
  low : Below B w wr
/-- the object as it is made -/
theorem OSt.start {B p L N : Nat} {w wr : World} {lv kv : Value} {l : List V} {ks : List (List UInt8)} {xs : List Value} (hp : B ≤ p)
    (hv : wr.heap[p]? = some (.cells #[.int .i64 0, .int .i64 0, .string ⟨#[]⟩, .slice none 0 0, .slice none 0 0] 28 (0, 0)))
    (hL : wr.ownsRow B 28 5 lv l.length xs) (hK : wr.ownsRow B 9 1 kv ks.length (ksCells ks)) (hf : lv.ownBlock ≠ some p)
    (he : ∀ i (h : i < l.length), ∃ c0 c1 c2 c3 c4, xs[i * 5]? = some c0 ∧ xs[i * 5 + 1]? = some c1 ∧ xs[i * 5 + 2]? = some c2 ∧ xs[i * 5 + 3]? = some c3 ∧ xs[i * 5 + 4]? = some c4 ∧ VIs w L N l[i] [c0, c1, c2, c3, c4]) (hb : Below B w wr) :
    OSt B p L N w (set5 wr p 0 (.int .i64 6) (.int .i64 0) (.string ⟨#[]⟩) lv kv) lv kv l ks xs := by
  refine ⟨?_, own_kept hL fun g hg => set5_there (fun e => hf (by rw [← e]; exact hg)), own_kept hK fun g hg => set5_there (fun e => own_not hK hv (by decide) (by rw [← e]; exact hg)), hf, he, hb.trans (set5_below hp)⟩
  have := set5_here (o := 0) (c0 := .int .i64 6) (c1 := .int .i64 0) (c2 := .string ⟨#[]⟩) (c3 := lv) (c4 := kv) hv
  simpa using this
/-- a key and an item more: two rows that have grown, then both stored -/
theorem OSt.grow {B p L N : Nat} {w wr wz : World} {lv kv lv' kv' : Value} {l : List V} {ks : List (List UInt8)} {xs : List Value} {c0 c1 c2 c3 c4 : Value} (h : OSt B p L N w wr lv kv l ks xs) (hp : B ≤ p) (t : List UInt8) (x : V)
    (hx : VIs w L N x [c0, c1, c2, c3, c4]) (hv : wz.heap[p]? = some (.cells #[.int .i64 6, .int .i64 0, .string ⟨#[]⟩, lv, kv] 28 (0, 0)))
    (hK : wz.ownsRow B 9 1 kv' (ks.length + 1) (ksCells ks ++ [.string ⟨t.toArray⟩])) (hL : wz.ownsRow B 28 5 lv' (l.length + 1) (xs ++ [c0, c1, c2, c3, c4])) (hf : lv'.ownBlock ≠ some p) (hb : Below B w wz) :
    OSt B p L N w ((wz.setCell ⟨p, 4, none⟩ kv').setCell ⟨p, 3, none⟩ lv') lv' kv' (l ++ [x]) (ks ++ [t]) (xs ++ [c0, c1, c2, c3, c4]) := by
  have hxl := h.rowL.1
  have hne : ∀ b, b ≠ p → ((wz.setCell ⟨p, 4, none⟩ kv').setCell ⟨p, 3, none⟩ lv').heap[b]? = wz.heap[b]? := fun b hb => by rw [set_there _ hb, set_there _ hb]
  refine ⟨?_, ?_, ?_, hf, fun i hi => ?_, ?_⟩
  · have := set_here (o := 3) (set_here (o := 4) hv kv') lv'
    simpa using this
  · rw [List.length_append, List.length_singleton]
    exact own_kept hL fun g hg => hne g (fun e => hf (by rw [← e]; exact hg))
  · rw [ksCells_snoc, List.length_append, List.length_singleton]
    exact own_kept hK fun g hg => hne g (fun e => own_not hK hv (by decide) (by rw [← e]; exact hg))
  · rcases Nat.lt_or_ge i l.length with hil | hil
    · obtain ⟨d0, d1, d2, d3, d4, e0, e1, e2, e3, e4, hv⟩ := h.elem i hil
      have hgl : (l ++ [x])[i] = l[i] := List.getElem_append_left hil
      rw [hgl]
      refine ⟨d0, d1, d2, d3, d4, ?_, ?_, ?_, ?_, ?_, hv⟩
      · rw [List.getElem?_append_left (by omega)]; exact e0
      · rw [List.getElem?_append_left (by omega)]; exact e1
      · rw [List.getElem?_append_left (by omega)]; exact e2
      · rw [List.getElem?_append_left (by omega)]; exact e3
      · rw [List.getElem?_append_left (by omega)]; exact e4
    · have hie : i = l.length := by simp at hi; omega
      subst hie
      have hgl : (l ++ [x])[l.length] = x := by simp
      rw [hgl]
      exact ⟨c0, c1, c2, c3, c4, app_at hxl _ _ _ _ _ (k := 0) (by decide), app_at hxl _ _ _ _ _ (k := 1) (by decide), app_at hxl _ _ _ _ _ (k := 2) (by decide), app_at hxl _ _ _ _ _ (k := 3) (by decide), app_at hxl _ _ _ _ _ (k := 4) (by decide), hx⟩
  · exact (hb.setCell (p := ⟨p, 4, none⟩) hp _).setCell (p := ⟨p, 3, none⟩) hp _
/-- the whole, with another block written -/
theorem OSt.done {B p L N r : Nat} {w wr wf : World} {lv kv : Value} {l : List V} {ks : List (List UInt8)} {xs : List Value} (h : OSt B p L N w wr lv kv l ks xs) (hp : B ≤ p) (hLB : L ≤ B) (hN : N ≤ B) (hr : r < B) (hrN : N ≤ r) (hl : l.length ≤ 9223372036854775807) (hk : ks.length ≤ 9223372036854775807) (hz : ∀ x ∈ ks, x.length ≤ 9223372036854775807)
    (hf : ∀ b, b ≠ r → wf.heap[b]? = wr.heap[b]?) (hs : wf.heap.size = wr.heap.size) : VIs wf L wf.heap.size (.mk 6 0 [] l ks) [.int .i64 6, .int .i64 0, .string ⟨#[]⟩, lv, kv] := by
  obtain ⟨h1, h3, h4, _, h5, h7⟩ := h
  have hcell : ∀ p : Addr, p.block ≠ r → wf.cell? p = wr.cell? p := fun p hp => World.cell?_of_block (w := wr) (hf _ hp)
  have hps := (Array.getElem?_eq_some_iff.1 h1).1
  have hBs : B ≤ wf.heap.size := by rw [hs]; omega
  obtain ⟨A, c, rfl, hA⟩ : ∃ A c, lv = .slice A l.length c ∧ (l = [] ∨ ∃ b o, A = some ⟨b, o, none⟩ ∧ LIs wf L wf.heap.size l b o) := by
    have hc := fun g => World.ownsRow.cells (g := g) h3
    rcases h3.2 with ⟨hv, h0⟩ | ⟨g, cap, cur, hv, hB, hg, _⟩
    · exact ⟨none, 0, by rw [hv, h0], .inl (List.length_eq_zero_iff.1 h0)⟩
    · refine ⟨_, _, hv, .inr ⟨g, 0, rfl, LIs.of (by omega) (by rw [hs]; exact (Array.getElem?_eq_some_iff.1 hg).1) fun i hi => ?_⟩⟩
      obtain ⟨c0, c1, c2, c3, c4, e0, e1, e2, e3, e4, hv'⟩ := h5 i hi
      have hcc : ∀ j u, xs[j]? = some u → wf.cell? ⟨g, 0 + j, none⟩ = some u := fun j u hu => by
        rw [hcell _ (by show g ≠ r; omega)]
        have := hc g (by rw [hv]; rfl) j u hu
        rwa [Addr.add_lit] at this
      refine ⟨[c0, c1, c2, c3, c4], ⟨c0, c1, c2, c3, c4, rfl, hcc _ _ e0, hcc _ _ e1, hcc _ _ e2, hcc _ _ e3, hcc _ _ e4⟩, ?_⟩
      exact ((hv'.below (h7.mono hN)).keep2 fun p hp1 hp2 => hcell p (by omega)).more (Nat.le_refl _) (by omega)
  obtain ⟨A', c', rfl, hA'⟩ : ∃ A c, kv = .slice A ks.length c ∧ (ks = [] ∨ ∃ b o, A = some ⟨b, o, none⟩ ∧ KIs wf L wf.heap.size ks b o) := by
    have hc := fun g => World.ownsRow.cells (g := g) h4
    rcases h4.2 with ⟨hv, h0⟩ | ⟨g, cap, cur, hv, hB, hg, _⟩
    · exact ⟨none, 0, by rw [hv, h0], .inl (List.length_eq_zero_iff.1 h0)⟩
    · refine ⟨_, _, hv, .inr ⟨g, 0, rfl, KIs.of (by omega) (by rw [hs]; exact (Array.getElem?_eq_some_iff.1 hg).1) fun i hi => ?_⟩⟩
      rw [hcell _ (by show g ≠ r; omega)]
      have := hc g (by rw [hv]; rfl) i (.string ⟨ks[i].toArray⟩) (by unfold ksCells; rw [List.getElem?_map, List.getElem?_eq_getElem hi]; rfl)
      rwa [Addr.add_lit] at this
  exact VIs.mk (t := []) ⟨hl, hk, by simp, hz⟩ hA' hA
/-- what the reference's Put does of a key that the object lacks -/
def PutNew : Prop := ∀ (k n : Int) (t : List UInt8) (l : List V) (ks : List (List UInt8)) (key : List UInt8) (x : V) (w : World) (L N L0 N0 : Nat) (A A' : Option Addr) (c c' : Nat) (x0 x1 x2 x3 x4 : Value)
    (hl : l.length ≤ 100000) (hk : ks.length ≤ 100000) (hz : ∀ y ∈ ks, y.length ≤ 9223372036854775807) (hkz : key.length ≤ 9223372036854775807) (hne : key ∉ ks) (hN : N ≤ w.heap.size) (hN0 : N0 ≤ w.heap.size) (hL0 : L0 ≤ w.heap.size)
    (hnil : (A = none ∧ A' = none ∧ l = [] ∧ ks = [] ∧ c = 0 ∧ c' = 0) ∨ ∃ b o b' o', A = some ⟨b, o, none⟩ ∧ A' = some ⟨b', o', none⟩ ∧ LIs w L N l b o ∧ KIs w L N ks b' o')
    (hit : ∀ i (h : i < l.length) cs, VIs w L N l[i] cs → VIs w L0 N0 l[i] cs) (hx : VIs w L0 N0 x [x0, x1, x2, x3, x4]),
    Calls Tryd.prog 17 #[.agg #[.int .i64 k, .int .i64 n, .string ⟨t.toArray⟩, .slice A l.length c, .slice A' ks.length c'], .string ⟨key.toArray⟩, .agg #[x0, x1, x2, x3, x4]] w fun e w' => ∃ B b B' b', e = .returned (.agg #[.int .i64 6, .int .i64 0, .string ⟨#[]⟩, .slice B (l.length + 1) b, .slice B' (ks.length + 1) b']) ∧
      VIs w' L0 w'.heap.size (.mk 6 0 [] (l ++ [x]) (ks ++ [key])) [.int .i64 6, .int .i64 0, .string ⟨#[]⟩, .slice B (l.length + 1) b, .slice B' (ks.length + 1) b'] ∧ Below w.heap.size w w'
end Go.Proofs.YtcbajbpdgmmaeaaDoor
namespace Go.Proofs.YtcbajbpdgmmaeaaDoor
open Go.RowKit
set_option linter.unusedVariables false
set_option linter.unusedSimpArgs false

set_option maxRecDepth 100000 in
theorem refInt_any (n : Int) (w : World) : Calls Tryd.prog 22 #[.int .i64 n] w fun e w' => e = .returned (.agg #[.int .i64 3, .int .i64 n, .string ⟨#[]⟩, .slice none 0 0, .slice none 0 0]) ∧ Below w.heap.size w w' := by
  go_enter Tryd.func22, Tryd.ntmps22
  go_wp2
  refine bodyPost_ret (v := .agg #[.int .i64 3, .int .i64 n, .string ⟨#[]⟩, .slice none 0 0, .slice none 0 0]) (by simp [results, Tryd.results22, go_sem]) rfl ?_
  exact ⟨rfl, (Below.refl _ _).alloc (Nat.le_refl _) _⟩
theorem isV_none {v : V} {key want : List UInt8} (h : (fieldV key v).isSome = false) : isV v key want = false := by
  unfold isV
  cases hf : fieldV key v with
  | none => rfl
  | some u => rw [hf] at h; cases h
theorem isV_some {v : V} {key want : List UInt8} (h : (fieldV key v).isSome = true) : isV v key want = (decide (((fieldV key v).getD V.zero).kind = 4) && decide (((fieldV key v).getD V.zero).text = want)) := by
  unfold isV
  cases hf : fieldV key v with
  | none => rw [hf] at h; cases h
  | some u => rfl
theorem bt_list (l : List UInt8) : (⟨l.toArray⟩ : ByteArray).toList = l := by simp
theorem toList_eq (a b : List UInt8) : ((⟨a.toArray⟩ : ByteArray).toList == (⟨b.toArray⟩ : ByteArray).toList) = decide (a = b) := by
  rw [bt_list, bt_list]; by_cases h : a = b
  · subst h; simp
  · simp [h]
set_option maxRecDepth 100000 in
set_option maxHeartbeats 4000000 in
theorem refIs_any (v : V) (key want : List UInt8) (w : World) (L N : Nat) (cs : List Value) (hv : VIs w L N v cs) (hN : N ≤ w.heap.size) :
    Calls Tryd.prog 29 #[.agg cs.toArray, .string ⟨key.toArray⟩, .string ⟨want.toArray⟩] w fun e w' => e = .returned (.bool (isV v key want)) ∧ Below w.heap.size w w' := by
  obtain ⟨k1, k2, k3, k4, hform⟩ := hv.form
  have hb1 := (Below.refl w.heap.size w).alloc (Nat.le_refl _) (.cells cs.toArray 28)
  have hc := refField_any v key (w.alloc (.cells cs.toArray 28)) L N cs (hv.below (hb1.mono hN)) (by simp; omega)
  have hn := @isV_none v key want
  have hs := @isV_some v key want
  obtain ⟨KEY, hKEY⟩ : ∃ D : ByteArray, (⟨key.toArray⟩ : ByteArray) = D := ⟨_, rfl⟩
  obtain ⟨u, hu⟩ : ∃ u, (fieldV key v).getD V.zero = u := ⟨_, rfl⟩
  obtain ⟨s, hss⟩ : ∃ s, (fieldV key v).isSome = s := ⟨_, rfl⟩
  rw [hu, hss] at hc
  rw [hss] at hn hs
  rw [hu] at hs
  rw [hKEY] at hc ⊢
  obtain ⟨I, hI⟩ : ∃ I, isV v key want = I := ⟨_, rfl⟩
  rw [hI] at hn hs ⊢
  obtain ⟨a, b, t, A, n, c, A', n', c', rfl⟩ : ∃ a b t A n c A' n' c', cs = [.int .i64 a, .int .i64 b, .string t, .slice A n c, .slice A' n' c'] := ⟨_, _, _, _, _, _, _, _, _, hform⟩
  have HC := Lib.hid hc; have HB1 := Lib.hid hb1; have HF := Lib.hid (fun w L N cs (h : VIs w L N u cs) => h.form)
  clear hc hb1 hform hv hN hu hss hI hKEY
  cases s with
  | false =>
    obtain rfl := hn rfl
    clear hn hs
    go_enter Tryd.func29, Tryd.ntmps29
    go_wp2_with fail
    refine HC.out.mono ?_
    rintro e w2 ⟨⟨k, n, t, A, a, b, A', a', b', rfl, hv2⟩, hb2⟩
    have HB2 := Lib.hid (HB1.out.chain hb2); clear hb2 hv2
    dsimp only
    go_wp2
    go_ret
    exact ⟨rfl, HB2.out.alloc HB2.out.size _⟩
  | true =>
    obtain rfl := hs rfl
    clear hn hs
    go_enter Tryd.func29, Tryd.ntmps29
    go_wp2_with fail
    refine HC.out.mono ?_
    rintro e w2 ⟨⟨k, n, t, A, a, b, A', a', b', rfl, hv2⟩, hb2⟩
    obtain ⟨z1, z2, z3, z4, hz⟩ := HF.out _ _ _ _ hv2
    injection hz with e1 hz; injection hz with e2 hz; injection hz with e3 hz
    injection e1 with e1 e1'
    injection e3 with e3
    subst e1' e3
    have HB2 := Lib.hid (HB1.out.chain hb2); clear hb2 hv2 hz e2
    dsimp only
    by_cases hk : u.kind = 4
    · have hk2 : (u.kind == 4) = true := by simp [hk]
      have htl := toList_eq u.text want
      go_wp2
      go_ret
      exact ⟨ret_bool (by by_cases h : u.text = want <;> simp [h]), HB2.out.alloc HB2.out.size _⟩
    · have hk2 : (u.kind == 4) = false := by simp [hk]
      go_wp2
      go_ret
      exact ⟨ret_bool rfl, HB2.out.alloc HB2.out.size _⟩
end Go.Proofs.YtcbajbpdgmmaeaaDoor
