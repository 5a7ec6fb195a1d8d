/- Texts merged by program, in build order: JsonRField, RegInv, ObjReg7. -/
import Derived.Test.YthbbeojhipcjiaaDoorJso07
import Derived.Test.YthbbeojhipcjiaaDoorJso08
import Derived.Test.YthbbeojhipcjiaaDoorJso01
import Derived.StillTail
import Derived.Deep.RegionHeld3
import Derived.Test.YthbbeojhipcjiaaDoorJso06
namespace Go.Proofs.YthbbeojhipcjiaaDoor
open Go.RowKit
set_option linter.unusedVariables false
set_option linter.unusedSimpArgs false

theorem zero_isF (w : World) (L N : Nat) : VIs w L N V.zero [.int .i64 0, .int .i64 0, .string ⟨#[]⟩, .slice none 0 0, .slice none 0 0] := VIs.mk (t := []) (l := []) (ks := []) ⟨by simp, by simp, by simp, by simp⟩ (.inl rfl) (.inl rfl)
theorem fieldV_hit {key : List UInt8} {n : Int} {t : List UInt8} {l : List V} {ks : List (List UInt8)} {j : Nat} (hj : j < ks.length) (hl : j < l.length) (h : ks[j] = key) (hne : ∀ i (hi : i < ks.length), i < j → ks[i] ≠ key) : fieldV key (.mk 6 n t l ks) = some l[j] := by
  show (if (6 : Int) = 6 ∧ keyAt key ks < ks.length then l[keyAt key ks]? else none) = _
  rw [keyAt_is key ks j hj h hne, if_pos ⟨rfl, hj⟩, List.getElem?_eq_getElem hl]
theorem fieldV_miss {key : List UInt8} {n : Int} {t : List UInt8} {l : List V} {ks : List (List UInt8)} {j : Nat} (hj : ks.length ≤ j ∨ l.length ≤ j) (hne : ∀ i (hi : i < ks.length), i < j → ks[i] ≠ key) : fieldV key (.mk 6 n t l ks) = none := by
  show (if (6 : Int) = 6 ∧ keyAt key ks < ks.length then l[keyAt key ks]? else none) = _
  by_cases h : keyAt key ks < ks.length
  · rw [if_pos ⟨rfl, h⟩]
    refine List.getElem?_eq_none ?_
    rcases Nat.lt_or_ge (keyAt key ks) j with h' | h'
    · exact absurd (keyAt_hit key ks h) (hne _ h h')
    · rcases hj with hj | hj <;> omega
  · rw [if_neg (fun e => h e.2)]
theorem fieldV_not {key : List UInt8} {k n : Int} {t : List UInt8} {l : List V} {ks : List (List UInt8)} (h : k ≠ 6) : fieldV key (.mk k n t l ks) = none := by
  show (if k = 6 ∧ keyAt key ks < ks.length then l[keyAt key ks]? else none) = _
  rw [if_neg (fun e => h e.1)]
set_option maxRecDepth 100000 in
set_option maxHeartbeats 40000000 in
theorem refField_any (v : V) (key : List UInt8) (w : World) (L N : Nat) (cs : List Value) (hv : VIs w L N v cs) (hN : N ≤ w.heap.size) :
    Calls Tryd.prog 22 #[.agg cs.toArray, .string ⟨key.toArray⟩] w fun e w' => (∃ k n t A a b A' a' b', e = .returned (.tuple #[.agg #[.int .i64 k, .int .i64 n, .string t, .slice A a b, .slice A' a' b'], .bool (fieldV key v).isSome]) ∧
      VIs w' L N ((fieldV key v).getD V.zero) [.int .i64 k, .int .i64 n, .string t, .slice A a b, .slice A' a' b']) ∧ Below w.heap.size w w' := by
  obtain ⟨k, n, t, l, ks⟩ := v
  obtain ⟨⟨ml, mk, -, -⟩, A, c, A', c', rfl, h1, h2⟩ := hv.out
  have HIT := Lib.hid (fun (j : Nat) (hj : j < ks.length) (hl : j < l.length) (h : ks[j] = key) (hne : ∀ i (hi : i < ks.length), i < j → ks[i] ≠ key) => fieldV_hit (n := n) (t := t) hj hl h hne)
  have MISS := Lib.hid (fun (j : Nat) (hj : ks.length ≤ j ∨ l.length ≤ j) (hne : ∀ i (hi : i < ks.length), i < j → ks[i] ≠ key) => fieldV_miss (key := key) (n := n) (t := t) hj hne)
  obtain ⟨nl, hnl⟩ : ∃ nl, l.length = nl := ⟨_, rfl⟩
  obtain ⟨nk, hnk⟩ : ∃ nk, ks.length = nk := ⟨_, rfl⟩
  rw [hnl] at ml ⊢
  rw [hnk] at mk ⊢
  obtain ⟨F, hF⟩ : ∃ F, fieldV key (.mk k n t l ks) = F := ⟨_, rfl⟩
  rw [hF]
  have hb0 := ((Below.refl w.heap.size w).alloc (Nat.le_refl _) (.cells #[.int .i64 k, .int .i64 n, .string ⟨t.toArray⟩, .slice A nl c, .slice A' nk c'] 28)).alloc (by simp) (.cells #[.int .i64 0, .int .i64 0, .string ⟨#[]⟩, .slice none 0 0, .slice none 0 0] 28)
  obtain ⟨W2, hW2⟩ : ∃ W2, W2 = ((w.alloc (.cells #[.int .i64 k, .int .i64 n, .string ⟨t.toArray⟩, .slice A nl c, .slice A' nk c'] 28)).alloc (.cells #[.int .i64 0, .int .i64 0, .string ⟨#[]⟩, .slice none 0 0, .slice none 0 0] 28)) := ⟨_, rfl⟩
  rw [← hW2] at hb0
  have x1 : W2.heap[w.heap.size]? = some (.cells #[.int .i64 k, .int .i64 n, .string ⟨t.toArray⟩, .slice A nl c, .slice A' nk c'] 28 (0, 0)) := by
    rw [hW2, Below.heap_alloc _ _ _ (by simp)]; exact heap_alloc_last w _
  have x2 : W2.heap[w.heap.size + 1]? = some (.cells #[.int .i64 0, .int .i64 0, .string ⟨#[]⟩, .slice none 0 0, .slice none 0 0] 28 (0, 0)) := by
    rw [hW2]
    have := heap_alloc_last (w.alloc (.cells #[.int .i64 k, .int .i64 n, .string ⟨t.toArray⟩, .slice A nl c, .slice A' nk c'] 28)) (.cells #[.int .i64 0, .int .i64 0, .string ⟨#[]⟩, .slice none 0 0, .slice none 0 0] 28)
    simpa using this
  have HW2 := Lib.hid hW2; have HB0 := Lib.hid hb0; have X1 := Lib.hid x1; have X2 := Lib.hid x2; have NL := Lib.hid hnl; have NK := Lib.hid hnk; have H1 := Lib.hid h1; have H2 := Lib.hid h2; have HF := Lib.hid hF
  clear hv h1 h2 hW2 hb0 x1 x2 hnl hnk hF
  by_cases hk6 : k = 6
  · subst hk6
    go_enter Tryd.func22, Tryd.ntmps22
    go_wp2_with fail
    rw [← HW2.out]
    go_loopw [6] (fun i wr => ∃ j : Nat, j ≤ nk ∧ i = .int .i64 j ∧ (∀ i (hi : i < ks.length), i < j → ks[i] ≠ key) ∧ W2 = wr) (fun i _ => nk - (intOf i).toNat)
    case atStart => exact ⟨0, Nat.zero_le _, rfl, fun _ _ h => absurd h (Nat.not_lt_zero _), rfl⟩
    case round =>
      obtain ⟨j, hj, rfl, hne, rfl⟩ := hrel
      have HNE := Lib.hid hne
      clear hne
      obtain ⟨⟨e0, e1, e2, e3, e4⟩, -⟩ := box_of X1.out
      obtain ⟨⟨p0, p1, p2, p3, p4⟩, q0, q1, q2, q3, q4⟩ := box_of X2.out
      by_cases hjk : j < nk
      · by_cases hjl : j < nl
        · have hjk' : j < ks.length := by have := NK.out; omega
          have hjl' : j < l.length := by have := NL.out; omega
          obtain ⟨p, o, rfl, _, hpN, hc⟩ := VIs.key H1.out j hjk'
          obtain ⟨p', o', rfl, _, hpN', xs, hx5, hxv⟩ := VIs.item H2.out j hjl'
          have hc := (HB0.out.cell (p := ⟨p, o + j, none⟩) (by show p < _; omega)).trans hc
          have T1 := Lib.hid (HIT.out j hjk' hjl')
          have T2 := Lib.hid (fun (h : ks[j] ≠ key) i (hi : i < ks.length) (hij : i < j + 1) => (show ks[i] ≠ key from if e : i = j then by subst e; exact h else HNE.out i hi (by omega)))
          have hx6 := hx5.keep (w' := W2) hpN' (fun r hr => (HB0.out.mono hN).cell hr)
          have hxv2 := hxv.below (HB0.out.mono hN)
          obtain ⟨x, hx⟩ : ∃ x, ks[j] = x := ⟨_, rfl⟩
          rw [hx] at hc T1 T2
          obtain ⟨y, hy⟩ : ∃ y, l[j] = y := ⟨_, rfl⟩
          rw [hy] at hxv2 T1
          obtain ⟨u1, u2, u3, u4, rfl⟩ := hxv2.form
          obtain ⟨a0, a1, a2, a3, a4, ea, m0, m1, m2, m3, m4⟩ := hx6
          injection ea with ea0 ea; injection ea with ea1 ea; injection ea with ea2 ea; injection ea with ea3 ea; injection ea with ea4 ea
          subst ea0; subst ea1; subst ea2; subst ea3; subst ea4
          have HXV := Lib.hid hxv2
          have hj0 : (0 : Int) ≤ j := by omega
          have hj1 : (j : Int) < nk := by omega
          have hj2 : (j : Int) < nl := by omega
          have hpw : p' ≠ w.heap.size + 1 := by omega
          clear hx5 hxv hxv2 hx hy
          by_cases hxk : x = key
          · subst hxk
            have hbe : (x == x) = true := by simp
            have T3 := Lib.hid (T1.out rfl HNE.out); clear T1 T2
            go_wp2_with fail
            obtain ⟨wf, hwf⟩ : ∃ wf, wf = set5 W2 (w.heap.size + 1) 0 (.int .i64 y.kind) (.int .i64 y.num) (.string ⟨y.text.toArray⟩) (.slice u1 y.list.length u2) (.slice u3 y.keys.length u4) := ⟨_, rfl⟩
            change bodyPost _ _ _ _ _ (set5 W2 (w.heap.size + 1) 0 (.int .i64 y.kind) (.int .i64 y.num) (.string ⟨y.text.toArray⟩) (.slice u1 y.list.length u2) (.slice u3 y.keys.length u4))
            rw [← hwf]
            have hy : wf.heap[w.heap.size + 1]? = some (.cells #[.int .i64 y.kind, .int .i64 y.num, .string ⟨y.text.toArray⟩, .slice u1 y.list.length u2, .slice u3 y.keys.length u4] 28 (0, 0)) := by rw [hwf]; exact set5_here X2.out
            have hbf : Below w.heap.size w wf := by rw [hwf]; exact HB0.out.trans (set5_below (by omega))
            have hvf : VIs wf L N y [.int .i64 y.kind, .int .i64 y.num, .string ⟨y.text.toArray⟩, .slice u1 y.list.length u2, .slice u3 y.keys.length u4] :=
              HXV.out.keep fun p hp => World.cell?_of_block (w := W2) (by rw [hwf]; exact set5_there (by omega))
            obtain ⟨⟨g0, g1, g2, g3, g4⟩, -⟩ := box_of hy
            have e : F = some y := HF.out.symm.trans T3.out
            subst e
            have HBF := Lib.hid hbf; have HVF := Lib.hid hvf
            clear hbf hvf hwf hy p0 p1 p2 p3 p4 q0 q1 q2 q3 q4 e0 e1 e2 e3 e4 m0 m1 m2 m3 m4
            refine bodyPost_ret (v := .tuple #[.agg #[.int .i64 y.kind, .int .i64 y.num, .string ⟨y.text.toArray⟩, .slice u1 y.list.length u2, .slice u3 y.keys.length u4], .bool true]) (by simp [results, Tryd.results22, go_sem, g0, g1, g2, g3, g4]) rfl ?_
            exact ⟨⟨_, _, _, _, _, _, _, _, _, rfl, HVF.out⟩, HBF.out⟩
          · have hbe : (x == key) = false := by rw [beq_eq_false_iff_ne]; exact hxk
            have T3 := Lib.hid (T2.out hxk); clear T1 T2 hxk
            go_wp2_with fail
            exact ⟨⟨j + 1, by omega, by go_num, T3.out, trivial⟩, by simp [intOf]; omega⟩
        · have T3 := Lib.hid (MISS.out j (.inr (by have := NL.out; omega)) HNE.out)
          have d1 : decide ((j : Int) < (nl : Int)) = false := by simp; omega
          have d2 : decide ((j : Int) < (nk : Int)) = true := by simp; omega
          have e : F = none := HF.out.symm.trans T3.out
          subst e
          go_wp2_with fail
          obtain ⟨wf, hwf⟩ : ∃ wf, wf = set5 W2 (w.heap.size + 1) 0 (.int .i64 0) (.int .i64 0) (.string ⟨#[]⟩) (.slice none 0 0) (.slice none 0 0) := ⟨_, rfl⟩
          change bodyPost _ _ _ _ _ (set5 W2 (w.heap.size + 1) 0 (.int .i64 0) (.int .i64 0) (.string ⟨#[]⟩) (.slice none 0 0) (.slice none 0 0))
          rw [← hwf]
          have hy : wf.heap[w.heap.size + 1]? = some (.cells #[.int .i64 0, .int .i64 0, .string ⟨#[]⟩, .slice none 0 0, .slice none 0 0] 28 (0, 0)) := by rw [hwf]; exact set5_here X2.out
          have hbf : Below w.heap.size w wf := by rw [hwf]; exact HB0.out.trans (set5_below (by omega))
          obtain ⟨⟨g0, g1, g2, g3, g4⟩, -⟩ := box_of hy
          have HBF := Lib.hid hbf
          clear hbf hwf hy p0 p1 p2 p3 p4 q0 q1 q2 q3 q4 e0 e1 e2 e3 e4
          refine bodyPost_ret (v := .tuple #[.agg #[.int .i64 0, .int .i64 0, .string ⟨#[]⟩, .slice none 0 0, .slice none 0 0], .bool false]) (by simp [results, Tryd.results22, go_sem, g0, g1, g2, g3, g4]) rfl ?_
          exact ⟨⟨_, _, _, _, _, _, _, _, _, rfl, zero_isF _ _ _⟩, HBF.out⟩
      · obtain rfl : j = nk := by omega
        have T3 := Lib.hid (MISS.out j (.inl (by have := NK.out; omega)) HNE.out)
        have e : F = none := HF.out.symm.trans T3.out
        subst e
        go_wp2_with fail
        obtain ⟨wf, hwf⟩ : ∃ wf, wf = set5 W2 (w.heap.size + 1) 0 (.int .i64 0) (.int .i64 0) (.string ⟨#[]⟩) (.slice none 0 0) (.slice none 0 0) := ⟨_, rfl⟩
        change bodyPost _ _ _ _ _ (set5 W2 (w.heap.size + 1) 0 (.int .i64 0) (.int .i64 0) (.string ⟨#[]⟩) (.slice none 0 0) (.slice none 0 0))
        rw [← hwf]
        have hy : wf.heap[w.heap.size + 1]? = some (.cells #[.int .i64 0, .int .i64 0, .string ⟨#[]⟩, .slice none 0 0, .slice none 0 0] 28 (0, 0)) := by rw [hwf]; exact set5_here X2.out
        have hbf : Below w.heap.size w wf := by rw [hwf]; exact HB0.out.trans (set5_below (by omega))
        obtain ⟨⟨g0, g1, g2, g3, g4⟩, -⟩ := box_of hy
        have HBF := Lib.hid hbf
        clear hbf hwf hy p0 p1 p2 p3 p4 q0 q1 q2 q3 q4 e0 e1 e2 e3 e4
        refine bodyPost_ret (v := .tuple #[.agg #[.int .i64 0, .int .i64 0, .string ⟨#[]⟩, .slice none 0 0, .slice none 0 0], .bool false]) (by simp [results, Tryd.results22, go_sem, g0, g1, g2, g3, g4]) rfl ?_
        exact ⟨⟨_, _, _, _, _, _, _, _, _, rfl, zero_isF _ _ _⟩, HBF.out⟩
  · have d6 : (k == 6) = false := by simpa using hk6
    have e : F = none := HF.out.symm.trans (fieldV_not hk6)
    subst e
    clear hk6
    go_enter Tryd.func22, Tryd.ntmps22
    go_wp2_with fail
    rw [← HW2.out]
    go_loopw [6] (fun i wr => i = .int .i64 0 ∧ W2 = wr) (fun i _ => 0)
    case atStart => exact ⟨rfl, rfl⟩
    case round =>
      obtain ⟨rfl, rfl⟩ := hrel
      obtain ⟨⟨e0, e1, e2, e3, e4⟩, -⟩ := box_of X1.out
      obtain ⟨⟨p0, p1, p2, p3, p4⟩, q0, q1, q2, q3, q4⟩ := box_of X2.out
      go_wp2_with fail
      obtain ⟨wf, hwf⟩ : ∃ wf, wf = set5 W2 (w.heap.size + 1) 0 (.int .i64 0) (.int .i64 0) (.string ⟨#[]⟩) (.slice none 0 0) (.slice none 0 0) := ⟨_, rfl⟩
      change bodyPost _ _ _ _ _ (set5 W2 (w.heap.size + 1) 0 (.int .i64 0) (.int .i64 0) (.string ⟨#[]⟩) (.slice none 0 0) (.slice none 0 0))
      rw [← hwf]
      have hy : wf.heap[w.heap.size + 1]? = some (.cells #[.int .i64 0, .int .i64 0, .string ⟨#[]⟩, .slice none 0 0, .slice none 0 0] 28 (0, 0)) := by rw [hwf]; exact set5_here X2.out
      have hbf : Below w.heap.size w wf := by rw [hwf]; exact HB0.out.trans (set5_below (by omega))
      obtain ⟨⟨g0, g1, g2, g3, g4⟩, -⟩ := box_of hy
      have HBF := Lib.hid hbf
      clear hbf hwf hy p0 p1 p2 p3 p4 q0 q1 q2 q3 q4 e0 e1 e2 e3 e4
      refine bodyPost_ret (v := .tuple #[.agg #[.int .i64 0, .int .i64 0, .string ⟨#[]⟩, .slice none 0 0, .slice none 0 0], .bool false]) (by simp [results, Tryd.results22, go_sem, g0, g1, g2, g3, g4]) rfl ?_
      exact ⟨⟨_, _, _, _, _, _, _, _, _, rfl, zero_isF _ _ _⟩, HBF.out⟩
end Go.Proofs.YthbbeojhipcjiaaDoor
namespace Go.Proofs.YthbbeojhipcjiaaDoor
open Go.RowKit

/-- what is listed is closed under what it waits for -/
structure Closed (md : Region.Mode) (ops : Array Oper) (listed : Array Bool) : Prop where
  size : listed.size = ops.size
  dep : ∀ j oj, ops[j]? = some oj → listed.getD j false = true → ∀ e ∈ oj.after, Region.binds md e = true → listed.getD e.on false = true
theorem Closed.on {md : Region.Mode} {ops : Array Oper} {listed : Array Bool} (h : Closed md ops listed) {j i : Nat} (hw : Region.waitsFor md ops j i = true) (hj : listed.getD j false = true) : listed.getD i false = true := by
  obtain ⟨oj, hoj, e, he, hb, rfl⟩ := Region.waitsFor_spec hw
  exact h.dep j oj hoj hj e he hb
/-- every operation waits for such alone as stand ahead of it -/
def dagB (md : Region.Mode) (ops : Array Oper) : Bool := (List.range ops.size).all fun j => match ops[j]? with
  | some o => o.after.all fun e => !Region.binds md e || decide (e.on < j)
  | none => true
theorem dagB_spec {md : Region.Mode} {ops : Array Oper} (h : dagB md ops = true) {j : Nat} {o : Oper} (ho : ops[j]? = some o) {e : Edge} (he : e ∈ o.after) (hb : Region.binds md e = true) : e.on < j := by
  have hj : j < ops.size := (Array.getElem?_eq_some_iff.1 ho).1
  have h1 := List.all_eq_true.1 h j (List.mem_range.2 hj)
  rw [ho] at h1
  have h2 := Array.all_eq_true'.1 h1 e he
  simp [hb] at h2
  exact h2
theorem countP_lt {p q : Nat → Bool} : ∀ (l : List Nat), (∀ x, q x = true → p x = true) → ∀ i ∈ l, p i = true → q i = false → l.countP q < l.countP p
  | [], _, i, hi, _, _ => by cases hi
  | x :: r, h, i, hi, hp, hq => by
    have hle : r.countP q ≤ r.countP p := List.countP_mono_left fun y _ hy => h y hy
    rcases List.mem_cons.1 hi with rfl | hi
    · rw [List.countP_cons_of_pos hp, List.countP_cons_of_neg (by rw [hq]; decide)]; omega
    · have ih := countP_lt r h i hi hp hq
      rw [List.countP_cons, List.countP_cons]
      by_cases hx : q x = true
      · rw [if_pos hx, if_pos (h x hx)]; omega
      · rw [if_neg hx]; omega
def unlisted (n : Nat) (listed : Array Bool) : Nat := (List.range n).countP fun i => !listed.getD i true
section
variable {P : Program} {md : Region.Mode} {ops : Array Oper} {Q : Exit → Act → World → Prop}
theorem ready_all (hd : dagB md ops = true) {listed : Array Bool} (hs : listed.size = ops.size) (hr : Region.ready md ops listed = []) : ∀ i, i < ops.size → listed.getD i false = true := by
  intro i
  induction i using Nat.strongRecOn with
  | _ i ih =>
    intro hi
    cases hl : listed.getD i false with
    | true => rfl
    | false =>
      have h1 := getD_in (by omega) hl
      have : i ∈ Region.ready md ops listed := mem_ready.2 ⟨h1, ops[i], Array.getElem?_eq_getElem hi, fun e he hb => by
        have hlt := dagB_spec hd (Array.getElem?_eq_getElem hi) he hb
        exact ih e.on hlt (by omega)⟩
      rw [hr] at this; cases this
theorem wpAny_inv (hd : dagB md ops = true) (I : Array Bool → Act → World → Prop)
    (hstep : ∀ listed a w i, Closed md ops listed → i ∈ Region.ready md ops listed → I listed a w → wpOp P ops Q i (I (listed.setIfInBounds i true)) a w)
    (hend : ∀ listed a w, (∀ i, i < ops.size → listed.getD i false = true) → I listed a w → Q .normal a w) :
    ∀ (fuel : Nat) (listed : Array Bool) (a : Act) (w : World), Closed md ops listed → unlisted ops.size listed ≤ fuel → I listed a w → wpAny P md ops Q fuel listed a w
  | 0, listed, a, w, hc, hf, hI => by
    have hr : Region.ready md ops listed = [] := by
      rcases hr : Region.ready md ops listed with _ | ⟨i, r⟩
      · rfl
      · have hi : i ∈ Region.ready md ops listed := by rw [hr]; exact List.mem_cons_self ..
        obtain ⟨h1, o, ho, _⟩ := mem_ready.1 hi
        have hil := (Array.getElem?_eq_some_iff.1 ho).1
        have : 0 < unlisted ops.size listed := List.countP_pos_iff.2 ⟨i, List.mem_range.2 hil, by rw [h1]; rfl⟩
        omega
    exact ⟨hr, hend listed a w (ready_all hd hc.size hr) hI⟩
  | fuel + 1, listed, a, w, hc, hf, hI => by
    refine ⟨fun hr => hend listed a w (ready_all hd hc.size hr) hI, fun i hi => ?_⟩
    obtain ⟨h1, o, ho, hall⟩ := mem_ready.1 hi
    have hil := (Array.getElem?_eq_some_iff.1 ho).1
    refine wpOp_mono (fun a' w' h' => wpAny_inv hd I hstep hend fuel _ a' w' ?_ ?_ h') (hstep listed a w i hc hi hI)
    · refine ⟨by simp [hc.size], fun j oj hj hl e he hb => ?_⟩
      by_cases hij : i = j
      · subst hij
        have : oj = o := Option.some.inj (hj.symm.trans ho)
        subst this
        exact getD_set_true (hall e he hb)
      · rw [getD_set_ne false hij] at hl
        exact getD_set_true (hc.dep j oj hj hl e he hb)
    · have hlt : unlisted ops.size (listed.setIfInBounds i true) < unlisted ops.size listed := by
        refine countP_lt _ (fun x hx => ?_) i (List.mem_range.2 hil) (by rw [h1]; rfl) ?_
        · by_cases hij : i = x
          · subst hij
            have : (listed.setIfInBounds i true).getD i true = true := by simp [hc.size, hil]
            rw [this] at hx; cases hx
          · rwa [getD_set_ne true hij] at hx
        · have : (listed.setIfInBounds i true).getD i true = true := by simp [hc.size, hil]
          rw [this]; rfl
      omega
/-- THE REGION, by an invariant -/
theorem wp_region_inv {id : Nat} {a : Act} {w : World} (hm : P.follows .mixedOrders = true) (hd : dagB .any ops = true) (I : Array Bool → Act → World → Prop) (h0 : I (Array.replicate ops.size false) a w.drew)
    (hstep : ∀ listed a w i, Closed .any ops listed → i ∈ Region.ready .any ops listed → I listed a w → wpOp P ops Q i (I (listed.setIfInBounds i true)) a w)
    (hend : ∀ listed a w, (∀ i, i < ops.size → listed.getD i false = true) → I listed a w → Q .normal a w) : (Code.region id ops true).wp P Q a w :=
  wp_region_any hm (wpAny_inv hd I hstep hend ops.size _ a w.drew ⟨by simp, fun j oj hj hl => by rw [getD_replicate_false] at hl; cases hl⟩ (Nat.le_trans (List.countP_le_length ..) (by simp)) h0)
/-- the same, the invariant told of the state that the region begins with -/
theorem wp_region_invA {id : Nat} {a : Act} {w : World} (J : Act → Array Bool → Act → World → Prop) (hm : P.follows .mixedOrders = true) (hd : dagB .any ops = true) (h0 : J a (Array.replicate ops.size false) a w.drew)
    (hstep : ∀ listed a' w' i, Closed .any ops listed → i ∈ Region.ready .any ops listed → J a listed a' w' → wpOp P ops Q i (J a (listed.setIfInBounds i true)) a' w')
    (hend : ∀ listed a' w', (∀ i, i < ops.size → listed.getD i false = true) → J a listed a' w' → Q .normal a' w') : (Code.region id ops true).wp P Q a w :=
  wp_region_inv hm hd (J a) h0 hstep hend
theorem listed_now {listed : Array Bool} {i : Nat} (hc : Closed md ops listed) (hi : i ∈ Region.ready md ops listed) : (listed.setIfInBounds i true).getD i false = true := by
  obtain ⟨_, o, ho, _⟩ := mem_ready.1 hi
  have hil := (Array.getElem?_eq_some_iff.1 ho).1
  simp [hc.size, hil]
theorem listed_iff (listed : Array Bool) (i : Nat) : ∀ j, j ≠ i → ((listed.setIfInBounds i true).getD j false = true ↔ listed.getD j false = true) := fun j hj => ⟨fun h => by rwa [getD_set_ne false (Ne.symm hj)] at h, getD_set_true⟩
/-- a step, the operation by what is told of it -/
theorem wpOp_at {i : Nat} {K : Act → World → Prop} {a : Act} {w : World} (F : Oper → Prop) (h : ∃ o, ops[i]? = some o ∧ F o)
    (k : ∀ o, F o → ∀ K' : Act → World → Prop, (∀ a w, K a w → K' a w) → if Region.wanted o (yielded ops a.tmps) = true then Oper.wp P o a w K' Q else K' (a.put o.dst undef) w) : wpOp P ops Q i K a w := by
  obtain ⟨o, ho, hF⟩ := h
  exact wpOp_step ho (k o hF)
/-- what is listed behind a step was listed, or is the step's own -/
theorem listed_was {listed : Array Bool} {i j : Nat} (hij : i ≠ j) (h : (listed.setIfInBounds i true).getD j false = true) : listed.getD j false = true := by rwa [getD_set_ne false hij] at h
theorem listed_not {listed : Array Bool} {i j : Nat} (h : ¬ (listed.setIfInBounds i true).getD j false = true) : ¬ listed.getD j false = true := fun hj => h (getD_set_true hj)
theorem ready_not {listed : Array Bool} {i : Nat} (h : i ∈ Region.ready md ops listed) : ¬ listed.getD i false = true := by
  have h1 := getD_both (mem_ready.1 h).1
  rw [h1]; decide
theorem ready_on {listed : Array Bool} {i k : Nat} (h : i ∈ Region.ready md ops listed) (hw : Region.waitsFor md ops i k = true) : listed.getD k false = true := by
  obtain ⟨_, o, ho, hall⟩ := mem_ready.1 h
  obtain ⟨oj, hoj, e, he, hb, rfl⟩ := Region.waitsFor_spec hw
  have : oj = o := Option.some.inj (hoj.symm.trans ho)
  subst this
  exact hall e he hb
theorem ready_lt {listed : Array Bool} {i : Nat} (h : i ∈ Region.ready md ops listed) : i < ops.size := by
  obtain ⟨_, o, ho, _⟩ := mem_ready.1 h
  exact (Array.getElem?_eq_some_iff.1 ho).1
end
end Go.Proofs.YthbbeojhipcjiaaDoor
namespace Go.Proofs.YthbbeojhipcjiaaDoor
open Go.RowKit
set_option linter.unusedVariables false
set_option linter.unusedSimpArgs false

def acts7 (a : Act) (u26 u27 u28 u29 u30 u31 u32 u33 u34 u35 u36 u37 u38 : Value) : Act := { a with tmps := (((((((((((((a.tmps).setIfInBounds 26 u26).setIfInBounds 27 u27).setIfInBounds 28 u28).setIfInBounds 29 u29).setIfInBounds 30 u30).setIfInBounds 31 u31).setIfInBounds 32 u32).setIfInBounds 33 u33).setIfInBounds 34 u34).setIfInBounds 35 u35).setIfInBounds 36 u36).setIfInBounds 37 u37).setIfInBounds 38 u38 }
/-- what holds, whatever has come up: L says what has -/
structure RO (wc : World) (v0 sl kk pt p0 sA p1 sB wd : Value) (F : World → Value → Prop) (G : World → Prop) (L : Nat → Prop) (u26 u27 u28 u29 u30 u31 u32 u33 u34 u35 u36 u37 u38 : Value) (wr : World) : Prop where
  f0 : L 0 → u26 = v0
  f1 : L 1 → u27 = sl
  f2 : L 2 → u28 = kk
  f3 : L 3 → u29 = pt
  f4 : L 4 → u30 = p0
  f5 : L 5 → u31 = sA
  f6 : L 6 → u32 = sl
  f7 : L 7 → u33 = kk
  f8 : L 8 → u34 = pt
  f9 : L 9 → u35 = p1
  f10 : L 10 → u36 = sB
  f11 : L 11 → u37 = wd
  f12 : L 12 → ¬ L 13 → F wr u38
  f13 : L 13 → G wr
  low : ¬ L 13 → Below wc.heap.size wc wr

theorem RO.s0 {wc : World} {v0 sl kk pt p0 sA p1 sB wd : Value} {F : World → Value → Prop} {G : World → Prop} {L L' : Nat → Prop} {u26 u27 u28 u29 u30 u31 u32 u33 u34 u35 u36 u37 u38 : Value} {wr : World} (h : RO wc v0 sl kk pt p0 sA p1 sB wd F G L u26 u27 u28 u29 u30 u31 u32 u33 u34 u35 u36 u37 u38 wr) (hL : ∀ j, j ≠ 0 → (L' j ↔ L j)) (hi : L' 0) : RO wc v0 sl kk pt p0 sA p1 sB wd F G L' (v0) u27 u28 u29 u30 u31 u32 u33 u34 u35 u36 u37 u38 wr := by
  refine ⟨?_, ?_, ?_, ?_, ?_, ?_, ?_, ?_, ?_, ?_, ?_, ?_, ?_, ?_, ?_⟩
  · exact fun _ => rfl
  · exact fun a => h.f1 ((hL 1 (by decide)).1 a)
  · exact fun a => h.f2 ((hL 2 (by decide)).1 a)
  · exact fun a => h.f3 ((hL 3 (by decide)).1 a)
  · exact fun a => h.f4 ((hL 4 (by decide)).1 a)
  · exact fun a => h.f5 ((hL 5 (by decide)).1 a)
  · exact fun a => h.f6 ((hL 6 (by decide)).1 a)
  · exact fun a => h.f7 ((hL 7 (by decide)).1 a)
  · exact fun a => h.f8 ((hL 8 (by decide)).1 a)
  · exact fun a => h.f9 ((hL 9 (by decide)).1 a)
  · exact fun a => h.f10 ((hL 10 (by decide)).1 a)
  · exact fun a => h.f11 ((hL 11 (by decide)).1 a)
  · exact fun a b => h.f12 ((hL 12 (by decide)).1 a) (fun x => b ((hL 13 (by decide)).2 x))
  · exact fun a => h.f13 ((hL 13 (by decide)).1 a)
  · exact fun n => h.low (fun x => n ((hL 13 (by decide)).2 x))
theorem RO.s1 {wc : World} {v0 sl kk pt p0 sA p1 sB wd : Value} {F : World → Value → Prop} {G : World → Prop} {L L' : Nat → Prop} {u26 u27 u28 u29 u30 u31 u32 u33 u34 u35 u36 u37 u38 : Value} {wr : World} (h : RO wc v0 sl kk pt p0 sA p1 sB wd F G L u26 u27 u28 u29 u30 u31 u32 u33 u34 u35 u36 u37 u38 wr) (hL : ∀ j, j ≠ 1 → (L' j ↔ L j)) (hi : L' 1) : RO wc v0 sl kk pt p0 sA p1 sB wd F G L' u26 (sl) u28 u29 u30 u31 u32 u33 u34 u35 u36 u37 u38 wr := by
  refine ⟨?_, ?_, ?_, ?_, ?_, ?_, ?_, ?_, ?_, ?_, ?_, ?_, ?_, ?_, ?_⟩
  · exact fun a => h.f0 ((hL 0 (by decide)).1 a)
  · exact fun _ => rfl
  · exact fun a => h.f2 ((hL 2 (by decide)).1 a)
  · exact fun a => h.f3 ((hL 3 (by decide)).1 a)
  · exact fun a => h.f4 ((hL 4 (by decide)).1 a)
  · exact fun a => h.f5 ((hL 5 (by decide)).1 a)
  · exact fun a => h.f6 ((hL 6 (by decide)).1 a)
  · exact fun a => h.f7 ((hL 7 (by decide)).1 a)
  · exact fun a => h.f8 ((hL 8 (by decide)).1 a)
  · exact fun a => h.f9 ((hL 9 (by decide)).1 a)
  · exact fun a => h.f10 ((hL 10 (by decide)).1 a)
  · exact fun a => h.f11 ((hL 11 (by decide)).1 a)
  · exact fun a b => h.f12 ((hL 12 (by decide)).1 a) (fun x => b ((hL 13 (by decide)).2 x))
  · exact fun a => h.f13 ((hL 13 (by decide)).1 a)
  · exact fun n => h.low (fun x => n ((hL 13 (by decide)).2 x))
theorem RO.s2 {wc : World} {v0 sl kk pt p0 sA p1 sB wd : Value} {F : World → Value → Prop} {G : World → Prop} {L L' : Nat → Prop} {u26 u27 u28 u29 u30 u31 u32 u33 u34 u35 u36 u37 u38 : Value} {wr : World} (h : RO wc v0 sl kk pt p0 sA p1 sB wd F G L u26 u27 u28 u29 u30 u31 u32 u33 u34 u35 u36 u37 u38 wr) (hL : ∀ j, j ≠ 2 → (L' j ↔ L j)) (hi : L' 2) : RO wc v0 sl kk pt p0 sA p1 sB wd F G L' u26 u27 (kk) u29 u30 u31 u32 u33 u34 u35 u36 u37 u38 wr := by
  refine ⟨?_, ?_, ?_, ?_, ?_, ?_, ?_, ?_, ?_, ?_, ?_, ?_, ?_, ?_, ?_⟩
  · exact fun a => h.f0 ((hL 0 (by decide)).1 a)
  · exact fun a => h.f1 ((hL 1 (by decide)).1 a)
  · exact fun _ => rfl
  · exact fun a => h.f3 ((hL 3 (by decide)).1 a)
  · exact fun a => h.f4 ((hL 4 (by decide)).1 a)
  · exact fun a => h.f5 ((hL 5 (by decide)).1 a)
  · exact fun a => h.f6 ((hL 6 (by decide)).1 a)
  · exact fun a => h.f7 ((hL 7 (by decide)).1 a)
  · exact fun a => h.f8 ((hL 8 (by decide)).1 a)
  · exact fun a => h.f9 ((hL 9 (by decide)).1 a)
  · exact fun a => h.f10 ((hL 10 (by decide)).1 a)
  · exact fun a => h.f11 ((hL 11 (by decide)).1 a)
  · exact fun a b => h.f12 ((hL 12 (by decide)).1 a) (fun x => b ((hL 13 (by decide)).2 x))
  · exact fun a => h.f13 ((hL 13 (by decide)).1 a)
  · exact fun n => h.low (fun x => n ((hL 13 (by decide)).2 x))
theorem RO.s3 {wc : World} {v0 sl kk pt p0 sA p1 sB wd : Value} {F : World → Value → Prop} {G : World → Prop} {L L' : Nat → Prop} {u26 u27 u28 u29 u30 u31 u32 u33 u34 u35 u36 u37 u38 : Value} {wr : World} (h : RO wc v0 sl kk pt p0 sA p1 sB wd F G L u26 u27 u28 u29 u30 u31 u32 u33 u34 u35 u36 u37 u38 wr) (hL : ∀ j, j ≠ 3 → (L' j ↔ L j)) (hi : L' 3) : RO wc v0 sl kk pt p0 sA p1 sB wd F G L' u26 u27 u28 (pt) u30 u31 u32 u33 u34 u35 u36 u37 u38 wr := by
  refine ⟨?_, ?_, ?_, ?_, ?_, ?_, ?_, ?_, ?_, ?_, ?_, ?_, ?_, ?_, ?_⟩
  · exact fun a => h.f0 ((hL 0 (by decide)).1 a)
  · exact fun a => h.f1 ((hL 1 (by decide)).1 a)
  · exact fun a => h.f2 ((hL 2 (by decide)).1 a)
  · exact fun _ => rfl
  · exact fun a => h.f4 ((hL 4 (by decide)).1 a)
  · exact fun a => h.f5 ((hL 5 (by decide)).1 a)
  · exact fun a => h.f6 ((hL 6 (by decide)).1 a)
  · exact fun a => h.f7 ((hL 7 (by decide)).1 a)
  · exact fun a => h.f8 ((hL 8 (by decide)).1 a)
  · exact fun a => h.f9 ((hL 9 (by decide)).1 a)
  · exact fun a => h.f10 ((hL 10 (by decide)).1 a)
  · exact fun a => h.f11 ((hL 11 (by decide)).1 a)
  · exact fun a b => h.f12 ((hL 12 (by decide)).1 a) (fun x => b ((hL 13 (by decide)).2 x))
  · exact fun a => h.f13 ((hL 13 (by decide)).1 a)
  · exact fun n => h.low (fun x => n ((hL 13 (by decide)).2 x))
theorem RO.s4 {wc : World} {v0 sl kk pt p0 sA p1 sB wd : Value} {F : World → Value → Prop} {G : World → Prop} {L L' : Nat → Prop} {u26 u27 u28 u29 u30 u31 u32 u33 u34 u35 u36 u37 u38 : Value} {wr : World} (h : RO wc v0 sl kk pt p0 sA p1 sB wd F G L u26 u27 u28 u29 u30 u31 u32 u33 u34 u35 u36 u37 u38 wr) (hL : ∀ j, j ≠ 4 → (L' j ↔ L j)) (hi : L' 4) : RO wc v0 sl kk pt p0 sA p1 sB wd F G L' u26 u27 u28 u29 (p0) u31 u32 u33 u34 u35 u36 u37 u38 wr := by
  refine ⟨?_, ?_, ?_, ?_, ?_, ?_, ?_, ?_, ?_, ?_, ?_, ?_, ?_, ?_, ?_⟩
  · exact fun a => h.f0 ((hL 0 (by decide)).1 a)
  · exact fun a => h.f1 ((hL 1 (by decide)).1 a)
  · exact fun a => h.f2 ((hL 2 (by decide)).1 a)
  · exact fun a => h.f3 ((hL 3 (by decide)).1 a)
  · exact fun _ => rfl
  · exact fun a => h.f5 ((hL 5 (by decide)).1 a)
  · exact fun a => h.f6 ((hL 6 (by decide)).1 a)
  · exact fun a => h.f7 ((hL 7 (by decide)).1 a)
  · exact fun a => h.f8 ((hL 8 (by decide)).1 a)
  · exact fun a => h.f9 ((hL 9 (by decide)).1 a)
  · exact fun a => h.f10 ((hL 10 (by decide)).1 a)
  · exact fun a => h.f11 ((hL 11 (by decide)).1 a)
  · exact fun a b => h.f12 ((hL 12 (by decide)).1 a) (fun x => b ((hL 13 (by decide)).2 x))
  · exact fun a => h.f13 ((hL 13 (by decide)).1 a)
  · exact fun n => h.low (fun x => n ((hL 13 (by decide)).2 x))
theorem RO.s5 {wc : World} {v0 sl kk pt p0 sA p1 sB wd : Value} {F : World → Value → Prop} {G : World → Prop} {L L' : Nat → Prop} {u26 u27 u28 u29 u30 u31 u32 u33 u34 u35 u36 u37 u38 : Value} {wr : World} (h : RO wc v0 sl kk pt p0 sA p1 sB wd F G L u26 u27 u28 u29 u30 u31 u32 u33 u34 u35 u36 u37 u38 wr) (hL : ∀ j, j ≠ 5 → (L' j ↔ L j)) (hi : L' 5) : RO wc v0 sl kk pt p0 sA p1 sB wd F G L' u26 u27 u28 u29 u30 (sA) u32 u33 u34 u35 u36 u37 u38 wr := by
  refine ⟨?_, ?_, ?_, ?_, ?_, ?_, ?_, ?_, ?_, ?_, ?_, ?_, ?_, ?_, ?_⟩
  · exact fun a => h.f0 ((hL 0 (by decide)).1 a)
  · exact fun a => h.f1 ((hL 1 (by decide)).1 a)
  · exact fun a => h.f2 ((hL 2 (by decide)).1 a)
  · exact fun a => h.f3 ((hL 3 (by decide)).1 a)
  · exact fun a => h.f4 ((hL 4 (by decide)).1 a)
  · exact fun _ => rfl
  · exact fun a => h.f6 ((hL 6 (by decide)).1 a)
  · exact fun a => h.f7 ((hL 7 (by decide)).1 a)
  · exact fun a => h.f8 ((hL 8 (by decide)).1 a)
  · exact fun a => h.f9 ((hL 9 (by decide)).1 a)
  · exact fun a => h.f10 ((hL 10 (by decide)).1 a)
  · exact fun a => h.f11 ((hL 11 (by decide)).1 a)
  · exact fun a b => h.f12 ((hL 12 (by decide)).1 a) (fun x => b ((hL 13 (by decide)).2 x))
  · exact fun a => h.f13 ((hL 13 (by decide)).1 a)
  · exact fun n => h.low (fun x => n ((hL 13 (by decide)).2 x))
theorem RO.s6 {wc : World} {v0 sl kk pt p0 sA p1 sB wd : Value} {F : World → Value → Prop} {G : World → Prop} {L L' : Nat → Prop} {u26 u27 u28 u29 u30 u31 u32 u33 u34 u35 u36 u37 u38 : Value} {wr : World} (h : RO wc v0 sl kk pt p0 sA p1 sB wd F G L u26 u27 u28 u29 u30 u31 u32 u33 u34 u35 u36 u37 u38 wr) (hL : ∀ j, j ≠ 6 → (L' j ↔ L j)) (hi : L' 6) : RO wc v0 sl kk pt p0 sA p1 sB wd F G L' u26 u27 u28 u29 u30 u31 (sl) u33 u34 u35 u36 u37 u38 wr := by
  refine ⟨?_, ?_, ?_, ?_, ?_, ?_, ?_, ?_, ?_, ?_, ?_, ?_, ?_, ?_, ?_⟩
  · exact fun a => h.f0 ((hL 0 (by decide)).1 a)
  · exact fun a => h.f1 ((hL 1 (by decide)).1 a)
  · exact fun a => h.f2 ((hL 2 (by decide)).1 a)
  · exact fun a => h.f3 ((hL 3 (by decide)).1 a)
  · exact fun a => h.f4 ((hL 4 (by decide)).1 a)
  · exact fun a => h.f5 ((hL 5 (by decide)).1 a)
  · exact fun _ => rfl
  · exact fun a => h.f7 ((hL 7 (by decide)).1 a)
  · exact fun a => h.f8 ((hL 8 (by decide)).1 a)
  · exact fun a => h.f9 ((hL 9 (by decide)).1 a)
  · exact fun a => h.f10 ((hL 10 (by decide)).1 a)
  · exact fun a => h.f11 ((hL 11 (by decide)).1 a)
  · exact fun a b => h.f12 ((hL 12 (by decide)).1 a) (fun x => b ((hL 13 (by decide)).2 x))
  · exact fun a => h.f13 ((hL 13 (by decide)).1 a)
  · exact fun n => h.low (fun x => n ((hL 13 (by decide)).2 x))
theorem RO.s7 {wc : World} {v0 sl kk pt p0 sA p1 sB wd : Value} {F : World → Value → Prop} {G : World → Prop} {L L' : Nat → Prop} {u26 u27 u28 u29 u30 u31 u32 u33 u34 u35 u36 u37 u38 : Value} {wr : World} (h : RO wc v0 sl kk pt p0 sA p1 sB wd F G L u26 u27 u28 u29 u30 u31 u32 u33 u34 u35 u36 u37 u38 wr) (hL : ∀ j, j ≠ 7 → (L' j ↔ L j)) (hi : L' 7) : RO wc v0 sl kk pt p0 sA p1 sB wd F G L' u26 u27 u28 u29 u30 u31 u32 (kk) u34 u35 u36 u37 u38 wr := by
  refine ⟨?_, ?_, ?_, ?_, ?_, ?_, ?_, ?_, ?_, ?_, ?_, ?_, ?_, ?_, ?_⟩
  · exact fun a => h.f0 ((hL 0 (by decide)).1 a)
  · exact fun a => h.f1 ((hL 1 (by decide)).1 a)
  · exact fun a => h.f2 ((hL 2 (by decide)).1 a)
  · exact fun a => h.f3 ((hL 3 (by decide)).1 a)
  · exact fun a => h.f4 ((hL 4 (by decide)).1 a)
  · exact fun a => h.f5 ((hL 5 (by decide)).1 a)
  · exact fun a => h.f6 ((hL 6 (by decide)).1 a)
  · exact fun _ => rfl
  · exact fun a => h.f8 ((hL 8 (by decide)).1 a)
  · exact fun a => h.f9 ((hL 9 (by decide)).1 a)
  · exact fun a => h.f10 ((hL 10 (by decide)).1 a)
  · exact fun a => h.f11 ((hL 11 (by decide)).1 a)
  · exact fun a b => h.f12 ((hL 12 (by decide)).1 a) (fun x => b ((hL 13 (by decide)).2 x))
  · exact fun a => h.f13 ((hL 13 (by decide)).1 a)
  · exact fun n => h.low (fun x => n ((hL 13 (by decide)).2 x))
theorem RO.s8 {wc : World} {v0 sl kk pt p0 sA p1 sB wd : Value} {F : World → Value → Prop} {G : World → Prop} {L L' : Nat → Prop} {u26 u27 u28 u29 u30 u31 u32 u33 u34 u35 u36 u37 u38 : Value} {wr : World} (h : RO wc v0 sl kk pt p0 sA p1 sB wd F G L u26 u27 u28 u29 u30 u31 u32 u33 u34 u35 u36 u37 u38 wr) (hL : ∀ j, j ≠ 8 → (L' j ↔ L j)) (hi : L' 8) : RO wc v0 sl kk pt p0 sA p1 sB wd F G L' u26 u27 u28 u29 u30 u31 u32 u33 (pt) u35 u36 u37 u38 wr := by
  refine ⟨?_, ?_, ?_, ?_, ?_, ?_, ?_, ?_, ?_, ?_, ?_, ?_, ?_, ?_, ?_⟩
  · exact fun a => h.f0 ((hL 0 (by decide)).1 a)
  · exact fun a => h.f1 ((hL 1 (by decide)).1 a)
  · exact fun a => h.f2 ((hL 2 (by decide)).1 a)
  · exact fun a => h.f3 ((hL 3 (by decide)).1 a)
  · exact fun a => h.f4 ((hL 4 (by decide)).1 a)
  · exact fun a => h.f5 ((hL 5 (by decide)).1 a)
  · exact fun a => h.f6 ((hL 6 (by decide)).1 a)
  · exact fun a => h.f7 ((hL 7 (by decide)).1 a)
  · exact fun _ => rfl
  · exact fun a => h.f9 ((hL 9 (by decide)).1 a)
  · exact fun a => h.f10 ((hL 10 (by decide)).1 a)
  · exact fun a => h.f11 ((hL 11 (by decide)).1 a)
  · exact fun a b => h.f12 ((hL 12 (by decide)).1 a) (fun x => b ((hL 13 (by decide)).2 x))
  · exact fun a => h.f13 ((hL 13 (by decide)).1 a)
  · exact fun n => h.low (fun x => n ((hL 13 (by decide)).2 x))
theorem RO.s9 {wc : World} {v0 sl kk pt p0 sA p1 sB wd : Value} {F : World → Value → Prop} {G : World → Prop} {L L' : Nat → Prop} {u26 u27 u28 u29 u30 u31 u32 u33 u34 u35 u36 u37 u38 : Value} {wr : World} (h : RO wc v0 sl kk pt p0 sA p1 sB wd F G L u26 u27 u28 u29 u30 u31 u32 u33 u34 u35 u36 u37 u38 wr) (hL : ∀ j, j ≠ 9 → (L' j ↔ L j)) (hi : L' 9) : RO wc v0 sl kk pt p0 sA p1 sB wd F G L' u26 u27 u28 u29 u30 u31 u32 u33 u34 (p1) u36 u37 u38 wr := by
  refine ⟨?_, ?_, ?_, ?_, ?_, ?_, ?_, ?_, ?_, ?_, ?_, ?_, ?_, ?_, ?_⟩
  · exact fun a => h.f0 ((hL 0 (by decide)).1 a)
  · exact fun a => h.f1 ((hL 1 (by decide)).1 a)
  · exact fun a => h.f2 ((hL 2 (by decide)).1 a)
  · exact fun a => h.f3 ((hL 3 (by decide)).1 a)
  · exact fun a => h.f4 ((hL 4 (by decide)).1 a)
  · exact fun a => h.f5 ((hL 5 (by decide)).1 a)
  · exact fun a => h.f6 ((hL 6 (by decide)).1 a)
  · exact fun a => h.f7 ((hL 7 (by decide)).1 a)
  · exact fun a => h.f8 ((hL 8 (by decide)).1 a)
  · exact fun _ => rfl
  · exact fun a => h.f10 ((hL 10 (by decide)).1 a)
  · exact fun a => h.f11 ((hL 11 (by decide)).1 a)
  · exact fun a b => h.f12 ((hL 12 (by decide)).1 a) (fun x => b ((hL 13 (by decide)).2 x))
  · exact fun a => h.f13 ((hL 13 (by decide)).1 a)
  · exact fun n => h.low (fun x => n ((hL 13 (by decide)).2 x))
theorem RO.s10 {wc : World} {v0 sl kk pt p0 sA p1 sB wd : Value} {F : World → Value → Prop} {G : World → Prop} {L L' : Nat → Prop} {u26 u27 u28 u29 u30 u31 u32 u33 u34 u35 u36 u37 u38 : Value} {wr : World} (h : RO wc v0 sl kk pt p0 sA p1 sB wd F G L u26 u27 u28 u29 u30 u31 u32 u33 u34 u35 u36 u37 u38 wr) (hL : ∀ j, j ≠ 10 → (L' j ↔ L j)) (hi : L' 10) : RO wc v0 sl kk pt p0 sA p1 sB wd F G L' u26 u27 u28 u29 u30 u31 u32 u33 u34 u35 (sB) u37 u38 wr := by
  refine ⟨?_, ?_, ?_, ?_, ?_, ?_, ?_, ?_, ?_, ?_, ?_, ?_, ?_, ?_, ?_⟩
  · exact fun a => h.f0 ((hL 0 (by decide)).1 a)
  · exact fun a => h.f1 ((hL 1 (by decide)).1 a)
  · exact fun a => h.f2 ((hL 2 (by decide)).1 a)
  · exact fun a => h.f3 ((hL 3 (by decide)).1 a)
  · exact fun a => h.f4 ((hL 4 (by decide)).1 a)
  · exact fun a => h.f5 ((hL 5 (by decide)).1 a)
  · exact fun a => h.f6 ((hL 6 (by decide)).1 a)
  · exact fun a => h.f7 ((hL 7 (by decide)).1 a)
  · exact fun a => h.f8 ((hL 8 (by decide)).1 a)
  · exact fun a => h.f9 ((hL 9 (by decide)).1 a)
  · exact fun _ => rfl
  · exact fun a => h.f11 ((hL 11 (by decide)).1 a)
  · exact fun a b => h.f12 ((hL 12 (by decide)).1 a) (fun x => b ((hL 13 (by decide)).2 x))
  · exact fun a => h.f13 ((hL 13 (by decide)).1 a)
  · exact fun n => h.low (fun x => n ((hL 13 (by decide)).2 x))
theorem RO.s11 {wc : World} {v0 sl kk pt p0 sA p1 sB wd : Value} {F : World → Value → Prop} {G : World → Prop} {L L' : Nat → Prop} {u26 u27 u28 u29 u30 u31 u32 u33 u34 u35 u36 u37 u38 : Value} {wr : World} {wy : World} (h : RO wc v0 sl kk pt p0 sA p1 sB wd F G L u26 u27 u28 u29 u30 u31 u32 u33 u34 u35 u36 u37 u38 wr) (hL : ∀ j, j ≠ 11 → (L' j ↔ L j)) (hi : L' 11) (n12 : ¬ L 12) (n13 : ¬ L 13) (hb : Below wc.heap.size wc wy) : RO wc v0 sl kk pt p0 sA p1 sB wd F G L' u26 u27 u28 u29 u30 u31 u32 u33 u34 u35 u36 (wd) u38 wy := by
  refine ⟨?_, ?_, ?_, ?_, ?_, ?_, ?_, ?_, ?_, ?_, ?_, ?_, ?_, ?_, ?_⟩
  · exact fun a => h.f0 ((hL 0 (by decide)).1 a)
  · exact fun a => h.f1 ((hL 1 (by decide)).1 a)
  · exact fun a => h.f2 ((hL 2 (by decide)).1 a)
  · exact fun a => h.f3 ((hL 3 (by decide)).1 a)
  · exact fun a => h.f4 ((hL 4 (by decide)).1 a)
  · exact fun a => h.f5 ((hL 5 (by decide)).1 a)
  · exact fun a => h.f6 ((hL 6 (by decide)).1 a)
  · exact fun a => h.f7 ((hL 7 (by decide)).1 a)
  · exact fun a => h.f8 ((hL 8 (by decide)).1 a)
  · exact fun a => h.f9 ((hL 9 (by decide)).1 a)
  · exact fun a => h.f10 ((hL 10 (by decide)).1 a)
  · exact fun _ => rfl
  · exact fun a _ => absurd ((hL 12 (by decide)).1 a) n12
  · exact fun a => absurd ((hL 13 (by decide)).1 a) n13
  · exact fun _ => hb
theorem RO.s12 {wc : World} {v0 sl kk pt p0 sA p1 sB wd : Value} {F : World → Value → Prop} {G : World → Prop} {L L' : Nat → Prop} {u26 u27 u28 u29 u30 u31 u32 u33 u34 u35 u36 u37 u38 : Value} {wr : World} {wz : World} {v : Value} (h : RO wc v0 sl kk pt p0 sA p1 sB wd F G L u26 u27 u28 u29 u30 u31 u32 u33 u34 u35 u36 u37 u38 wr) (hL : ∀ j, j ≠ 12 → (L' j ↔ L j)) (hi : L' 12) (n13 : ¬ L 13) (hb : Below wc.heap.size wc wz) (hF : F wz v) : RO wc v0 sl kk pt p0 sA p1 sB wd F G L' u26 u27 u28 u29 u30 u31 u32 u33 u34 u35 u36 u37 v wz := by
  refine ⟨?_, ?_, ?_, ?_, ?_, ?_, ?_, ?_, ?_, ?_, ?_, ?_, ?_, ?_, ?_⟩
  · exact fun a => h.f0 ((hL 0 (by decide)).1 a)
  · exact fun a => h.f1 ((hL 1 (by decide)).1 a)
  · exact fun a => h.f2 ((hL 2 (by decide)).1 a)
  · exact fun a => h.f3 ((hL 3 (by decide)).1 a)
  · exact fun a => h.f4 ((hL 4 (by decide)).1 a)
  · exact fun a => h.f5 ((hL 5 (by decide)).1 a)
  · exact fun a => h.f6 ((hL 6 (by decide)).1 a)
  · exact fun a => h.f7 ((hL 7 (by decide)).1 a)
  · exact fun a => h.f8 ((hL 8 (by decide)).1 a)
  · exact fun a => h.f9 ((hL 9 (by decide)).1 a)
  · exact fun a => h.f10 ((hL 10 (by decide)).1 a)
  · exact fun a => h.f11 ((hL 11 (by decide)).1 a)
  · exact fun _ _ => hF
  · exact fun a => absurd ((hL 13 (by decide)).1 a) n13
  · exact fun _ => hb
theorem RO.s13 {wc : World} {v0 sl kk pt p0 sA p1 sB wd : Value} {F : World → Value → Prop} {G : World → Prop} {L L' : Nat → Prop} {u26 u27 u28 u29 u30 u31 u32 u33 u34 u35 u36 u37 u38 : Value} {wr : World} {wz : World} (h : RO wc v0 sl kk pt p0 sA p1 sB wd F G L u26 u27 u28 u29 u30 u31 u32 u33 u34 u35 u36 u37 u38 wr) (hL : ∀ j, j ≠ 13 → (L' j ↔ L j)) (hi : L' 13) (hG : G wz) : RO wc v0 sl kk pt p0 sA p1 sB wd F G L' u26 u27 u28 u29 u30 u31 u32 u33 u34 u35 u36 u37 u38 wz := by
  refine ⟨?_, ?_, ?_, ?_, ?_, ?_, ?_, ?_, ?_, ?_, ?_, ?_, ?_, ?_, ?_⟩
  · exact fun a => h.f0 ((hL 0 (by decide)).1 a)
  · exact fun a => h.f1 ((hL 1 (by decide)).1 a)
  · exact fun a => h.f2 ((hL 2 (by decide)).1 a)
  · exact fun a => h.f3 ((hL 3 (by decide)).1 a)
  · exact fun a => h.f4 ((hL 4 (by decide)).1 a)
  · exact fun a => h.f5 ((hL 5 (by decide)).1 a)
  · exact fun a => h.f6 ((hL 6 (by decide)).1 a)
  · exact fun a => h.f7 ((hL 7 (by decide)).1 a)
  · exact fun a => h.f8 ((hL 8 (by decide)).1 a)
  · exact fun a => h.f9 ((hL 9 (by decide)).1 a)
  · exact fun a => h.f10 ((hL 10 (by decide)).1 a)
  · exact fun a => h.f11 ((hL 11 (by decide)).1 a)
  · exact fun _ n => absurd hi n
  · exact fun _ => hG
  · exact fun n => absurd hi n
end Go.Proofs.YthbbeojhipcjiaaDoor
