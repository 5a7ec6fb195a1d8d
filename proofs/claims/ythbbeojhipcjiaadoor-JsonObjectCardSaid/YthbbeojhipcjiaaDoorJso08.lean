/- Texts merged by program, in build order: JsonFit, JsonWithin, JsonFits, JsonField. -/
import Derived.Test.YthbbeojhipcjiaaDoorJso07
import Derived.Deep.RegionHeld3
import Derived.Test.YthbbeojhipcjiaaDoorJso02
namespace Go.Proofs.YthbbeojhipcjiaaDoor
open Go.RowKit
set_option linter.unusedVariables false
set_option linter.unusedSimpArgs false

/-- what a value must be by itself, as the code reckons it -/
def headC (k n : Int) (t : List UInt8) (ll : Nat) (ks : List (List UInt8)) : Bool :=
  decide (1 ≤ k ∧ k ≤ 6) && decide ((if k = 3 then -9007199254740992 else 0) ≤ n) && decide (n ≤ (if k = 2 then 1 else if k = 3 then 9007199254740992 else 0)) && (t.isEmpty || decide (k = 4)) &&
  decide (ll ≤ (if k = 5 ∨ k = 6 then 64 else 0)) && decide (ks.length = (if k = 6 then ll else 0)) && unlikeB ks
theorem headC_eq (k n : Int) (t : List UInt8) (ll : Nat) (ks : List (List UInt8)) : headB k n t ll ks = headC k n t ll ks := by
  by_cases hk : 1 ≤ k ∧ k ≤ 6
  · have hk' : k = 1 ∨ k = 2 ∨ k = 3 ∨ k = 4 ∨ k = 5 ∨ k = 6 := by omega
    unfold headB headC
    rw [Bool.eq_iff_iff]
    generalize unlikeB ks = U
    simp only [Bool.and_eq_true, Bool.or_eq_true, decide_eq_true_eq, List.isEmpty_iff]
    cases ks with
    | nil =>
      cases t with
      | nil => rcases hk' with rfl | rfl | rfl | rfl | rfl | rfl <;> simp <;> omega
      | cons x r => rcases hk' with rfl | rfl | rfl | rfl | rfl | rfl <;> simp <;> omega
    | cons y s =>
      cases t with
      | nil => rcases hk' with rfl | rfl | rfl | rfl | rfl | rfl <;> simp <;> omega
      | cons x r => rcases hk' with rfl | rfl | rfl | rfl | rfl | rfl <;> simp <;> omega
  · unfold headB headC
    rw [decide_eq_false hk]; rfl
theorem head_t1 (n : Int) (t : List UInt8) (ll : Nat) (ks : List (List UInt8)) {k : Int} (h : ¬ (1 ≤ k ∧ k ≤ 6)) : headC k n t ll ks = false := by unfold headC; rw [decide_eq_false h]; rfl
set_option maxRecDepth 100000 in
set_option maxHeartbeats 4000000 in
theorem fieldsFit_any (v : V) (w : World) (L N b o : Nat) (cs : List Value) (h5 : Five w b o cs) (hbN : b < N) (hv : VIs w L N v cs) (hN : N ≤ w.heap.size) :
    Calls Tryd.prog 55 #[.pointer (some ⟨b, o, none⟩)] w fun e w' => e = .returned (.bool (headB v.kind v.num v.text v.list.length v.keys)) ∧ Below w.heap.size w w' := by
  obtain ⟨k, n, t, l, ks⟩ := v
  rw [headC_eq]
  show Calls Tryd.prog 55 #[.pointer (some ⟨b, o, none⟩)] w fun e w' => e = .returned (.bool (headC k n t l.length ks)) ∧ Below w.heap.size w w'
  obtain ⟨⟨ml, mk, mt, mx⟩, A, c, A', c', rfl, h1, h2⟩ := hv.out
  obtain ⟨c0, c1, c2, c3, c4, e, m0, m1, m2, m3, m4⟩ := h5
  injection e with e0 e; injection e with e1 e; injection e with e2 e; injection e with e3 e; injection e with e4 e
  subst e0; subst e1; subst e2; subst e3; subst e4
  have hun := fun wq (hb : Below w.heap.size w wq) => unlike_any A' c' L N ks mk mx wq (Nat.le_trans hN hb.size) (by
    rcases h1 with h | ⟨p, q, e, h⟩
    · exact .inl h
    · exact .inr ⟨p, q, e, h.below (hb.mono hN)⟩)
  generalize l.length = ll at *
  obtain ⟨U, hU⟩ : ∃ U, unlikeB ks = U := ⟨_, rfl⟩
  have hH : headC k n t ll ks = (decide (1 ≤ k ∧ k ≤ 6) && decide ((if k = 3 then -9007199254740992 else 0) ≤ n) && decide (n ≤ (if k = 2 then 1 else if k = 3 then 9007199254740992 else 0)) && (t.isEmpty || decide (k = 4)) && decide (ll ≤ (if k = 5 ∨ k = 6 then 64 else 0)) && decide (ks.length = (if k = 6 then ll else 0)) && U) := by rw [← hU]; rfl
  generalize headC k n t ll ks = H at *
  rw [hU] at hun
  generalize ks.length = lk at *
  have HUN := Lib.hid (fun wq hb => hun wq hb); have HH := Lib.hid hH
  clear hun hH h1 h2 hv hU mx
  have hbw := Below.refl w.heap.size w
  have HBW := Lib.hid hbw; clear hbw
  by_cases hk : 1 ≤ k ∧ k ≤ 6
  · have hk' : k = 1 ∨ k = 2 ∨ k = 3 ∨ k = 4 ∨ k = 5 ∨ k = 6 := by omega
    clear hk
    rcases hk' with rfl | rfl | rfl | rfl | rfl | rfl
    · -- kind 1
      by_cases q1 : (0 : Int) ≤ n
      · have d1 : decide ((0 : Int) ≤ n) = true := decide_eq_true q1
        by_cases q2 : n ≤ (0 : Int)
        · have d2 : decide (n ≤ (0 : Int)) = true := decide_eq_true q2
          obtain rfl : n = 0 := by omega
          clear d1 d2 q1 q2
          cases t with
          | nil =>
            cases ll with
            | succ ll =>
              have d4 : decide (((ll + 1 : Nat) : Int) ≤ 0) = false := decide_eq_false (by omega)
              go_enter Tryd.func55, Tryd.ntmps55
              go_wp2
              go_ret
              exact ⟨ret_bool (HH.out.trans (by clear HH; cases U <;> simp <;> omega)).symm, HBW.out⟩
            | zero =>
              cases lk with
              | succ lk =>
                have d5 : (((lk + 1 : Nat) : Int) == 0) = false := by simp; omega
                go_enter Tryd.func55, Tryd.ntmps55
                go_wp2
                go_ret
                exact ⟨ret_bool (HH.out.trans (by clear HH; cases U <;> simp <;> omega)).symm, HBW.out⟩
              | zero =>
                go_enter Tryd.func55, Tryd.ntmps55
                go_wp2_with (go_at_call 75; with_reducible refine (HUN.out _ (HBW.out)).mono ?_; rintro e1 w1 ⟨rfl, hb1⟩)
                go_ret
                exact ⟨ret_bool (HH.out.trans (by clear HH; cases U <;> simp <;> omega)).symm, hb1⟩
          | cons x r =>
            have d3 : ((x :: r) == ([] : List UInt8)) = false := rfl
            go_enter Tryd.func55, Tryd.ntmps55
            go_wp2
            go_ret
            exact ⟨ret_bool (HH.out.trans (by clear HH; cases U <;> simp <;> omega)).symm, HBW.out⟩
        · have d2 : decide (n ≤ (0 : Int)) = false := decide_eq_false q2
          go_enter Tryd.func55, Tryd.ntmps55
          go_wp2
          go_ret
          exact ⟨ret_bool (HH.out.trans (by clear HH; cases U <;> simp <;> omega)).symm, HBW.out⟩
      · have d1 : decide ((0 : Int) ≤ n) = false := decide_eq_false q1
        go_enter Tryd.func55, Tryd.ntmps55
        go_wp2
        go_ret
        exact ⟨ret_bool (HH.out.trans (by clear HH; cases U <;> simp <;> omega)).symm, HBW.out⟩
    · -- kind 2
      by_cases q1 : (0 : Int) ≤ n
      · have d1 : decide ((0 : Int) ≤ n) = true := decide_eq_true q1
        by_cases q2 : n ≤ (1 : Int)
        · have d2 : decide (n ≤ (1 : Int)) = true := decide_eq_true q2
          cases t with
          | nil =>
            cases ll with
            | succ ll =>
              have d4 : decide (((ll + 1 : Nat) : Int) ≤ 0) = false := decide_eq_false (by omega)
              go_enter Tryd.func55, Tryd.ntmps55
              go_wp2
              go_ret
              exact ⟨ret_bool (HH.out.trans (by clear HH; cases U <;> simp <;> omega)).symm, HBW.out⟩
            | zero =>
              cases lk with
              | succ lk =>
                have d5 : (((lk + 1 : Nat) : Int) == 0) = false := by simp; omega
                go_enter Tryd.func55, Tryd.ntmps55
                go_wp2
                go_ret
                exact ⟨ret_bool (HH.out.trans (by clear HH; cases U <;> simp <;> omega)).symm, HBW.out⟩
              | zero =>
                go_enter Tryd.func55, Tryd.ntmps55
                go_wp2_with (go_at_call 75; with_reducible refine (HUN.out _ (HBW.out)).mono ?_; rintro e1 w1 ⟨rfl, hb1⟩)
                go_ret
                exact ⟨ret_bool (HH.out.trans (by clear HH; cases U <;> simp <;> omega)).symm, hb1⟩
          | cons x r =>
            have d3 : ((x :: r) == ([] : List UInt8)) = false := rfl
            go_enter Tryd.func55, Tryd.ntmps55
            go_wp2
            go_ret
            exact ⟨ret_bool (HH.out.trans (by clear HH; cases U <;> simp <;> omega)).symm, HBW.out⟩
        · have d2 : decide (n ≤ (1 : Int)) = false := decide_eq_false q2
          go_enter Tryd.func55, Tryd.ntmps55
          go_wp2
          go_ret
          exact ⟨ret_bool (HH.out.trans (by clear HH; cases U <;> simp <;> omega)).symm, HBW.out⟩
      · have d1 : decide ((0 : Int) ≤ n) = false := decide_eq_false q1
        go_enter Tryd.func55, Tryd.ntmps55
        go_wp2
        go_ret
        exact ⟨ret_bool (HH.out.trans (by clear HH; cases U <;> simp <;> omega)).symm, HBW.out⟩
    · -- kind 3
      by_cases q1 : (-9007199254740992 : Int) ≤ n
      · have d1 : decide ((-9007199254740992 : Int) ≤ n) = true := decide_eq_true q1
        by_cases q2 : n ≤ (9007199254740992 : Int)
        · have d2 : decide (n ≤ (9007199254740992 : Int)) = true := decide_eq_true q2
          cases t with
          | nil =>
            cases ll with
            | succ ll =>
              have d4 : decide (((ll + 1 : Nat) : Int) ≤ 0) = false := decide_eq_false (by omega)
              go_enter Tryd.func55, Tryd.ntmps55
              go_wp2
              go_ret
              exact ⟨ret_bool (HH.out.trans (by clear HH; cases U <;> simp <;> omega)).symm, HBW.out⟩
            | zero =>
              cases lk with
              | succ lk =>
                have d5 : (((lk + 1 : Nat) : Int) == 0) = false := by simp; omega
                go_enter Tryd.func55, Tryd.ntmps55
                go_wp2
                go_ret
                exact ⟨ret_bool (HH.out.trans (by clear HH; cases U <;> simp <;> omega)).symm, HBW.out⟩
              | zero =>
                go_enter Tryd.func55, Tryd.ntmps55
                go_wp2_with (go_at_call 75; with_reducible refine (HUN.out _ (HBW.out)).mono ?_; rintro e1 w1 ⟨rfl, hb1⟩)
                go_ret
                exact ⟨ret_bool (HH.out.trans (by clear HH; cases U <;> simp <;> omega)).symm, hb1⟩
          | cons x r =>
            have d3 : ((x :: r) == ([] : List UInt8)) = false := rfl
            go_enter Tryd.func55, Tryd.ntmps55
            go_wp2
            go_ret
            exact ⟨ret_bool (HH.out.trans (by clear HH; cases U <;> simp <;> omega)).symm, HBW.out⟩
        · have d2 : decide (n ≤ (9007199254740992 : Int)) = false := decide_eq_false q2
          go_enter Tryd.func55, Tryd.ntmps55
          go_wp2
          go_ret
          exact ⟨ret_bool (HH.out.trans (by clear HH; cases U <;> simp <;> omega)).symm, HBW.out⟩
      · have d1 : decide ((-9007199254740992 : Int) ≤ n) = false := decide_eq_false q1
        go_enter Tryd.func55, Tryd.ntmps55
        go_wp2
        go_ret
        exact ⟨ret_bool (HH.out.trans (by clear HH; cases U <;> simp <;> omega)).symm, HBW.out⟩
    · -- kind 4
      by_cases q1 : (0 : Int) ≤ n
      · have d1 : decide ((0 : Int) ≤ n) = true := decide_eq_true q1
        by_cases q2 : n ≤ (0 : Int)
        · have d2 : decide (n ≤ (0 : Int)) = true := decide_eq_true q2
          obtain rfl : n = 0 := by omega
          clear d1 d2 q1 q2
          cases t with
          | nil =>
            cases ll with
            | succ ll =>
              have d4 : decide (((ll + 1 : Nat) : Int) ≤ 0) = false := decide_eq_false (by omega)
              go_enter Tryd.func55, Tryd.ntmps55
              go_wp2
              go_ret
              exact ⟨ret_bool (HH.out.trans (by clear HH; cases U <;> simp <;> omega)).symm, HBW.out⟩
            | zero =>
              cases lk with
              | succ lk =>
                have d5 : (((lk + 1 : Nat) : Int) == 0) = false := by simp; omega
                go_enter Tryd.func55, Tryd.ntmps55
                go_wp2
                go_ret
                exact ⟨ret_bool (HH.out.trans (by clear HH; cases U <;> simp <;> omega)).symm, HBW.out⟩
              | zero =>
                go_enter Tryd.func55, Tryd.ntmps55
                go_wp2_with (go_at_call 75; with_reducible refine (HUN.out _ (HBW.out)).mono ?_; rintro e1 w1 ⟨rfl, hb1⟩)
                go_ret
                exact ⟨ret_bool (HH.out.trans (by clear HH; cases U <;> simp <;> omega)).symm, hb1⟩
          | cons x r =>
            have d3 : ((x :: r) == ([] : List UInt8)) = false := rfl
            cases ll with
            | succ ll =>
              have d4 : decide (((ll + 1 : Nat) : Int) ≤ 0) = false := decide_eq_false (by omega)
              go_enter Tryd.func55, Tryd.ntmps55
              go_wp2
              go_ret
              exact ⟨ret_bool (HH.out.trans (by clear HH; cases U <;> simp <;> omega)).symm, HBW.out⟩
            | zero =>
              cases lk with
              | succ lk =>
                have d5 : (((lk + 1 : Nat) : Int) == 0) = false := by simp; omega
                go_enter Tryd.func55, Tryd.ntmps55
                go_wp2
                go_ret
                exact ⟨ret_bool (HH.out.trans (by clear HH; cases U <;> simp <;> omega)).symm, HBW.out⟩
              | zero =>
                go_enter Tryd.func55, Tryd.ntmps55
                go_wp2_with (go_at_call 75; with_reducible refine (HUN.out _ (HBW.out)).mono ?_; rintro e1 w1 ⟨rfl, hb1⟩)
                go_ret
                exact ⟨ret_bool (HH.out.trans (by clear HH; cases U <;> simp <;> omega)).symm, hb1⟩
        · have d2 : decide (n ≤ (0 : Int)) = false := decide_eq_false q2
          go_enter Tryd.func55, Tryd.ntmps55
          go_wp2
          go_ret
          exact ⟨ret_bool (HH.out.trans (by clear HH; cases U <;> simp <;> omega)).symm, HBW.out⟩
      · have d1 : decide ((0 : Int) ≤ n) = false := decide_eq_false q1
        go_enter Tryd.func55, Tryd.ntmps55
        go_wp2
        go_ret
        exact ⟨ret_bool (HH.out.trans (by clear HH; cases U <;> simp <;> omega)).symm, HBW.out⟩
    · -- kind 5
      by_cases q1 : (0 : Int) ≤ n
      · have d1 : decide ((0 : Int) ≤ n) = true := decide_eq_true q1
        by_cases q2 : n ≤ (0 : Int)
        · have d2 : decide (n ≤ (0 : Int)) = true := decide_eq_true q2
          obtain rfl : n = 0 := by omega
          clear d1 d2 q1 q2
          cases t with
          | nil =>
            by_cases q4 : ll ≤ 64
            rotate_left
            · have d4 : decide ((ll : Int) ≤ 64) = false := decide_eq_false (by omega)
              go_enter Tryd.func55, Tryd.ntmps55
              go_wp2
              go_ret
              exact ⟨ret_bool (HH.out.trans (by clear HH; cases U <;> simp <;> omega)).symm, HBW.out⟩
            · have d4 : decide ((ll : Int) ≤ 64) = true := decide_eq_true (by omega)
              cases lk with
              | succ lk =>
                have d5 : (((lk + 1 : Nat) : Int) == 0) = false := by simp; omega
                go_enter Tryd.func55, Tryd.ntmps55
                go_wp2
                go_ret
                exact ⟨ret_bool (HH.out.trans (by clear HH; cases U <;> simp <;> omega)).symm, HBW.out⟩
              | zero =>
                go_enter Tryd.func55, Tryd.ntmps55
                go_wp2_with (go_at_call 75; with_reducible refine (HUN.out _ (HBW.out)).mono ?_; rintro e1 w1 ⟨rfl, hb1⟩)
                go_ret
                exact ⟨ret_bool (HH.out.trans (by clear HH; cases U <;> simp <;> omega)).symm, hb1⟩
          | cons x r =>
            have d3 : ((x :: r) == ([] : List UInt8)) = false := rfl
            go_enter Tryd.func55, Tryd.ntmps55
            go_wp2
            go_ret
            exact ⟨ret_bool (HH.out.trans (by clear HH; cases U <;> simp <;> omega)).symm, HBW.out⟩
        · have d2 : decide (n ≤ (0 : Int)) = false := decide_eq_false q2
          go_enter Tryd.func55, Tryd.ntmps55
          go_wp2
          go_ret
          exact ⟨ret_bool (HH.out.trans (by clear HH; cases U <;> simp <;> omega)).symm, HBW.out⟩
      · have d1 : decide ((0 : Int) ≤ n) = false := decide_eq_false q1
        go_enter Tryd.func55, Tryd.ntmps55
        go_wp2
        go_ret
        exact ⟨ret_bool (HH.out.trans (by clear HH; cases U <;> simp <;> omega)).symm, HBW.out⟩
    · -- kind 6
      by_cases q1 : (0 : Int) ≤ n
      · have d1 : decide ((0 : Int) ≤ n) = true := decide_eq_true q1
        by_cases q2 : n ≤ (0 : Int)
        · have d2 : decide (n ≤ (0 : Int)) = true := decide_eq_true q2
          obtain rfl : n = 0 := by omega
          clear d1 d2 q1 q2
          cases t with
          | nil =>
            by_cases q4 : ll ≤ 64
            rotate_left
            · have d4 : decide ((ll : Int) ≤ 64) = false := decide_eq_false (by omega)
              go_enter Tryd.func55, Tryd.ntmps55
              go_wp2_with fail
              go_region
              all_goals
                go_wp2
                go_ret
                exact ⟨ret_bool (HH.out.trans (by clear HH; cases U <;> simp <;> omega)).symm, HBW.out.drew⟩
            · have d4 : decide ((ll : Int) ≤ 64) = true := decide_eq_true (by omega)
              by_cases q5 : lk = ll
              · subst q5
                go_enter Tryd.func55, Tryd.ntmps55
                go_wp2_with fail
                go_region
                all_goals
                  go_wp2_with (go_at_call 75; with_reducible refine (HUN.out _ (HBW.out.drew)).mono ?_; rintro e1 w1 ⟨rfl, hb1⟩)
                  go_ret
                  exact ⟨ret_bool (HH.out.trans (by clear HH; cases U <;> simp <;> omega)).symm, below_drew2 _ _ hb1⟩
              · have d5 : ((lk : Int) == (ll : Int)) = false := by simp; omega
                go_enter Tryd.func55, Tryd.ntmps55
                go_wp2_with fail
                go_region
                all_goals
                  go_wp2
                  go_ret
                  exact ⟨ret_bool (HH.out.trans (by clear HH; cases U <;> simp <;> omega)).symm, HBW.out.drew⟩
          | cons x r =>
            have d3 : ((x :: r) == ([] : List UInt8)) = false := rfl
            go_enter Tryd.func55, Tryd.ntmps55
            go_wp2_with fail
            go_region
            all_goals
              go_wp2
              go_ret
              exact ⟨ret_bool (HH.out.trans (by clear HH; cases U <;> simp <;> omega)).symm, HBW.out.drew⟩
        · have d2 : decide (n ≤ (0 : Int)) = false := decide_eq_false q2
          go_enter Tryd.func55, Tryd.ntmps55
          go_wp2_with fail
          go_region
          all_goals
            go_wp2
            go_ret
            exact ⟨ret_bool (HH.out.trans (by clear HH; cases U <;> simp <;> omega)).symm, HBW.out.drew⟩
      · have d1 : decide ((0 : Int) ≤ n) = false := decide_eq_false q1
        go_enter Tryd.func55, Tryd.ntmps55
        go_wp2_with fail
        go_region
        all_goals
          go_wp2
          go_ret
          exact ⟨ret_bool (HH.out.trans (by clear HH; cases U <;> simp <;> omega)).symm, HBW.out.drew⟩
  · have d1 : (k == 1) = false := by simp; omega
    have d2 : (k == 2) = false := by simp; omega
    have d3 : (k == 3) = false := by simp; omega
    have d4 : (k == 4) = false := by simp; omega
    have d5 : (k == 5) = false := by simp; omega
    have d6 : (k == 6) = false := by simp; omega
    have hK := Lib.hid hk; clear hk
    go_enter Tryd.func55, Tryd.ntmps55
    go_wp2
    go_ret
    exact ⟨ret_bool (HH.out.trans (by rw [decide_eq_false hK.out]; rfl)).symm, HBW.out⟩
end Go.Proofs.YthbbeojhipcjiaaDoor
namespace Go.Proofs.YthbbeojhipcjiaaDoor
open Go.RowKit

theorem depth_of (k n : Int) (t : List UInt8) (l : List V) (ks : List (List UInt8)) (lv : Nat) (h : ∀ i (h : i < l.length), l[i].depth ≤ lv) : decide ((V.mk k n t l ks).depth ≤ lv + 1) = true := by
  rw [depth_mk]; have := (depths_iff l lv).2 h; simp; omega
theorem depth_not (k n : Int) (t : List UInt8) (l : List V) (ks : List (List UInt8)) (lv i : Nat) (hi : i < l.length) (h : ¬ l[i].depth ≤ lv) : decide ((V.mk k n t l ks).depth ≤ lv + 1) = false := by
  rw [depth_mk]
  have : ¬ V.depths l ≤ lv := fun h' => h ((depths_iff l lv).1 h' i hi)
  simp; omega
set_option maxRecDepth 100000 in
set_option maxHeartbeats 1000000 in
theorem within_at (m : Nat) : ∀ (v : V) (lv : Nat) (w : World) (L N b o : Nat) (cs : List Value), v.size ≤ m → lv ≤ 1000000 → Five w b o cs → b < N → VIs w L N v cs → N ≤ w.heap.size →
    Calls Tryd.prog 40 #[.pointer (some ⟨b, o, none⟩), .int .i64 lv] w fun e w' => e = .returned (.bool (decide (v.depth ≤ lv))) ∧ Below w.heap.size w w' := by
  induction m with
  | zero => intro v lv w L N b o cs hm; exact absurd (size_pos v) (by omega)
  | succ m ih =>
  intro v lv w L N b o cs hm hlv h5 hbN hv hN
  obtain ⟨k, n, t, l, ks⟩ := v
  obtain ⟨⟨ml, mk, -, -⟩, A, c, A', c', rfl, h1, h2⟩ := hv.out
  obtain ⟨c0, c1, c2, c3, c4, e, m0, m1, m2, m3, m4⟩ := h5
  injection e with e0 e; injection e with e1 e; injection e with e2 e; injection e with e3 e; injection e with e4 e
  subst e0; subst e1; subst e2; subst e3; subst e4
  cases lv with
  | zero =>
    have hz : decide ((V.mk k n t l ks).depth ≤ 0) = false := by rw [depth_mk]; simp
    rw [hz]
    go_enter Tryd.func40, Tryd.ntmps40
    go_wp2
    go_ret
    exact ⟨rfl, Below.refl _ _⟩
  | succ lv =>
    have q1 : (((lv + 1 : Nat) : Int) == 0) = false := by simp; omega
    have q2 : ((lv + 1 : Nat) : Int) - 1 = (lv : Int) := by omega
    have q3 : IntKind.i64.wrap (lv : Int) = (lv : Int) := by rw [IntKind.wrap_i64]; omega
    obtain ⟨x, hx⟩ : ∃ x : Int, ((lv + 1 : Nat) : Int) = x := ⟨_, rfl⟩
    have DO := Lib.hid (depth_of k n t l ks lv); have DN := Lib.hid (depth_not k n t l ks lv)
    obtain ⟨R, hR⟩ : ∃ R, decide ((V.mk k n t l ks).depth ≤ lv + 1) = R := ⟨_, rfl⟩
    rw [hR] at DO DN ⊢
    rw [hx] at q1 q2 ⊢
    obtain ⟨nl, hnl⟩ : ∃ nl, l.length = nl := ⟨_, rfl⟩
    rw [hnl] at ml m3
    have NL := Lib.hid hnl; have HM := Lib.hid hm; have H2 := Lib.hid h2
    clear hnl hx hR hv h1 h2 hm
    go_enter Tryd.func40, Tryd.ntmps40
    go_wp2_with fail
    go_loopw [13] (fun i wr => ∃ j : Nat, j ≤ nl ∧ i = .int .i64 j ∧ (∀ i (h : i < l.length), i < j → l[i].depth ≤ lv) ∧ Below w.heap.size w wr) (fun i _ => nl - (intOf i).toNat)
    case atStart => exact ⟨0, Nat.zero_le _, rfl, fun _ _ h => absurd h (Nat.not_lt_zero _), Below.refl _ _⟩
    case round =>
      obtain ⟨j, hj, rfl, hd, hb⟩ := hrel
      have HD := Lib.hid hd; have hs := hb.size; clear hd
      have m3' := (hb.cell (p := ⟨b, o + 3, none⟩) (by show b < _; omega)).trans m3
      by_cases hlt : j < nl
      · have hjl : j < l.length := by have := NL.out; omega
        obtain ⟨p, q, rfl, _, hpN, xs, hx5, hxv⟩ := VIs.item H2.out j hjl
        have hbN' := hb.mono hN
        have hc := fun wq (hwq : Below w.heap.size w wq) => ih l[j] lv wq L N p (q + j * 5) xs (by have := HM.out; have := size_get (k := k) (n := n) (t := t) (ks := ks) j hjl; omega) (by omega) (hx5.keep hpN (fun r hr => (hwq.mono hN).cell hr)) hpN (hxv.below (hwq.mono hN)) (Nat.le_trans hN hwq.size)
        have HC := Lib.hid hc; have HBW := Lib.hid hb
        have T2 := Lib.hid (DN.out j hjl)
        have T1 := Lib.hid (fun (h : l[j].depth ≤ lv) => show ∀ i (h : i < l.length), i < j + 1 → l[i].depth ≤ lv from fun i hi hij => by
          rcases Nat.lt_succ_iff_lt_or_eq.1 hij with h' | h'
          · exact HD.out i hi h'
          · subst h'; exact h)
        clear hc hx5 hxv hbN'
        generalize l[j] = x at *
        by_cases hxd : x.depth ≤ lv
        · have T3 := Lib.hid (T1.out hxd)
          have qd : decide (x.depth ≤ lv) = true := by simpa using hxd
          rw [qd] at HC
          clear T1 T2 hxd
          go_wp2_with (go_at_call 40; with_reducible refine (HC.out _ HBW.out).mono ?_; rintro e1 w1 ⟨rfl, hb1⟩)
          go_roundw
          case rel => exact ⟨j + 1, by omega, by go_num, T3.out, HBW.out.trans (hb1.mono hs)⟩
          case measure => simp [intOf]; omega
        · have T3 := Lib.hid (T2.out hxd)
          have qd : decide (x.depth ≤ lv) = false := by simpa using hxd
          rw [qd] at HC
          clear T1 T2 hxd
          go_wp2_with (go_at_call 40; with_reducible refine (HC.out _ HBW.out).mono ?_; rintro e1 w1 ⟨rfl, hb1⟩)
          go_ret
          exact ⟨ret_bool T3.out.symm, HBW.out.trans (hb1.mono hs)⟩
      · obtain rfl : nl = j := by omega
        have T3 := Lib.hid (DO.out fun i hi => HD.out i hi (by have := NL.out; omega))
        clear DO DN HD NL
        go_wp2
        go_ret
        exact ⟨ret_bool T3.out.symm, hb⟩
end Go.Proofs.YthbbeojhipcjiaaDoor
namespace Go.Proofs.YthbbeojhipcjiaaDoor
open Go.RowKit

set_option maxRecDepth 100000 in
set_option maxHeartbeats 1000000 in
theorem fits_at (m : Nat) : ∀ (v : V) (w : World) (L N b o : Nat) (cs : List Value), v.size ≤ m → Five w b o cs → b < N → VIs w L N v cs → N ≤ w.heap.size →
    Calls Tryd.prog 39 #[.pointer (some ⟨b, o, none⟩)] w fun e w' => e = .returned (.bool v.good) ∧ Below w.heap.size w w' := by
  induction m with
  | zero => intro v w L N b o cs hm; exact absurd (size_pos v) (by omega)
  | succ m ih =>
  intro v w L N b o cs hm h5 hbN hv hN
  have hff := fieldsFit_any v w L N b o cs h5 hbN hv hN
  obtain ⟨k, n, t, l, ks⟩ := v
  rw [good_mk]
  change Calls Tryd.prog _ _ _ (fun e w' => e = .returned (.bool (headB k n t l.length ks)) ∧ _) at hff
  obtain ⟨⟨ml, mk, -, -⟩, A, c, A', c', rfl, h1, h2⟩ := hv.out
  obtain ⟨c0, c1, c2, c3, c4, e, m0, m1, m2, m3, m4⟩ := h5
  injection e with e0 e; injection e with e1 e; injection e with e2 e; injection e with e3 e; injection e with e4 e
  subst e0; subst e1; subst e2; subst e3; subst e4
  have HF := Lib.hid hff
  cases hh : headB k n t l.length ks with
  | false =>
    rw [hh] at HF
    clear hff
    go_enter Tryd.func39, Tryd.ntmps39
    go_wp2_with (go_at_call 55; with_reducible refine (HF.out).mono ?_; rintro e1 w1 ⟨rfl, hb1⟩)
    go_ret
    exact ⟨rfl, hb1⟩
  | true =>
    rw [hh] at HF
    obtain ⟨R, hR⟩ : ∃ R, (true && V.goods l) = R := ⟨_, rfl⟩
    rw [hR]
    have DO := Lib.hid (fun (h : ∀ i (h : i < l.length), l[i].good = true) => show R = true by rw [← hR, (goods_iff l).2 h]; rfl)
    have DN := Lib.hid (fun (i : Nat) (hi : i < l.length) (h : l[i].good = false) => show R = false by
      rw [← hR]
      cases hg : V.goods l with
      | false => rfl
      | true => rw [(goods_iff l).1 hg i hi] at h; cases h)
    obtain ⟨nl, hnl⟩ : ∃ nl, l.length = nl := ⟨_, rfl⟩
    rw [hnl] at ml m3
    have NL := Lib.hid hnl; have HM := Lib.hid hm; have H2 := Lib.hid h2
    clear hnl hR hv h1 h2 hm hff hh
    go_enter Tryd.func39, Tryd.ntmps39
    go_wp2_with (go_at_call 55; with_reducible refine (HF.out).mono ?_; rintro e1 w1 ⟨rfl, hb1⟩; have m3x := (hb1.cell (p := ⟨b, o + 3, none⟩) (by show b < _; omega)).trans m3)
    go_loopw [12] (fun i wr => ∃ j : Nat, j ≤ nl ∧ i = .int .i64 j ∧ (∀ i (h : i < l.length), i < j → l[i].good = true) ∧ Below w.heap.size w wr) (fun i _ => nl - (intOf i).toNat)
    case atStart => exact ⟨0, Nat.zero_le _, rfl, fun _ _ h => absurd h (Nat.not_lt_zero _), hb1⟩
    case round =>
      obtain ⟨j, hj, rfl, hd, hb⟩ := hrel
      have HD := Lib.hid hd; have hs := hb.size; clear hd
      have m3' := (hb.cell (p := ⟨b, o + 3, none⟩) (by show b < _; omega)).trans m3
      by_cases hlt : j < nl
      · have hjl : j < l.length := by have := NL.out; omega
        obtain ⟨p, q, rfl, _, hpN, xs, hx5, hxv⟩ := VIs.item H2.out j hjl
        have hc := fun wq (hwq : Below w.heap.size w wq) => ih l[j] wq L N p (q + j * 5) xs (by have := HM.out; have := size_get (k := k) (n := n) (t := t) (ks := ks) j hjl; omega) (hx5.keep hpN (fun r hr => (hwq.mono hN).cell hr)) hpN (hxv.below (hwq.mono hN)) (Nat.le_trans hN hwq.size)
        have HC := Lib.hid hc; have HBW := Lib.hid hb
        have T2 := Lib.hid (DN.out j hjl)
        have T1 := Lib.hid (fun (h : l[j].good = true) => show ∀ i (h : i < l.length), i < j + 1 → l[i].good = true from fun i hi hij => by
          rcases Nat.lt_succ_iff_lt_or_eq.1 hij with h' | h'
          · exact HD.out i hi h'
          · subst h'; exact h)
        clear hc hx5 hxv
        generalize l[j] = x at *
        cases hg : x.good with
        | true =>
          have T3 := Lib.hid (T1.out hg)
          rw [hg] at HC
          clear T1 T2 hg
          go_wp2_with (go_at_call 39; with_reducible refine (HC.out _ HBW.out).mono ?_; rintro e2 w2 ⟨rfl, hb2⟩)
          go_roundw
          case rel => exact ⟨j + 1, by omega, by go_num, T3.out, HBW.out.trans (hb2.mono hs)⟩
          case measure => simp [intOf]; omega
        | false =>
          have T3 := Lib.hid (T2.out hg)
          rw [hg] at HC
          clear T1 T2 hg
          go_wp2_with (go_at_call 39; with_reducible refine (HC.out _ HBW.out).mono ?_; rintro e2 w2 ⟨rfl, hb2⟩)
          go_ret
          exact ⟨ret_bool T3.out.symm, HBW.out.trans (hb2.mono hs)⟩
      · obtain rfl : nl = j := by omega
        have T3 := Lib.hid (DO.out fun i hi => HD.out i hi (by have := NL.out; omega))
        clear DO DN HD NL
        go_wp2
        go_ret
        exact ⟨ret_bool T3.out.symm, hb⟩
theorem within_any (v : V) (lv : Nat) (w : World) (L N b o : Nat) (cs : List Value) (hlv : lv ≤ 1000000) (h5 : Five w b o cs) (hbN : b < N) (hv : VIs w L N v cs) (hN : N ≤ w.heap.size) :
    Calls Tryd.prog 40 #[.pointer (some ⟨b, o, none⟩), .int .i64 lv] w fun e w' => e = .returned (.bool (decide (v.depth ≤ lv))) ∧ Below w.heap.size w w' :=
  within_at v.size v lv w L N b o cs (Nat.le_refl _) hlv h5 hbN hv hN
theorem fits_any (v : V) (w : World) (L N b o : Nat) (cs : List Value) (h5 : Five w b o cs) (hbN : b < N) (hv : VIs w L N v cs) (hN : N ≤ w.heap.size) :
    Calls Tryd.prog 39 #[.pointer (some ⟨b, o, none⟩)] w fun e w' => e = .returned (.bool v.good) ∧ Below w.heap.size w w' :=
  fits_at v.size v w L N b o cs (Nat.le_refl _) h5 hbN hv hN
/-- a value's five cells in a new block -/
theorem five_new {w : World} {L N : Nat} {v : V} {cs : List Value} (hv : VIs w L N v cs) (t : TypeId) : Five (w.alloc (.cells cs.toArray t)) w.heap.size 0 cs := by
  obtain ⟨k, n, t', l, ks⟩ := v
  obtain ⟨-, A, c, A', c', rfl, -, -⟩ := hv.out
  refine ⟨_, _, _, _, _, rfl, ?_, ?_, ?_, ?_, ?_⟩ <;> simp
set_option maxRecDepth 100000 in
theorem good_any (v : V) (w : World) (L N : Nat) (cs : List Value) (hv : VIs w L N v cs) (hN : N ≤ w.heap.size) :
    Calls Tryd.prog 21 #[.agg cs.toArray] w fun e w' => e = .returned (.bool (v.fits 8)) ∧ Below w.heap.size w w' := by
  have hb0 := (Below.refl w.heap.size w).alloc (Nat.le_refl _) (.cells cs.toArray 28)
  have h5 := five_new hv 28
  have hs : (w.alloc (.cells cs.toArray 28)).heap.size = w.heap.size + 1 := by simp
  have c1 : Calls Tryd.prog 40 #[.pointer (some ⟨w.heap.size, 0, none⟩), .int .i64 8] (w.alloc (.cells cs.toArray 28)) fun e w' => e = .returned (.bool (decide (v.depth ≤ 8))) ∧ Below (w.alloc (.cells cs.toArray 28)).heap.size (w.alloc (.cells cs.toArray 28)) w' := within_any v 8 (w.alloc (.cells cs.toArray 28)) 0 (w.heap.size + 1) w.heap.size 0 cs (by decide) h5 (by omega) ((hv.below (hb0.mono hN)).more (Nat.zero_le _) (by omega)) (by rw [hs]; exact Nat.le_refl _)
  have c2 := fun wq (hb : Below (w.heap.size + 1) (w.alloc (.cells cs.toArray 28)) wq) => fits_any v wq 0 (w.heap.size + 1) w.heap.size 0 cs (h5.keep (N := w.heap.size + 1) (by omega) (fun p hp => hb.cell hp)) (by omega) (((hv.below (hb0.mono hN)).more (Nat.zero_le _) (show N ≤ w.heap.size + 1 by omega)).below hb) (by have := hb.size; rw [hs] at this; exact this)
  rw [fits_good]
  rw [hs] at c1
  obtain ⟨A, c, A', c', rfl, -, -⟩ := (show ∃ A c A' c', cs = [.int .i64 v.kind, .int .i64 v.num, .string ⟨v.text.toArray⟩, .slice A v.list.length c, .slice A' v.keys.length c'] ∧ True ∧ True by
    obtain ⟨k, n, t', l, ks⟩ := v
    obtain ⟨-, A, c, A', c', rfl, -, -⟩ := hv.out
    exact ⟨A, c, A', c', rfl, trivial, trivial⟩)
  have C1 := Lib.hid c1; have C2 := Lib.hid c2; have HB0 := Lib.hid hb0
  clear c1 c2 hb0 h5 hv hs
  cases hd : decide (v.depth ≤ 8) with
  | false =>
    rw [hd] at C1
    go_enter Tryd.func21, Tryd.ntmps21
    go_wp2_with (go_at_call 40; with_reducible refine (C1.out).mono ?_; rintro e1 w1 ⟨rfl, hb1⟩)
    go_ret
    exact ⟨rfl, HB0.out.trans (hb1.mono (by omega))⟩
  | true =>
    rw [hd] at C1
    go_enter Tryd.func21, Tryd.ntmps21
    go_wp2_with (first | (go_at_call 40; with_reducible refine (C1.out).mono ?_; rintro e1 w1 ⟨rfl, hb1⟩) | (go_at_call 39; with_reducible refine (C2.out _ hb1).mono ?_; rintro e2 w2 ⟨rfl, hb2⟩))
    go_ret
    exact ⟨ret_bool (by cases v.good <;> rfl), (HB0.out.trans (hb1.mono (by omega))).trans (hb2.mono (by have := hb1.size; simp at this; omega))⟩
end Go.Proofs.YthbbeojhipcjiaaDoor
namespace Go.Proofs.YthbbeojhipcjiaaDoor
open Go.RowKit

/-- where a key stands first; their number: nowhere -/
def keyAt (key : List UInt8) : List (List UInt8) → Nat
  | [] => 0
  | k :: r => if k = key then 0 else keyAt key r + 1
theorem keyAt_le (key : List UInt8) (ks : List (List UInt8)) : keyAt key ks ≤ ks.length := by
  induction ks with
  | nil => exact Nat.le_refl _
  | cons k r ih => unfold keyAt; split <;> simp; omega
theorem keyAt_hit (key : List UInt8) : ∀ (ks : List (List UInt8)) (h : keyAt key ks < ks.length), ks[keyAt key ks] = key
  | [], h => absurd h (Nat.not_lt_zero _)
  | k :: r, h => by
    by_cases hk : k = key
    · have e : keyAt key (k :: r) = 0 := by unfold keyAt; rw [if_pos hk]
      simp only [e]; exact hk
    · have e : keyAt key (k :: r) = keyAt key r + 1 := by
        conv => lhs; unfold keyAt
        rw [if_neg hk]
      simp only [e] at h ⊢
      exact keyAt_hit key r (by simpa using h)
theorem keyAt_ahead (key : List UInt8) : ∀ (ks : List (List UInt8)) (j : Nat) (hj : j < ks.length), j < keyAt key ks → ks[j] ≠ key
  | [], j, hj, _ => absurd hj (Nat.not_lt_zero _)
  | k :: r, j, hj, h => by
    by_cases hk : k = key
    · have e : keyAt key (k :: r) = 0 := by unfold keyAt; rw [if_pos hk]
      omega
    · have e : keyAt key (k :: r) = keyAt key r + 1 := by
        conv => lhs; unfold keyAt
        rw [if_neg hk]
      cases j with
      | zero => exact hk
      | succ j => exact keyAt_ahead key r j (by simpa using hj) (by omega)
theorem keyAt_is (key : List UInt8) (ks : List (List UInt8)) (j : Nat) (hj : j < ks.length) (h : ks[j] = key) (hne : ∀ i (hi : i < ks.length), i < j → ks[i] ≠ key) : keyAt key ks = j := by
  rcases Nat.lt_trichotomy (keyAt key ks) j with h' | h' | h'
  · exact absurd (keyAt_hit key ks (by omega)) (hne _ (by omega) h')
  · exact h'
  · exact absurd h (keyAt_ahead key ks j hj h')
theorem keyAt_none (key : List UInt8) (ks : List (List UInt8)) (hne : ∀ i (hi : i < ks.length), ks[i] ≠ key) : keyAt key ks = ks.length := by
  have := keyAt_le key ks
  rcases Nat.lt_or_ge (keyAt key ks) ks.length with h | h
  · exact absurd (keyAt_hit key ks h) (hne _ h)
  · omega
theorem str_inj {a b : List UInt8} (h : (⟨a.toArray⟩ : ByteArray) = ⟨b.toArray⟩) : a = b := by
  injection h with h; simpa using h
theorem idx_key (ks : List (List UInt8)) (key : List UInt8) : Lib.idxOfS ((strsOf ks).take ks.length) ⟨key.toArray⟩ = if keyAt key ks < ks.length then (keyAt key ks : Int) else -1 := by
  by_cases h : keyAt key ks < ks.length
  · rw [if_pos h]
    refine Lib.idxOfS_hit (strsOf ks) ks.length (keyAt key ks) _ h (by rw [strsOf_len]; exact Nat.le_refl _) ?_ fun j hj => ?_
    · rw [strsOf_getD ks _ h, keyAt_hit key ks h]
    · rw [strsOf_getD ks _ (by omega)]
      exact fun e => keyAt_ahead key ks j (by omega) hj (str_inj e)
  · rw [if_neg h]
    refine Lib.idxOfS_miss (strsOf ks) ks.length _ fun j hj => ?_
    rw [strsOf_getD ks _ hj]
    exact fun e => keyAt_ahead key ks j hj (by have := keyAt_le key ks; omega) (str_inj e)
/-- what Field answers -/
def fieldV (key : List UInt8) : V → Option V
  | .mk k _ _ l ks => if k = 6 ∧ keyAt key ks < ks.length then l[keyAt key ks]? else none
theorem index_any (ks : List (List UInt8)) (A : Option Addr) (c L N : Nat) (key : List UInt8) (w : World) (hl : ks.length ≤ 9223372036854775807) (h : ks = [] ∨ ∃ b o, A = some ⟨b, o, none⟩ ∧ KIs w L N ks b o) :
    Calls Tryd.prog 41 #[.slice A ks.length c, .string ⟨key.toArray⟩] w fun e w' => e = .returned (.int .i64 (if keyAt key ks < ks.length then (keyAt key ks : Int) else -1)) ∧ w' = w := by
  rcases h with rfl | ⟨b, o, rfl, h⟩
  · exact (Tryd.slices_Index_string_empty A c ⟨key.toArray⟩ w).mono fun e w' ⟨he, hw⟩ => ⟨he, hw⟩
  · rw [← idx_key]
    refine Tryd.slices_Index_string b o ks.length c (strsOf ks) ⟨key.toArray⟩ w (by rw [strsOf_len]; exact Nat.le_refl _) hl fun j hj => ?_
    rw [strsOf_len] at hj
    rw [strsOf_getD ks j hj]
    exact (h.get j hj).2.2
theorem clone_any (v : V) (w : World) (L N p o : Nat) (cs : List Value) (hs : v.slim 1000000) (h5 : Five w p o cs) (hp : p < N) (hv : VIs w L N v cs) (hN : N ≤ w.heap.size) :
    Calls Tryd.prog 42 #[.pointer (some ⟨p, o, none⟩)] w fun e w' => (∃ ds, e = .returned (.agg ds.toArray) ∧ VIs w' w.heap.size w'.heap.size v ds ∧ Thaw w' w.heap.size ds v.list.length) ∧ Below w.heap.size w w' :=
  clone_at v.size v w L N p o cs (Nat.le_refl _) hs h5 hp hv hN
theorem zero_is (w : World) (L N : Nat) : VIs w L N V.zero [.int .i64 0, .int .i64 0, .string ⟨#[]⟩, .slice none 0 0, .slice none 0 0] := by
  have h := VIs.mk (w := w) (L := L) (N := N) (k := 0) (n := 0) (t := []) (l := []) (ks := []) (A := none) (A' := none) (c := 0) (c' := 0) ⟨by simp, by simp, by simp, by simp⟩ (.inl rfl) (.inl rfl)
  exact h
set_option maxRecDepth 100000 in
set_option maxHeartbeats 2000000 in
theorem field_any (v : V) (key : List UInt8) (w : World) (L N : Nat) (cs : List Value) (hs : v.slim 1000000) (hd : v.depth ≤ 65537) (hv : VIs w L N v cs) (hN : N ≤ w.heap.size) :
    Calls Tryd.prog 19 #[.agg cs.toArray, .string ⟨key.toArray⟩] w fun e w' => (∃ ds, e = .returned (.tuple #[.agg ds.toArray, .bool (fieldV key v).isSome]) ∧ VIs w' w.heap.size w'.heap.size ((fieldV key v).getD V.zero) ds ∧ Thaw w' w.heap.size ds ((fieldV key v).getD V.zero).list.length) ∧ Below w.heap.size w w' := by
  obtain ⟨k, n, t, l, ks⟩ := v
  obtain ⟨sl, sk, si⟩ := slim_mk hs
  obtain ⟨hroom, A, c, A', c', rfl, h1, h2⟩ := hv.out
  have hb0 := ((Below.refl w.heap.size w).alloc (Nat.le_refl _) (.cells #[.int .i64 k, .int .i64 n, .string ⟨t.toArray⟩, .slice A l.length c, .slice A' ks.length c'] 28)).alloc (by simp) (.cells #[.int .i64 0, .int .i64 0, .string ⟨#[]⟩, .slice none 0 0, .slice none 0 0] 28)
  have hs2 : ((w.alloc (.cells #[.int .i64 k, .int .i64 n, .string ⟨t.toArray⟩, .slice A l.length c, .slice A' ks.length c'] 28)).alloc (.cells #[.int .i64 0, .int .i64 0, .string ⟨#[]⟩, .slice none 0 0, .slice none 0 0] 28)).heap.size = w.heap.size + 2 := by simp
  have hix := fun wq (hb : Below w.heap.size w wq) => index_any ks A' c' L N key wq (by omega) (by
    rcases h1 with h | ⟨b, o, e, h⟩
    · exact .inl h
    · exact .inr ⟨b, o, e, h.below (hb.mono hN)⟩)
  obtain ⟨F, hF⟩ : ∃ F, fieldV key (.mk k n t l ks) = F := ⟨_, rfl⟩
  have hF2 : F = if k = 6 ∧ keyAt key ks < ks.length then l[keyAt key ks]? else none := by rw [← hF]; rfl
  rw [hF]
  have hle := keyAt_le key ks
  obtain ⟨nk, hnk⟩ : ∃ nk, ks.length = nk := ⟨_, rfl⟩
  obtain ⟨nl, hnl⟩ : ∃ nl, l.length = nl := ⟨_, rfl⟩
  obtain ⟨ix, hixx⟩ : ∃ ix, keyAt key ks = ix := ⟨_, rfl⟩
  rw [hixx] at hF2 hix hle
  rw [hnk] at hF2 hix hle sk hb0 hs2 ⊢
  rw [hnl] at sl hb0 hs2 ⊢
  have HIX := Lib.hid hix; have HB0 := Lib.hid hb0; have HF := Lib.hid hF2; have H2 := Lib.hid h2; have NL := Lib.hid hnl; have HS2 := Lib.hid hs2; have HSI := Lib.hid si; have HD := Lib.hid hd
  clear hix hb0 hF2 h1 h2 hnl hnk hixx hF hs hv hroom hs2 si hd
  by_cases hk6 : k = 6
  · subst hk6
    by_cases hi : ix < nk
    · have hie : (if ix < nk then (ix : Int) else -1) = ix := if_pos hi
      rw [hie] at HIX
      have t1 : decide ((ix : Int) < 0) = false := by simp
      by_cases hil : ix < nl
      · have t2 : decide ((nl : Int) ≤ (ix : Int)) = false := by simp; omega
        have hjl : ix < l.length := by have := NL.out; omega
        have hFs : F = some l[ix] := HF.out.trans (by rw [if_pos ⟨rfl, hi⟩]; exact List.getElem?_eq_getElem hjl)
        subst hFs
        obtain ⟨q, r, rfl, _, hqN, xs, hx5, hxv⟩ := VIs.item H2.out ix hjl
        have hdx : l[ix].depth ≤ 65537 := by
          have h := HD.out
          rw [depth_mk] at h
          exact (depths_iff l 65537).1 (by omega) ix hjl
        have hsx := HSI.out ix hjl
        generalize l[ix] = x at *
        have hw1 : ∀ wq, Below w.heap.size w wq → Calls Tryd.prog 40 #[.pointer (some ⟨q, r + ix * 5, none⟩), .int .i64 65537] wq fun e w' => e = .returned (.bool true) ∧ Below wq.heap.size wq w' := fun wq hb =>
          (within_any x 65537 wq L N q (r + ix * 5) xs (by decide) (hx5.keep hqN fun z hz => (hb.mono hN).cell hz) hqN (hxv.below (hb.mono hN)) (Nat.le_trans hN hb.size)).mono fun e w' ⟨h1, h2⟩ => ⟨by rw [h1, decide_eq_true hdx], h2⟩
        have hcl := fun wq (hb : Below w.heap.size w wq) => clone_any x wq L N q (r + ix * 5) xs hsx (hx5.keep hqN fun z hz => (hb.mono hN).cell hz) hqN (hxv.below (hb.mono hN)) (Nat.le_trans hN hb.size)
        have HW := Lib.hid hw1; have HC := Lib.hid hcl
        have hform := fun (w1 : World) (La Na : Nat) ds (h : VIs w1 La Na x ds) => h.form
        have FORM := Lib.hid hform
        obtain ⟨W2, hW2⟩ : ∃ W2, W2 = ((w.alloc (.cells #[.int .i64 6, .int .i64 n, .string ⟨t.toArray⟩, .slice (some ⟨q, r, none⟩) nl c, .slice A' nk c'] 28)).alloc (.cells #[.int .i64 0, .int .i64 0, .string ⟨#[]⟩, .slice none 0 0, .slice none 0 0] 28)) := ⟨_, rfl⟩
        have bx : W2.cell? ⟨w.heap.size, 3, none⟩ = some (.slice (some ⟨q, r, none⟩) nl c) := by rw [hW2]; simp
        have rx : W2.heap[w.heap.size + 1]? = some (.cells #[.int .i64 0, .int .i64 0, .string ⟨#[]⟩, .slice none 0 0, .slice none 0 0] 28 (0, 0)) := by
          rw [hW2]
          have := heap_alloc_last (w.alloc (.cells #[.int .i64 6, .int .i64 n, .string ⟨t.toArray⟩, .slice (some ⟨q, r, none⟩) nl c, .slice A' nk c'] 28)) (.cells #[.int .i64 0, .int .i64 0, .string ⟨#[]⟩, .slice none 0 0, .slice none 0 0] 28)
          simpa using this
        have hz2 := HS2.out
        have hb0 := HB0.out
        rw [← hW2] at hz2 hb0
        have BX := Lib.hid bx; have RX := Lib.hid rx; have Z2 := Lib.hid hz2; have B0 := Lib.hid hb0; have HWW := Lib.hid hW2
        have hj0 : (0 : Int) ≤ ix := by omega
        have hj1 : (ix : Int) < nl := by omega
        clear hw1 hcl hform bx rx hz2 hb0 hW2 hx5 hxv hdx hsx HB0 HS2
        go_enter Tryd.func19, Tryd.ntmps19
        go_wp2_with (go_at_call 41; refine (HIX.out _ (by rw [← HWW.out]; exact B0.out)).mono ?_; rintro e1 w1 ⟨rfl, rfl⟩)
        rw [← HWW.out]
        refine (HW.out _ B0.out).mono ?_
        rintro e3 w3 ⟨rfl, hb3⟩
        dsimp only
        have z2 := Z2.out
        have z3 := hb3.size
        have bx3 : w3.cell? ⟨w.heap.size, 3, none⟩ = some (.slice (some ⟨q, r, none⟩) nl c) := (hb3.cell (p := ⟨w.heap.size, 3, none⟩) (by show w.heap.size < _; omega)).trans BX.out
        have hb3' : Below w.heap.size w w3 := B0.out.trans (hb3.mono (by omega))
        have hb33 : Below W2.heap.size W2 w3 := hb3
        clear hb3
        go_wp2_with (go_at_call 42; refine (HC.out _ hb3').mono ?_; rintro e4 w4 ⟨⟨ds, rfl, hv4, ht4⟩, hb4⟩; obtain ⟨u1, u2, u3, u4, rfl⟩ := FORM.out w4 _ _ ds hv4; have hr4 := (hb4.block (w.heap.size + 1) (by omega)).trans ((hb33.block (w.heap.size + 1) (by omega)).trans RX.out); obtain ⟨⟨e0, e1, e2, e3, e4⟩, f0, f1, f2, f3, f4⟩ := box_of hr4)
        have hsz := hb4.size
        have hz3 := z3
        obtain ⟨wf, hwf⟩ : ∃ wf, wf = set5 w4 (w.heap.size + 1) 0 (.int .i64 x.kind) (.int .i64 x.num) (.string ⟨x.text.toArray⟩) (.slice u1 x.list.length u2) (.slice u3 x.keys.length u4) := ⟨_, rfl⟩
        change bodyPost _ _ _ _ _ (set5 w4 (w.heap.size + 1) 0 (.int .i64 x.kind) (.int .i64 x.num) (.string ⟨x.text.toArray⟩) (.slice u1 x.list.length u2) (.slice u3 x.keys.length u4))
        rw [← hwf]
        have hx : wf.heap[w.heap.size + 1]? = some (.cells #[.int .i64 x.kind, .int .i64 x.num, .string ⟨x.text.toArray⟩, .slice u1 x.list.length u2, .slice u3 x.keys.length u4] 28 (0, 0)) := by rw [hwf]; exact set5_here hr4
        have hvf : VIs wf w.heap.size wf.heap.size x [.int .i64 x.kind, .int .i64 x.num, .string ⟨x.text.toArray⟩, .slice u1 x.list.length u2, .slice u3 x.keys.length u4] := by
          have hsf : wf.heap.size = w4.heap.size := by rw [hwf, set5_size]
          rw [hsf]
          refine (hv4.keep2 fun q h1 h2 => ?_).more (by omega) (Nat.le_refl _)
          have hne : q.block ≠ w.heap.size + 1 := by omega
          exact World.cell?_of_block (w := w4) (by rw [hwf]; exact set5_there hne)
        have hbf : Below w.heap.size w wf := by
          rw [hwf]; exact (hb3'.trans (hb4.mono (by omega))).trans (set5_below (by omega))
        obtain ⟨⟨x0, x1, x2, x3, x4⟩, -⟩ := box_of hx
        have htf : Thaw wf w.heap.size [.int .i64 x.kind, .int .i64 x.num, .string ⟨x.text.toArray⟩, .slice u1 x.list.length u2, .slice u3 x.keys.length u4] x.list.length := by
          rcases ht4 with h | ⟨g, c', C, e, hg1, hg2, hg3⟩
          · exact .inl h
          · refine .inr ⟨g, c', C, e, by omega, ?_, hg3⟩
            rw [hwf]; exact (set5_there (by omega)).trans hg2
        have HVF := Lib.hid hvf; have HBF := Lib.hid hbf; have HTF := Lib.hid htf
        clear hvf hbf htf ht4 hwf hx e0 e1 e2 e3 e4 f0 f1 f2 f3 f4 hv4
        refine bodyPost_ret (v := .tuple #[.agg #[.int .i64 x.kind, .int .i64 x.num, .string ⟨x.text.toArray⟩, .slice u1 x.list.length u2, .slice u3 x.keys.length u4], .bool true]) (by simp [results, Tryd.results19, go_sem, x0, x1, x2, x3, x4]) rfl ?_
        exact ⟨⟨[_, _, _, _, _], rfl, HVF.out, HTF.out⟩, HBF.out⟩
      · have t2 : decide ((nl : Int) ≤ (ix : Int)) = true := by simp; omega
        have hFn : F = none := HF.out.trans (by rw [if_pos ⟨rfl, hi⟩]; exact List.getElem?_eq_none (by have := NL.out; omega))
        subst hFn
        go_enter Tryd.func19, Tryd.ntmps19
        go_wp2_with (go_at_call 41; refine (HIX.out _ HB0.out).mono ?_; rintro e1 w1 ⟨rfl, rfl⟩)
        refine bodyPost_ret (v := .tuple #[.agg #[.int .i64 0, .int .i64 0, .string ⟨#[]⟩, .slice none 0 0, .slice none 0 0], .bool false]) (by simp [results, Tryd.results19, go_sem]) rfl ?_
        exact ⟨⟨[_, _, _, _, _], rfl, zero_is _ _ _, .inl rfl⟩, HB0.out⟩
    · have hie : (if ix < nk then (ix : Int) else -1) = -1 := if_neg hi
      rw [hie] at HIX
      have hFn : F = none := HF.out.trans (if_neg (fun h => hi h.2))
      subst hFn
      go_enter Tryd.func19, Tryd.ntmps19
      go_wp2_with (go_at_call 41; refine (HIX.out _ HB0.out).mono ?_; rintro e1 w1 ⟨rfl, rfl⟩)
      refine bodyPost_ret (v := .tuple #[.agg #[.int .i64 0, .int .i64 0, .string ⟨#[]⟩, .slice none 0 0, .slice none 0 0], .bool false]) (by simp [results, Tryd.results19, go_sem]) rfl ?_
      exact ⟨⟨[_, _, _, _, _], rfl, zero_is _ _ _, .inl rfl⟩, HB0.out⟩
  · have hk6' : (k == 6) = false := by simpa using hk6
    have hk7 : (k != 6) = true := by simpa using hk6
    have hFn : F = none := HF.out.trans (if_neg (fun h => hk6 h.1))
    subst hFn
    clear hk6
    obtain ⟨iv, hiv⟩ : ∃ iv : Int, (if ix < nk then (ix : Int) else -1) = iv := ⟨_, rfl⟩
    rw [hiv] at HIX
    go_enter Tryd.func19, Tryd.ntmps19
    go_wp2_with (go_at_call 41; refine (HIX.out _ HB0.out).mono ?_; rintro e1 w1 ⟨rfl, rfl⟩)
    refine bodyPost_ret (v := .tuple #[.agg #[.int .i64 0, .int .i64 0, .string ⟨#[]⟩, .slice none 0 0, .slice none 0 0], .bool false]) (by simp [results, Tryd.results19, go_sem]) rfl ?_
    exact ⟨⟨[_, _, _, _, _], rfl, zero_is _ _ _, .inl rfl⟩, HB0.out⟩
end Go.Proofs.YthbbeojhipcjiaaDoor
