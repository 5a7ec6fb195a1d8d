/- JSON: whether a value has what its kind has, as the code asks it. -/
import Derived.Test.YtobicmpgfiddhaaDoorJsonUnlike
import Derived.Deep.RegionHeld3
namespace Go.Proofs.YtobicmpgfiddhaaDoor
open Go.RowKit
set_option linter.unusedVariables false
set_option linter.unusedSimpArgs false

/-- what a value must be by itself, as the code reckons it -/
def headC (k n : Int) (t : List UInt8) (ll : Nat) (ks : List (List UInt8)) : Bool :=
  decide (1 ≤ k ∧ k ≤ 6) && decide ((if k = 3 then -9007199254740992 else 0) ≤ n) && decide (n ≤ (if k = 2 then 1 else if k = 3 then 9007199254740992 else 0)) && (t.isEmpty || decide (k = 4)) &&
  decide (ll ≤ (if k = 5 ∨ k = 6 then 64 else 0)) && decide (ks.length = (if k = 6 then ll else 0)) && unlikeB ks
theorem headC_eq (k n : Int) (t : List UInt8) (ll : Nat) (ks : List (List UInt8)) : headB k n t ll ks = headC k n t ll ks := by
  by_cases hk : 1 ≤ k ∧ k ≤ 6
  · have hk' : k = 1 ∨ k = 2 ∨ k = 3 ∨ k = 4 ∨ k = 5 ∨ k = 6 := by omega
    unfold headB headC
    rw [Bool.eq_iff_iff]
    generalize unlikeB ks = U
    simp only [Bool.and_eq_true, Bool.or_eq_true, decide_eq_true_eq, List.isEmpty_iff]
    cases ks with
    | nil =>
      cases t with
      | nil => rcases hk' with rfl | rfl | rfl | rfl | rfl | rfl <;> simp <;> omega
      | cons x r => rcases hk' with rfl | rfl | rfl | rfl | rfl | rfl <;> simp <;> omega
    | cons y s =>
      cases t with
      | nil => rcases hk' with rfl | rfl | rfl | rfl | rfl | rfl <;> simp <;> omega
      | cons x r => rcases hk' with rfl | rfl | rfl | rfl | rfl | rfl <;> simp <;> omega
  · unfold headB headC
    rw [decide_eq_false hk]; rfl
theorem head_t1 (n : Int) (t : List UInt8) (ll : Nat) (ks : List (List UInt8)) {k : Int} (h : ¬ (1 ≤ k ∧ k ≤ 6)) : headC k n t ll ks = false := by unfold headC; rw [decide_eq_false h]; rfl
set_option maxRecDepth 100000 in
set_option maxHeartbeats 4000000 in
theorem fieldsFit_any (v : V) (w : World) (L N b o : Nat) (cs : List Value) (h5 : Five w b o cs) (hbN : b < N) (hv : VIs w L N v cs) (hN : N ≤ w.heap.size) :
    Calls Tryd.prog 57 #[.pointer (some ⟨b, o, none⟩)] w fun e w' => e = .returned (.bool (headB v.kind v.num v.text v.list.length v.keys)) ∧ Below w.heap.size w w' := by
  obtain ⟨k, n, t, l, ks⟩ := v
  rw [headC_eq]
  show Calls Tryd.prog 57 #[.pointer (some ⟨b, o, none⟩)] w fun e w' => e = .returned (.bool (headC k n t l.length ks)) ∧ Below w.heap.size w w'
  obtain ⟨⟨ml, mk, mt, mx⟩, A, c, A', c', rfl, h1, h2⟩ := hv.out
  obtain ⟨c0, c1, c2, c3, c4, e, m0, m1, m2, m3, m4⟩ := h5
  injection e with e0 e; injection e with e1 e; injection e with e2 e; injection e with e3 e; injection e with e4 e
  subst e0; subst e1; subst e2; subst e3; subst e4
  have hun := fun wq (hb : Below w.heap.size w wq) => unlike_any A' c' L N ks mk mx wq (Nat.le_trans hN hb.size) (by
    rcases h1 with h | ⟨p, q, e, h⟩
    · exact .inl h
    · exact .inr ⟨p, q, e, h.below (hb.mono hN)⟩)
  generalize l.length = ll at *
  obtain ⟨U, hU⟩ : ∃ U, unlikeB ks = U := ⟨_, rfl⟩
  have hH : headC k n t ll ks = (decide (1 ≤ k ∧ k ≤ 6) && decide ((if k = 3 then -9007199254740992 else 0) ≤ n) && decide (n ≤ (if k = 2 then 1 else if k = 3 then 9007199254740992 else 0)) && (t.isEmpty || decide (k = 4)) && decide (ll ≤ (if k = 5 ∨ k = 6 then 64 else 0)) && decide (ks.length = (if k = 6 then ll else 0)) && U) := by rw [← hU]; rfl
  generalize headC k n t ll ks = H at *
  rw [hU] at hun
  generalize ks.length = lk at *
  have HUN := Lib.hid (fun wq hb => hun wq hb); have HH := Lib.hid hH
  clear hun hH h1 h2 hv hU mx
  have hbw := Below.refl w.heap.size w
  have HBW := Lib.hid hbw; clear hbw
  by_cases hk : 1 ≤ k ∧ k ≤ 6
  · have hk' : k = 1 ∨ k = 2 ∨ k = 3 ∨ k = 4 ∨ k = 5 ∨ k = 6 := by omega
    clear hk
    rcases hk' with rfl | rfl | rfl | rfl | rfl | rfl
    · -- kind 1
      by_cases q1 : (0 : Int) ≤ n
      · have d1 : decide ((0 : Int) ≤ n) = true := decide_eq_true q1
        by_cases q2 : n ≤ (0 : Int)
        · have d2 : decide (n ≤ (0 : Int)) = true := decide_eq_true q2
          obtain rfl : n = 0 := by omega
          clear d1 d2 q1 q2
          cases t with
          | nil =>
            cases ll with
            | succ ll =>
              have d4 : decide (((ll + 1 : Nat) : Int) ≤ 0) = false := decide_eq_false (by omega)
              go_enter Tryd.func57, Tryd.ntmps57
              go_wp2
              go_ret
              exact ⟨ret_bool (HH.out.trans (by clear HH; cases U <;> simp <;> omega)).symm, HBW.out⟩
            | zero =>
              cases lk with
              | succ lk =>
                have d5 : (((lk + 1 : Nat) : Int) == 0) = false := by simp; omega
                go_enter Tryd.func57, Tryd.ntmps57
                go_wp2
                go_ret
                exact ⟨ret_bool (HH.out.trans (by clear HH; cases U <;> simp <;> omega)).symm, HBW.out⟩
              | zero =>
                go_enter Tryd.func57, Tryd.ntmps57
                go_wp2_with (go_at_call 70; with_reducible refine (HUN.out _ (HBW.out)).mono ?_; rintro e1 w1 ⟨rfl, hb1⟩)
                go_ret
                exact ⟨ret_bool (HH.out.trans (by clear HH; cases U <;> simp <;> omega)).symm, hb1⟩
          | cons x r =>
            have d3 : ((x :: r) == ([] : List UInt8)) = false := rfl
            go_enter Tryd.func57, Tryd.ntmps57
            go_wp2
            go_ret
            exact ⟨ret_bool (HH.out.trans (by clear HH; cases U <;> simp <;> omega)).symm, HBW.out⟩
        · have d2 : decide (n ≤ (0 : Int)) = false := decide_eq_false q2
          go_enter Tryd.func57, Tryd.ntmps57
          go_wp2
          go_ret
          exact ⟨ret_bool (HH.out.trans (by clear HH; cases U <;> simp <;> omega)).symm, HBW.out⟩
      · have d1 : decide ((0 : Int) ≤ n) = false := decide_eq_false q1
        go_enter Tryd.func57, Tryd.ntmps57
        go_wp2
        go_ret
        exact ⟨ret_bool (HH.out.trans (by clear HH; cases U <;> simp <;> omega)).symm, HBW.out⟩
    · -- kind 2
      by_cases q1 : (0 : Int) ≤ n
      · have d1 : decide ((0 : Int) ≤ n) = true := decide_eq_true q1
        by_cases q2 : n ≤ (1 : Int)
        · have d2 : decide (n ≤ (1 : Int)) = true := decide_eq_true q2
          cases t with
          | nil =>
            cases ll with
            | succ ll =>
              have d4 : decide (((ll + 1 : Nat) : Int) ≤ 0) = false := decide_eq_false (by omega)
              go_enter Tryd.func57, Tryd.ntmps57
              go_wp2
              go_ret
              exact ⟨ret_bool (HH.out.trans (by clear HH; cases U <;> simp <;> omega)).symm, HBW.out⟩
            | zero =>
              cases lk with
              | succ lk =>
                have d5 : (((lk + 1 : Nat) : Int) == 0) = false := by simp; omega
                go_enter Tryd.func57, Tryd.ntmps57
                go_wp2
                go_ret
                exact ⟨ret_bool (HH.out.trans (by clear HH; cases U <;> simp <;> omega)).symm, HBW.out⟩
              | zero =>
                go_enter Tryd.func57, Tryd.ntmps57
                go_wp2_with (go_at_call 70; with_reducible refine (HUN.out _ (HBW.out)).mono ?_; rintro e1 w1 ⟨rfl, hb1⟩)
                go_ret
                exact ⟨ret_bool (HH.out.trans (by clear HH; cases U <;> simp <;> omega)).symm, hb1⟩
          | cons x r =>
            have d3 : ((x :: r) == ([] : List UInt8)) = false := rfl
            go_enter Tryd.func57, Tryd.ntmps57
            go_wp2
            go_ret
            exact ⟨ret_bool (HH.out.trans (by clear HH; cases U <;> simp <;> omega)).symm, HBW.out⟩
        · have d2 : decide (n ≤ (1 : Int)) = false := decide_eq_false q2
          go_enter Tryd.func57, Tryd.ntmps57
          go_wp2
          go_ret
          exact ⟨ret_bool (HH.out.trans (by clear HH; cases U <;> simp <;> omega)).symm, HBW.out⟩
      · have d1 : decide ((0 : Int) ≤ n) = false := decide_eq_false q1
        go_enter Tryd.func57, Tryd.ntmps57
        go_wp2
        go_ret
        exact ⟨ret_bool (HH.out.trans (by clear HH; cases U <;> simp <;> omega)).symm, HBW.out⟩
    · -- kind 3
      by_cases q1 : (-9007199254740992 : Int) ≤ n
      · have d1 : decide ((-9007199254740992 : Int) ≤ n) = true := decide_eq_true q1
        by_cases q2 : n ≤ (9007199254740992 : Int)
        · have d2 : decide (n ≤ (9007199254740992 : Int)) = true := decide_eq_true q2
          cases t with
          | nil =>
            cases ll with
            | succ ll =>
              have d4 : decide (((ll + 1 : Nat) : Int) ≤ 0) = false := decide_eq_false (by omega)
              go_enter Tryd.func57, Tryd.ntmps57
              go_wp2
              go_ret
              exact ⟨ret_bool (HH.out.trans (by clear HH; cases U <;> simp <;> omega)).symm, HBW.out⟩
            | zero =>
              cases lk with
              | succ lk =>
                have d5 : (((lk + 1 : Nat) : Int) == 0) = false := by simp; omega
                go_enter Tryd.func57, Tryd.ntmps57
                go_wp2
                go_ret
                exact ⟨ret_bool (HH.out.trans (by clear HH; cases U <;> simp <;> omega)).symm, HBW.out⟩
              | zero =>
                go_enter Tryd.func57, Tryd.ntmps57
                go_wp2_with (go_at_call 70; with_reducible refine (HUN.out _ (HBW.out)).mono ?_; rintro e1 w1 ⟨rfl, hb1⟩)
                go_ret
                exact ⟨ret_bool (HH.out.trans (by clear HH; cases U <;> simp <;> omega)).symm, hb1⟩
          | cons x r =>
            have d3 : ((x :: r) == ([] : List UInt8)) = false := rfl
            go_enter Tryd.func57, Tryd.ntmps57
            go_wp2
            go_ret
            exact ⟨ret_bool (HH.out.trans (by clear HH; cases U <;> simp <;> omega)).symm, HBW.out⟩
        · have d2 : decide (n ≤ (9007199254740992 : Int)) = false := decide_eq_false q2
          go_enter Tryd.func57, Tryd.ntmps57
          go_wp2
          go_ret
          exact ⟨ret_bool (HH.out.trans (by clear HH; cases U <;> simp <;> omega)).symm, HBW.out⟩
      · have d1 : decide ((-9007199254740992 : Int) ≤ n) = false := decide_eq_false q1
        go_enter Tryd.func57, Tryd.ntmps57
        go_wp2
        go_ret
        exact ⟨ret_bool (HH.out.trans (by clear HH; cases U <;> simp <;> omega)).symm, HBW.out⟩
    · -- kind 4
      by_cases q1 : (0 : Int) ≤ n
      · have d1 : decide ((0 : Int) ≤ n) = true := decide_eq_true q1
        by_cases q2 : n ≤ (0 : Int)
        · have d2 : decide (n ≤ (0 : Int)) = true := decide_eq_true q2
          obtain rfl : n = 0 := by omega
          clear d1 d2 q1 q2
          cases t with
          | nil =>
            cases ll with
            | succ ll =>
              have d4 : decide (((ll + 1 : Nat) : Int) ≤ 0) = false := decide_eq_false (by omega)
              go_enter Tryd.func57, Tryd.ntmps57
              go_wp2
              go_ret
              exact ⟨ret_bool (HH.out.trans (by clear HH; cases U <;> simp <;> omega)).symm, HBW.out⟩
            | zero =>
              cases lk with
              | succ lk =>
                have d5 : (((lk + 1 : Nat) : Int) == 0) = false := by simp; omega
                go_enter Tryd.func57, Tryd.ntmps57
                go_wp2
                go_ret
                exact ⟨ret_bool (HH.out.trans (by clear HH; cases U <;> simp <;> omega)).symm, HBW.out⟩
              | zero =>
                go_enter Tryd.func57, Tryd.ntmps57
                go_wp2_with (go_at_call 70; with_reducible refine (HUN.out _ (HBW.out)).mono ?_; rintro e1 w1 ⟨rfl, hb1⟩)
                go_ret
                exact ⟨ret_bool (HH.out.trans (by clear HH; cases U <;> simp <;> omega)).symm, hb1⟩
          | cons x r =>
            have d3 : ((x :: r) == ([] : List UInt8)) = false := rfl
            cases ll with
            | succ ll =>
              have d4 : decide (((ll + 1 : Nat) : Int) ≤ 0) = false := decide_eq_false (by omega)
              go_enter Tryd.func57, Tryd.ntmps57
              go_wp2
              go_ret
              exact ⟨ret_bool (HH.out.trans (by clear HH; cases U <;> simp <;> omega)).symm, HBW.out⟩
            | zero =>
              cases lk with
              | succ lk =>
                have d5 : (((lk + 1 : Nat) : Int) == 0) = false := by simp; omega
                go_enter Tryd.func57, Tryd.ntmps57
                go_wp2
                go_ret
                exact ⟨ret_bool (HH.out.trans (by clear HH; cases U <;> simp <;> omega)).symm, HBW.out⟩
              | zero =>
                go_enter Tryd.func57, Tryd.ntmps57
                go_wp2_with (go_at_call 70; with_reducible refine (HUN.out _ (HBW.out)).mono ?_; rintro e1 w1 ⟨rfl, hb1⟩)
                go_ret
                exact ⟨ret_bool (HH.out.trans (by clear HH; cases U <;> simp <;> omega)).symm, hb1⟩
        · have d2 : decide (n ≤ (0 : Int)) = false := decide_eq_false q2
          go_enter Tryd.func57, Tryd.ntmps57
          go_wp2
          go_ret
          exact ⟨ret_bool (HH.out.trans (by clear HH; cases U <;> simp <;> omega)).symm, HBW.out⟩
      · have d1 : decide ((0 : Int) ≤ n) = false := decide_eq_false q1
        go_enter Tryd.func57, Tryd.ntmps57
        go_wp2
        go_ret
        exact ⟨ret_bool (HH.out.trans (by clear HH; cases U <;> simp <;> omega)).symm, HBW.out⟩
    · -- kind 5
      by_cases q1 : (0 : Int) ≤ n
      · have d1 : decide ((0 : Int) ≤ n) = true := decide_eq_true q1
        by_cases q2 : n ≤ (0 : Int)
        · have d2 : decide (n ≤ (0 : Int)) = true := decide_eq_true q2
          obtain rfl : n = 0 := by omega
          clear d1 d2 q1 q2
          cases t with
          | nil =>
            by_cases q4 : ll ≤ 64
            rotate_left
            · have d4 : decide ((ll : Int) ≤ 64) = false := decide_eq_false (by omega)
              go_enter Tryd.func57, Tryd.ntmps57
              go_wp2
              go_ret
              exact ⟨ret_bool (HH.out.trans (by clear HH; cases U <;> simp <;> omega)).symm, HBW.out⟩
            · have d4 : decide ((ll : Int) ≤ 64) = true := decide_eq_true (by omega)
              cases lk with
              | succ lk =>
                have d5 : (((lk + 1 : Nat) : Int) == 0) = false := by simp; omega
                go_enter Tryd.func57, Tryd.ntmps57
                go_wp2
                go_ret
                exact ⟨ret_bool (HH.out.trans (by clear HH; cases U <;> simp <;> omega)).symm, HBW.out⟩
              | zero =>
                go_enter Tryd.func57, Tryd.ntmps57
                go_wp2_with (go_at_call 70; with_reducible refine (HUN.out _ (HBW.out)).mono ?_; rintro e1 w1 ⟨rfl, hb1⟩)
                go_ret
                exact ⟨ret_bool (HH.out.trans (by clear HH; cases U <;> simp <;> omega)).symm, hb1⟩
          | cons x r =>
            have d3 : ((x :: r) == ([] : List UInt8)) = false := rfl
            go_enter Tryd.func57, Tryd.ntmps57
            go_wp2
            go_ret
            exact ⟨ret_bool (HH.out.trans (by clear HH; cases U <;> simp <;> omega)).symm, HBW.out⟩
        · have d2 : decide (n ≤ (0 : Int)) = false := decide_eq_false q2
          go_enter Tryd.func57, Tryd.ntmps57
          go_wp2
          go_ret
          exact ⟨ret_bool (HH.out.trans (by clear HH; cases U <;> simp <;> omega)).symm, HBW.out⟩
      · have d1 : decide ((0 : Int) ≤ n) = false := decide_eq_false q1
        go_enter Tryd.func57, Tryd.ntmps57
        go_wp2
        go_ret
        exact ⟨ret_bool (HH.out.trans (by clear HH; cases U <;> simp <;> omega)).symm, HBW.out⟩
    · -- kind 6
      by_cases q1 : (0 : Int) ≤ n
      · have d1 : decide ((0 : Int) ≤ n) = true := decide_eq_true q1
        by_cases q2 : n ≤ (0 : Int)
        · have d2 : decide (n ≤ (0 : Int)) = true := decide_eq_true q2
          obtain rfl : n = 0 := by omega
          clear d1 d2 q1 q2
          cases t with
          | nil =>
            by_cases q4 : ll ≤ 64
            rotate_left
            · have d4 : decide ((ll : Int) ≤ 64) = false := decide_eq_false (by omega)
              go_enter Tryd.func57, Tryd.ntmps57
              go_wp2_with fail
              go_region
              all_goals
                go_wp2
                go_ret
                exact ⟨ret_bool (HH.out.trans (by clear HH; cases U <;> simp <;> omega)).symm, HBW.out.drew⟩
            · have d4 : decide ((ll : Int) ≤ 64) = true := decide_eq_true (by omega)
              by_cases q5 : lk = ll
              · subst q5
                go_enter Tryd.func57, Tryd.ntmps57
                go_wp2_with fail
                go_region
                all_goals
                  go_wp2_with (go_at_call 70; with_reducible refine (HUN.out _ (HBW.out.drew)).mono ?_; rintro e1 w1 ⟨rfl, hb1⟩)
                  go_ret
                  exact ⟨ret_bool (HH.out.trans (by clear HH; cases U <;> simp <;> omega)).symm, below_drew2 _ _ hb1⟩
              · have d5 : ((lk : Int) == (ll : Int)) = false := by simp; omega
                go_enter Tryd.func57, Tryd.ntmps57
                go_wp2_with fail
                go_region
                all_goals
                  go_wp2
                  go_ret
                  exact ⟨ret_bool (HH.out.trans (by clear HH; cases U <;> simp <;> omega)).symm, HBW.out.drew⟩
          | cons x r =>
            have d3 : ((x :: r) == ([] : List UInt8)) = false := rfl
            go_enter Tryd.func57, Tryd.ntmps57
            go_wp2_with fail
            go_region
            all_goals
              go_wp2
              go_ret
              exact ⟨ret_bool (HH.out.trans (by clear HH; cases U <;> simp <;> omega)).symm, HBW.out.drew⟩
        · have d2 : decide (n ≤ (0 : Int)) = false := decide_eq_false q2
          go_enter Tryd.func57, Tryd.ntmps57
          go_wp2_with fail
          go_region
          all_goals
            go_wp2
            go_ret
            exact ⟨ret_bool (HH.out.trans (by clear HH; cases U <;> simp <;> omega)).symm, HBW.out.drew⟩
      · have d1 : decide ((0 : Int) ≤ n) = false := decide_eq_false q1
        go_enter Tryd.func57, Tryd.ntmps57
        go_wp2_with fail
        go_region
        all_goals
          go_wp2
          go_ret
          exact ⟨ret_bool (HH.out.trans (by clear HH; cases U <;> simp <;> omega)).symm, HBW.out.drew⟩
  · have d1 : (k == 1) = false := by simp; omega
    have d2 : (k == 2) = false := by simp; omega
    have d3 : (k == 3) = false := by simp; omega
    have d4 : (k == 4) = false := by simp; omega
    have d5 : (k == 5) = false := by simp; omega
    have d6 : (k == 6) = false := by simp; omega
    have hK := Lib.hid hk; clear hk
    go_enter Tryd.func57, Tryd.ntmps57
    go_wp2
    go_ret
    exact ⟨ret_bool (HH.out.trans (by rw [decide_eq_false hK.out]; rfl)).symm, HBW.out⟩
end Go.Proofs.YtobicmpgfiddhaaDoor
