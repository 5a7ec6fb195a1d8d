/- Texts merged by program, in build order: JsonUnlike, JsonFit, JsonWithin, JsonFits, JsonWriteV, JsonPrint. -/
import Derived.Test.YthbbeojhipcjiaaDoorJws05
import Derived.Maps.OwnSet
import Derived.Deep.RegionHeld3
import Derived.Test.YthbbeojhipcjiaaDoorJws09
namespace Go.Proofs.YthbbeojhipcjiaaDoor
open Go.RowKit Go.Maps

theorem Tryd.zeroUnit (w : World) : (zeroValue 53).run Tryd.prog w = .ok (.agg #[]) w := by kernel_rfl
theorem run_makeMapN {P : Program} (t k e : TypeId) (kd : IntKind) (n : Int) (ht : P.underlying t = some (.map k e)) (w : World) :
    (Instr.makeMap t (some (.int kd n))).run P w = .ok (.map (some w.heap.size)) (w.alloc (.map #[] 0)) := by
  simp [Instr.makeMap, run_underlying ht]; rfl
theorem Tryd.lawKey : Keyed Tryd.prog 9 := string_keyed Tryd.underlying9
def litsOf (ks : List (List UInt8)) : List Lit := ks.map Lit.string
theorem lits_key (ks : List (List UInt8)) : ∀ x ∈ litsOf ks, WideAt.IsKeyLit x := by
  intro x hx; obtain ⟨_, _, rfl⟩ := List.mem_map.1 hx; trivial
def keysAt (ks : List (List UInt8)) (k : Nat) : DataW Unit := setOf (.agg []) (litsOf (ks.take k))
theorem keysAt_next (ks : List (List UInt8)) (k : Nat) (h : k < ks.length) : keysAt ks (k + 1) = (keysAt ks k).put (.string ks[k]) (.agg []) := by
  unfold keysAt litsOf
  rw [List.take_succ_eq_append_getElem h, List.map_append, List.map_singleton, setOf_snoc]
theorem lit_same (a b : List UInt8) : (Lit.string a).sameKey (.string b) = decide (a = b) := by
  show (a == b) = _
  rw [Bool.eq_iff_iff]; simp
theorem keysAt_has (ks : List (List UInt8)) (k : Nat) (x : List UInt8) : Maps.has (keysAt ks k) (.string x) = decide (x ∈ ks.take k) := by
  unfold keysAt
  rw [has_setOf _ _ _ (lits_key _)]
  unfold litsOf
  rw [List.any_map, Bool.eq_iff_iff, List.any_eq_true, decide_eq_true_eq]
  constructor
  · rintro ⟨y, hy, he⟩
    have : y = x := by simpa [lit_same] using he
    rwa [← this]
  · intro h
    exact ⟨x, h, by simp [lit_same]⟩
/-- how many different keys there are -/
theorem keysAt_size (ks : List (List UInt8)) : ∀ k, k ≤ ks.length → Maps.size (keysAt ks k) ≤ k ∧ (Maps.size (keysAt ks k) = k ↔ (ks.take k).Nodup)
  | 0, _ => by
    have : Maps.size (keysAt ks 0) = 0 := rfl
    rw [this]; simp
  | k + 1, h => by
    have hk : k < ks.length := by omega
    obtain ⟨h1, h2⟩ := keysAt_size ks k (by omega)
    rw [keysAt_next ks k hk, size_put (show Tidy (keysAt ks k) from tidy_setOf _ _ (lits_key _)), keysAt_has, List.take_succ_eq_append_getElem hk, List.nodup_append]
    by_cases hm : ks[k] ∈ ks.take k
    · rw [if_pos (by simpa using hm)]
      refine ⟨by omega, ⟨fun h => by omega, fun h => ?_⟩⟩
      exact absurd rfl (h.2.2 _ hm _ (by simp))
    · rw [if_neg (by simpa using hm)]
      refine ⟨by omega, ⟨fun h => ⟨h2.1 (by omega), by simp, fun a ha b hb e => ?_⟩, fun h => by rw [h2.2 h.1]⟩⟩
      have : b = ks[k] := by simpa using hb
      subst this; subst e
      exact hm ha
theorem keysAt_all (ks : List (List UInt8)) : ((Maps.size (keysAt ks ks.length) : Int) == (ks.length : Int)) = unlikeB ks := by
  obtain ⟨h1, h2⟩ := keysAt_size ks ks.length (Nat.le_refl _)
  rw [List.take_length, ← unlike_nodup] at h2
  rw [Bool.eq_iff_iff, ← h2]
  simp; omega
set_option maxRecDepth 100000 in
set_option maxHeartbeats 1000000 in
theorem unlike_any (A : Option Addr) (c L N : Nat) (ks : List (List UInt8)) (hl : ks.length ≤ 9223372036854775807) (hz : ∀ x ∈ ks, x.length ≤ 9223372036854775807) (w : World) (hN : N ≤ w.heap.size) (hk : ks = [] ∨ ∃ b o, A = some ⟨b, o, none⟩ ∧ KIs w L N ks b o) :
    Calls Tryd.prog 75 #[.slice A ks.length c] w fun e w' => e = .returned (.bool (unlikeB ks)) ∧ Below w.heap.size w w' := by
  have hmm := fun n => @run_makeMapN Tryd.prog 50 9 53 .i64 n Tryd.underlying50
  have hall := keysAt_all ks
  obtain ⟨n, hn⟩ : ∃ n, ks.length = n := ⟨_, rfl⟩
  obtain ⟨R, hR⟩ : ∃ R, unlikeB ks = R := ⟨_, rfl⟩
  rw [hR] at hall ⊢
  rw [hn] at hl hall ⊢
  have HN := Lib.hid hn; have HZ := Lib.hid hz; have HA := Lib.hid hall; have HK := Lib.hid hk; clear hn hz hall hR hk
  go_enter Tryd.func75, Tryd.ntmps75
  go_wp2
  go_loopw [11] (fun i wr => ∃ k : Nat, k ≤ n ∧ i = .int .i64 k ∧ wr.ownsMap Tryd.prog 9 (unitElem (H := Unit)) w.heap.size k (keysAt ks k) ∧ Below w.heap.size w wr) (fun i _ => n - (intOf i).toNat)
  case atStart => exact ⟨0, Nat.zero_le _, rfl, World.ownsMap_made _ _ _ _, (Below.refl _ _).alloc (Nat.le_refl _) _⟩
  case round =>
    obtain ⟨k, hk, rfl, hown, hbw⟩ := hrel
    have hbs := hbw.size
    by_cases hlt : k < n
    · have hkl : k < ks.length := by have := HN.out; omega
      obtain ⟨b, o, rfl, _, hbN, h1⟩ := VIs.key HK.out k hkl
      have h1 := (hbw.cell (p := ⟨b, o + k, none⟩) (by show b < _; omega)).trans h1
      have hsz := HZ.out ks[k] (List.getElem_mem hkl)
      have g3 := keysAt_next ks k hkl
      have G3 := Lib.hid g3; clear g3 HK
      generalize ks[k] = x at *
      have hkey : keyOf Tryd.prog 9 (.string ⟨x.toArray⟩) = some (.string x) := WideMaps.keyOf_string_mk Tryd.underlying9 hsz
      go_wp2_with (at_mapUpdate; refine wpList_mapUpdate_own _ rfl _ _ _ 50 rfl 9 53 Tryd.lawKey Tryd.underlying50 (unitElem (H := Unit)) w.heap.size k _ rfl hown (by unfold maxLen; omega) _ _ _ rfl rfl hkey _ [] unitElem_mk ?_; intro w1 hown1 hgrow1)
      go_roundw
      case rel => exact ⟨k + 1, by omega, by go_num, by rw [G3.out]; exact hown1, hbw.grown hgrow1 (by omega) (fun j hj => by cases hj; exact Nat.le_refl _)⟩
      case measure => simp [intOf]; omega
    · obtain rfl : n = k := by omega
      go_wp2_with (at_len; go_loud (refine wpList_len_own _ rfl _ 50 rfl 9 53 Tryd.underlying50 _ w.heap.size n _ rfl hown ?_))
      go_ret
      exact ⟨ret_bool HA.out, hbw⟩
end Go.Proofs.YthbbeojhipcjiaaDoor
namespace Go.Proofs.YthbbeojhipcjiaaDoor
open Go.RowKit
set_option linter.unusedVariables false
set_option linter.unusedSimpArgs false

/-- what a value must be by itself, as the code reckons it -/
def headC (k n : Int) (t : List UInt8) (ll : Nat) (ks : List (List UInt8)) : Bool :=
  decide (1 ≤ k ∧ k ≤ 6) && decide ((if k = 3 then -9007199254740992 else 0) ≤ n) && decide (n ≤ (if k = 2 then 1 else if k = 3 then 9007199254740992 else 0)) && (t.isEmpty || decide (k = 4)) &&
  decide (ll ≤ (if k = 5 ∨ k = 6 then 64 else 0)) && decide (ks.length = (if k = 6 then ll else 0)) && unlikeB ks
theorem headC_eq (k n : Int) (t : List UInt8) (ll : Nat) (ks : List (List UInt8)) : headB k n t ll ks = headC k n t ll ks := by
  by_cases hk : 1 ≤ k ∧ k ≤ 6
  · have hk' : k = 1 ∨ k = 2 ∨ k = 3 ∨ k = 4 ∨ k = 5 ∨ k = 6 := by omega
    unfold headB headC
    rw [Bool.eq_iff_iff]
    generalize unlikeB ks = U
    simp only [Bool.and_eq_true, Bool.or_eq_true, decide_eq_true_eq, List.isEmpty_iff]
    cases ks with
    | nil =>
      cases t with
      | nil => rcases hk' with rfl | rfl | rfl | rfl | rfl | rfl <;> simp <;> omega
      | cons x r => rcases hk' with rfl | rfl | rfl | rfl | rfl | rfl <;> simp <;> omega
    | cons y s =>
      cases t with
      | nil => rcases hk' with rfl | rfl | rfl | rfl | rfl | rfl <;> simp <;> omega
      | cons x r => rcases hk' with rfl | rfl | rfl | rfl | rfl | rfl <;> simp <;> omega
  · unfold headB headC
    rw [decide_eq_false hk]; rfl
theorem head_t1 (n : Int) (t : List UInt8) (ll : Nat) (ks : List (List UInt8)) {k : Int} (h : ¬ (1 ≤ k ∧ k ≤ 6)) : headC k n t ll ks = false := by unfold headC; rw [decide_eq_false h]; rfl
set_option maxRecDepth 100000 in
set_option maxHeartbeats 4000000 in
theorem fieldsFit_any (v : V) (w : World) (L N b o : Nat) (cs : List Value) (h5 : Five w b o cs) (hbN : b < N) (hv : VIs w L N v cs) (hN : N ≤ w.heap.size) :
    Calls Tryd.prog 55 #[.pointer (some ⟨b, o, none⟩)] w fun e w' => e = .returned (.bool (headB v.kind v.num v.text v.list.length v.keys)) ∧ Below w.heap.size w w' := by
  obtain ⟨k, n, t, l, ks⟩ := v
  rw [headC_eq]
  show Calls Tryd.prog 55 #[.pointer (some ⟨b, o, none⟩)] w fun e w' => e = .returned (.bool (headC k n t l.length ks)) ∧ Below w.heap.size w w'
  obtain ⟨⟨ml, mk, mt, mx⟩, A, c, A', c', rfl, h1, h2⟩ := hv.out
  obtain ⟨c0, c1, c2, c3, c4, e, m0, m1, m2, m3, m4⟩ := h5
  injection e with e0 e; injection e with e1 e; injection e with e2 e; injection e with e3 e; injection e with e4 e
  subst e0; subst e1; subst e2; subst e3; subst e4
  have hun := fun wq (hb : Below w.heap.size w wq) => unlike_any A' c' L N ks mk mx wq (Nat.le_trans hN hb.size) (by
    rcases h1 with h | ⟨p, q, e, h⟩
    · exact .inl h
    · exact .inr ⟨p, q, e, h.below (hb.mono hN)⟩)
  generalize l.length = ll at *
  obtain ⟨U, hU⟩ : ∃ U, unlikeB ks = U := ⟨_, rfl⟩
  have hH : headC k n t ll ks = (decide (1 ≤ k ∧ k ≤ 6) && decide ((if k = 3 then -9007199254740992 else 0) ≤ n) && decide (n ≤ (if k = 2 then 1 else if k = 3 then 9007199254740992 else 0)) && (t.isEmpty || decide (k = 4)) && decide (ll ≤ (if k = 5 ∨ k = 6 then 64 else 0)) && decide (ks.length = (if k = 6 then ll else 0)) && U) := by rw [← hU]; rfl
  generalize headC k n t ll ks = H at *
  rw [hU] at hun
  generalize ks.length = lk at *
  have HUN := Lib.hid (fun wq hb => hun wq hb); have HH := Lib.hid hH
  clear hun hH h1 h2 hv hU mx
  have hbw := Below.refl w.heap.size w
  have HBW := Lib.hid hbw; clear hbw
  by_cases hk : 1 ≤ k ∧ k ≤ 6
  · have hk' : k = 1 ∨ k = 2 ∨ k = 3 ∨ k = 4 ∨ k = 5 ∨ k = 6 := by omega
    clear hk
    rcases hk' with rfl | rfl | rfl | rfl | rfl | rfl
    · -- kind 1
      by_cases q1 : (0 : Int) ≤ n
      · have d1 : decide ((0 : Int) ≤ n) = true := decide_eq_true q1
        by_cases q2 : n ≤ (0 : Int)
        · have d2 : decide (n ≤ (0 : Int)) = true := decide_eq_true q2
          obtain rfl : n = 0 := by omega
          clear d1 d2 q1 q2
          cases t with
          | nil =>
            cases ll with
            | succ ll =>
              have d4 : decide (((ll + 1 : Nat) : Int) ≤ 0) = false := decide_eq_false (by omega)
              go_enter Tryd.func55, Tryd.ntmps55
              go_wp2
              go_ret
              exact ⟨ret_bool (HH.out.trans (by clear HH; cases U <;> simp <;> omega)).symm, HBW.out⟩
            | zero =>
              cases lk with
              | succ lk =>
                have d5 : (((lk + 1 : Nat) : Int) == 0) = false := by simp; omega
                go_enter Tryd.func55, Tryd.ntmps55
                go_wp2
                go_ret
                exact ⟨ret_bool (HH.out.trans (by clear HH; cases U <;> simp <;> omega)).symm, HBW.out⟩
              | zero =>
                go_enter Tryd.func55, Tryd.ntmps55
                go_wp2_with (go_at_call 75; with_reducible refine (HUN.out _ (HBW.out)).mono ?_; rintro e1 w1 ⟨rfl, hb1⟩)
                go_ret
                exact ⟨ret_bool (HH.out.trans (by clear HH; cases U <;> simp <;> omega)).symm, hb1⟩
          | cons x r =>
            have d3 : ((x :: r) == ([] : List UInt8)) = false := rfl
            go_enter Tryd.func55, Tryd.ntmps55
            go_wp2
            go_ret
            exact ⟨ret_bool (HH.out.trans (by clear HH; cases U <;> simp <;> omega)).symm, HBW.out⟩
        · have d2 : decide (n ≤ (0 : Int)) = false := decide_eq_false q2
          go_enter Tryd.func55, Tryd.ntmps55
          go_wp2
          go_ret
          exact ⟨ret_bool (HH.out.trans (by clear HH; cases U <;> simp <;> omega)).symm, HBW.out⟩
      · have d1 : decide ((0 : Int) ≤ n) = false := decide_eq_false q1
        go_enter Tryd.func55, Tryd.ntmps55
        go_wp2
        go_ret
        exact ⟨ret_bool (HH.out.trans (by clear HH; cases U <;> simp <;> omega)).symm, HBW.out⟩
    · -- kind 2
      by_cases q1 : (0 : Int) ≤ n
      · have d1 : decide ((0 : Int) ≤ n) = true := decide_eq_true q1
        by_cases q2 : n ≤ (1 : Int)
        · have d2 : decide (n ≤ (1 : Int)) = true := decide_eq_true q2
          cases t with
          | nil =>
            cases ll with
            | succ ll =>
              have d4 : decide (((ll + 1 : Nat) : Int) ≤ 0) = false := decide_eq_false (by omega)
              go_enter Tryd.func55, Tryd.ntmps55
              go_wp2
              go_ret
              exact ⟨ret_bool (HH.out.trans (by clear HH; cases U <;> simp <;> omega)).symm, HBW.out⟩
            | zero =>
              cases lk with
              | succ lk =>
                have d5 : (((lk + 1 : Nat) : Int) == 0) = false := by simp; omega
                go_enter Tryd.func55, Tryd.ntmps55
                go_wp2
                go_ret
                exact ⟨ret_bool (HH.out.trans (by clear HH; cases U <;> simp <;> omega)).symm, HBW.out⟩
              | zero =>
                go_enter Tryd.func55, Tryd.ntmps55
                go_wp2_with (go_at_call 75; with_reducible refine (HUN.out _ (HBW.out)).mono ?_; rintro e1 w1 ⟨rfl, hb1⟩)
                go_ret
                exact ⟨ret_bool (HH.out.trans (by clear HH; cases U <;> simp <;> omega)).symm, hb1⟩
          | cons x r =>
            have d3 : ((x :: r) == ([] : List UInt8)) = false := rfl
            go_enter Tryd.func55, Tryd.ntmps55
            go_wp2
            go_ret
            exact ⟨ret_bool (HH.out.trans (by clear HH; cases U <;> simp <;> omega)).symm, HBW.out⟩
        · have d2 : decide (n ≤ (1 : Int)) = false := decide_eq_false q2
          go_enter Tryd.func55, Tryd.ntmps55
          go_wp2
          go_ret
          exact ⟨ret_bool (HH.out.trans (by clear HH; cases U <;> simp <;> omega)).symm, HBW.out⟩
      · have d1 : decide ((0 : Int) ≤ n) = false := decide_eq_false q1
        go_enter Tryd.func55, Tryd.ntmps55
        go_wp2
        go_ret
        exact ⟨ret_bool (HH.out.trans (by clear HH; cases U <;> simp <;> omega)).symm, HBW.out⟩
    · -- kind 3
      by_cases q1 : (-9007199254740992 : Int) ≤ n
      · have d1 : decide ((-9007199254740992 : Int) ≤ n) = true := decide_eq_true q1
        by_cases q2 : n ≤ (9007199254740992 : Int)
        · have d2 : decide (n ≤ (9007199254740992 : Int)) = true := decide_eq_true q2
          cases t with
          | nil =>
            cases ll with
            | succ ll =>
              have d4 : decide (((ll + 1 : Nat) : Int) ≤ 0) = false := decide_eq_false (by omega)
              go_enter Tryd.func55, Tryd.ntmps55
              go_wp2
              go_ret
              exact ⟨ret_bool (HH.out.trans (by clear HH; cases U <;> simp <;> omega)).symm, HBW.out⟩
            | zero =>
              cases lk with
              | succ lk =>
                have d5 : (((lk + 1 : Nat) : Int) == 0) = false := by simp; omega
                go_enter Tryd.func55, Tryd.ntmps55
                go_wp2
                go_ret
                exact ⟨ret_bool (HH.out.trans (by clear HH; cases U <;> simp <;> omega)).symm, HBW.out⟩
              | zero =>
                go_enter Tryd.func55, Tryd.ntmps55
                go_wp2_with (go_at_call 75; with_reducible refine (HUN.out _ (HBW.out)).mono ?_; rintro e1 w1 ⟨rfl, hb1⟩)
                go_ret
                exact ⟨ret_bool (HH.out.trans (by clear HH; cases U <;> simp <;> omega)).symm, hb1⟩
          | cons x r =>
            have d3 : ((x :: r) == ([] : List UInt8)) = false := rfl
            go_enter Tryd.func55, Tryd.ntmps55
            go_wp2
            go_ret
            exact ⟨ret_bool (HH.out.trans (by clear HH; cases U <;> simp <;> omega)).symm, HBW.out⟩
        · have d2 : decide (n ≤ (9007199254740992 : Int)) = false := decide_eq_false q2
          go_enter Tryd.func55, Tryd.ntmps55
          go_wp2
          go_ret
          exact ⟨ret_bool (HH.out.trans (by clear HH; cases U <;> simp <;> omega)).symm, HBW.out⟩
      · have d1 : decide ((-9007199254740992 : Int) ≤ n) = false := decide_eq_false q1
        go_enter Tryd.func55, Tryd.ntmps55
        go_wp2
        go_ret
        exact ⟨ret_bool (HH.out.trans (by clear HH; cases U <;> simp <;> omega)).symm, HBW.out⟩
    · -- kind 4
      by_cases q1 : (0 : Int) ≤ n
      · have d1 : decide ((0 : Int) ≤ n) = true := decide_eq_true q1
        by_cases q2 : n ≤ (0 : Int)
        · have d2 : decide (n ≤ (0 : Int)) = true := decide_eq_true q2
          obtain rfl : n = 0 := by omega
          clear d1 d2 q1 q2
          cases t with
          | nil =>
            cases ll with
            | succ ll =>
              have d4 : decide (((ll + 1 : Nat) : Int) ≤ 0) = false := decide_eq_false (by omega)
              go_enter Tryd.func55, Tryd.ntmps55
              go_wp2
              go_ret
              exact ⟨ret_bool (HH.out.trans (by clear HH; cases U <;> simp <;> omega)).symm, HBW.out⟩
            | zero =>
              cases lk with
              | succ lk =>
                have d5 : (((lk + 1 : Nat) : Int) == 0) = false := by simp; omega
                go_enter Tryd.func55, Tryd.ntmps55
                go_wp2
                go_ret
                exact ⟨ret_bool (HH.out.trans (by clear HH; cases U <;> simp <;> omega)).symm, HBW.out⟩
              | zero =>
                go_enter Tryd.func55, Tryd.ntmps55
                go_wp2_with (go_at_call 75; with_reducible refine (HUN.out _ (HBW.out)).mono ?_; rintro e1 w1 ⟨rfl, hb1⟩)
                go_ret
                exact ⟨ret_bool (HH.out.trans (by clear HH; cases U <;> simp <;> omega)).symm, hb1⟩
          | cons x r =>
            have d3 : ((x :: r) == ([] : List UInt8)) = false := rfl
            cases ll with
            | succ ll =>
              have d4 : decide (((ll + 1 : Nat) : Int) ≤ 0) = false := decide_eq_false (by omega)
              go_enter Tryd.func55, Tryd.ntmps55
              go_wp2
              go_ret
              exact ⟨ret_bool (HH.out.trans (by clear HH; cases U <;> simp <;> omega)).symm, HBW.out⟩
            | zero =>
              cases lk with
              | succ lk =>
                have d5 : (((lk + 1 : Nat) : Int) == 0) = false := by simp; omega
                go_enter Tryd.func55, Tryd.ntmps55
                go_wp2
                go_ret
                exact ⟨ret_bool (HH.out.trans (by clear HH; cases U <;> simp <;> omega)).symm, HBW.out⟩
              | zero =>
                go_enter Tryd.func55, Tryd.ntmps55
                go_wp2_with (go_at_call 75; with_reducible refine (HUN.out _ (HBW.out)).mono ?_; rintro e1 w1 ⟨rfl, hb1⟩)
                go_ret
                exact ⟨ret_bool (HH.out.trans (by clear HH; cases U <;> simp <;> omega)).symm, hb1⟩
        · have d2 : decide (n ≤ (0 : Int)) = false := decide_eq_false q2
          go_enter Tryd.func55, Tryd.ntmps55
          go_wp2
          go_ret
          exact ⟨ret_bool (HH.out.trans (by clear HH; cases U <;> simp <;> omega)).symm, HBW.out⟩
      · have d1 : decide ((0 : Int) ≤ n) = false := decide_eq_false q1
        go_enter Tryd.func55, Tryd.ntmps55
        go_wp2
        go_ret
        exact ⟨ret_bool (HH.out.trans (by clear HH; cases U <;> simp <;> omega)).symm, HBW.out⟩
    · -- kind 5
      by_cases q1 : (0 : Int) ≤ n
      · have d1 : decide ((0 : Int) ≤ n) = true := decide_eq_true q1
        by_cases q2 : n ≤ (0 : Int)
        · have d2 : decide (n ≤ (0 : Int)) = true := decide_eq_true q2
          obtain rfl : n = 0 := by omega
          clear d1 d2 q1 q2
          cases t with
          | nil =>
            by_cases q4 : ll ≤ 64
            rotate_left
            · have d4 : decide ((ll : Int) ≤ 64) = false := decide_eq_false (by omega)
              go_enter Tryd.func55, Tryd.ntmps55
              go_wp2
              go_ret
              exact ⟨ret_bool (HH.out.trans (by clear HH; cases U <;> simp <;> omega)).symm, HBW.out⟩
            · have d4 : decide ((ll : Int) ≤ 64) = true := decide_eq_true (by omega)
              cases lk with
              | succ lk =>
                have d5 : (((lk + 1 : Nat) : Int) == 0) = false := by simp; omega
                go_enter Tryd.func55, Tryd.ntmps55
                go_wp2
                go_ret
                exact ⟨ret_bool (HH.out.trans (by clear HH; cases U <;> simp <;> omega)).symm, HBW.out⟩
              | zero =>
                go_enter Tryd.func55, Tryd.ntmps55
                go_wp2_with (go_at_call 75; with_reducible refine (HUN.out _ (HBW.out)).mono ?_; rintro e1 w1 ⟨rfl, hb1⟩)
                go_ret
                exact ⟨ret_bool (HH.out.trans (by clear HH; cases U <;> simp <;> omega)).symm, hb1⟩
          | cons x r =>
            have d3 : ((x :: r) == ([] : List UInt8)) = false := rfl
            go_enter Tryd.func55, Tryd.ntmps55
            go_wp2
            go_ret
            exact ⟨ret_bool (HH.out.trans (by clear HH; cases U <;> simp <;> omega)).symm, HBW.out⟩
        · have d2 : decide (n ≤ (0 : Int)) = false := decide_eq_false q2
          go_enter Tryd.func55, Tryd.ntmps55
          go_wp2
          go_ret
          exact ⟨ret_bool (HH.out.trans (by clear HH; cases U <;> simp <;> omega)).symm, HBW.out⟩
      · have d1 : decide ((0 : Int) ≤ n) = false := decide_eq_false q1
        go_enter Tryd.func55, Tryd.ntmps55
        go_wp2
        go_ret
        exact ⟨ret_bool (HH.out.trans (by clear HH; cases U <;> simp <;> omega)).symm, HBW.out⟩
    · -- kind 6
      by_cases q1 : (0 : Int) ≤ n
      · have d1 : decide ((0 : Int) ≤ n) = true := decide_eq_true q1
        by_cases q2 : n ≤ (0 : Int)
        · have d2 : decide (n ≤ (0 : Int)) = true := decide_eq_true q2
          obtain rfl : n = 0 := by omega
          clear d1 d2 q1 q2
          cases t with
          | nil =>
            by_cases q4 : ll ≤ 64
            rotate_left
            · have d4 : decide ((ll : Int) ≤ 64) = false := decide_eq_false (by omega)
              go_enter Tryd.func55, Tryd.ntmps55
              go_wp2_with fail
              go_region
              all_goals
                go_wp2
                go_ret
                exact ⟨ret_bool (HH.out.trans (by clear HH; cases U <;> simp <;> omega)).symm, HBW.out.drew⟩
            · have d4 : decide ((ll : Int) ≤ 64) = true := decide_eq_true (by omega)
              by_cases q5 : lk = ll
              · subst q5
                go_enter Tryd.func55, Tryd.ntmps55
                go_wp2_with fail
                go_region
                all_goals
                  go_wp2_with (go_at_call 75; with_reducible refine (HUN.out _ (HBW.out.drew)).mono ?_; rintro e1 w1 ⟨rfl, hb1⟩)
                  go_ret
                  exact ⟨ret_bool (HH.out.trans (by clear HH; cases U <;> simp <;> omega)).symm, below_drew2 _ _ hb1⟩
              · have d5 : ((lk : Int) == (ll : Int)) = false := by simp; omega
                go_enter Tryd.func55, Tryd.ntmps55
                go_wp2_with fail
                go_region
                all_goals
                  go_wp2
                  go_ret
                  exact ⟨ret_bool (HH.out.trans (by clear HH; cases U <;> simp <;> omega)).symm, HBW.out.drew⟩
          | cons x r =>
            have d3 : ((x :: r) == ([] : List UInt8)) = false := rfl
            go_enter Tryd.func55, Tryd.ntmps55
            go_wp2_with fail
            go_region
            all_goals
              go_wp2
              go_ret
              exact ⟨ret_bool (HH.out.trans (by clear HH; cases U <;> simp <;> omega)).symm, HBW.out.drew⟩
        · have d2 : decide (n ≤ (0 : Int)) = false := decide_eq_false q2
          go_enter Tryd.func55, Tryd.ntmps55
          go_wp2_with fail
          go_region
          all_goals
            go_wp2
            go_ret
            exact ⟨ret_bool (HH.out.trans (by clear HH; cases U <;> simp <;> omega)).symm, HBW.out.drew⟩
      · have d1 : decide ((0 : Int) ≤ n) = false := decide_eq_false q1
        go_enter Tryd.func55, Tryd.ntmps55
        go_wp2_with fail
        go_region
        all_goals
          go_wp2
          go_ret
          exact ⟨ret_bool (HH.out.trans (by clear HH; cases U <;> simp <;> omega)).symm, HBW.out.drew⟩
  · have d1 : (k == 1) = false := by simp; omega
    have d2 : (k == 2) = false := by simp; omega
    have d3 : (k == 3) = false := by simp; omega
    have d4 : (k == 4) = false := by simp; omega
    have d5 : (k == 5) = false := by simp; omega
    have d6 : (k == 6) = false := by simp; omega
    have hK := Lib.hid hk; clear hk
    go_enter Tryd.func55, Tryd.ntmps55
    go_wp2
    go_ret
    exact ⟨ret_bool (HH.out.trans (by rw [decide_eq_false hK.out]; rfl)).symm, HBW.out⟩
end Go.Proofs.YthbbeojhipcjiaaDoor
namespace Go.Proofs.YthbbeojhipcjiaaDoor
open Go.RowKit

theorem depth_of (k n : Int) (t : List UInt8) (l : List V) (ks : List (List UInt8)) (lv : Nat) (h : ∀ i (h : i < l.length), l[i].depth ≤ lv) : decide ((V.mk k n t l ks).depth ≤ lv + 1) = true := by
  rw [depth_mk]; have := (depths_iff l lv).2 h; simp; omega
theorem depth_not (k n : Int) (t : List UInt8) (l : List V) (ks : List (List UInt8)) (lv i : Nat) (hi : i < l.length) (h : ¬ l[i].depth ≤ lv) : decide ((V.mk k n t l ks).depth ≤ lv + 1) = false := by
  rw [depth_mk]
  have : ¬ V.depths l ≤ lv := fun h' => h ((depths_iff l lv).1 h' i hi)
  simp; omega
set_option maxRecDepth 100000 in
set_option maxHeartbeats 1000000 in
theorem within_at (m : Nat) : ∀ (v : V) (lv : Nat) (w : World) (L N b o : Nat) (cs : List Value), v.size ≤ m → lv ≤ 1000000 → Five w b o cs → b < N → VIs w L N v cs → N ≤ w.heap.size →
    Calls Tryd.prog 40 #[.pointer (some ⟨b, o, none⟩), .int .i64 lv] w fun e w' => e = .returned (.bool (decide (v.depth ≤ lv))) ∧ Below w.heap.size w w' := by
  induction m with
  | zero => intro v lv w L N b o cs hm; exact absurd (size_pos v) (by omega)
  | succ m ih =>
  intro v lv w L N b o cs hm hlv h5 hbN hv hN
  obtain ⟨k, n, t, l, ks⟩ := v
  obtain ⟨⟨ml, mk, -, -⟩, A, c, A', c', rfl, h1, h2⟩ := hv.out
  obtain ⟨c0, c1, c2, c3, c4, e, m0, m1, m2, m3, m4⟩ := h5
  injection e with e0 e; injection e with e1 e; injection e with e2 e; injection e with e3 e; injection e with e4 e
  subst e0; subst e1; subst e2; subst e3; subst e4
  cases lv with
  | zero =>
    have hz : decide ((V.mk k n t l ks).depth ≤ 0) = false := by rw [depth_mk]; simp
    rw [hz]
    go_enter Tryd.func40, Tryd.ntmps40
    go_wp2
    go_ret
    exact ⟨rfl, Below.refl _ _⟩
  | succ lv =>
    have q1 : (((lv + 1 : Nat) : Int) == 0) = false := by simp; omega
    have q2 : ((lv + 1 : Nat) : Int) - 1 = (lv : Int) := by omega
    have q3 : IntKind.i64.wrap (lv : Int) = (lv : Int) := by rw [IntKind.wrap_i64]; omega
    obtain ⟨x, hx⟩ : ∃ x : Int, ((lv + 1 : Nat) : Int) = x := ⟨_, rfl⟩
    have DO := Lib.hid (depth_of k n t l ks lv); have DN := Lib.hid (depth_not k n t l ks lv)
    obtain ⟨R, hR⟩ : ∃ R, decide ((V.mk k n t l ks).depth ≤ lv + 1) = R := ⟨_, rfl⟩
    rw [hR] at DO DN ⊢
    rw [hx] at q1 q2 ⊢
    obtain ⟨nl, hnl⟩ : ∃ nl, l.length = nl := ⟨_, rfl⟩
    rw [hnl] at ml m3
    have NL := Lib.hid hnl; have HM := Lib.hid hm; have H2 := Lib.hid h2
    clear hnl hx hR hv h1 h2 hm
    go_enter Tryd.func40, Tryd.ntmps40
    go_wp2_with fail
    go_loopw [13] (fun i wr => ∃ j : Nat, j ≤ nl ∧ i = .int .i64 j ∧ (∀ i (h : i < l.length), i < j → l[i].depth ≤ lv) ∧ Below w.heap.size w wr) (fun i _ => nl - (intOf i).toNat)
    case atStart => exact ⟨0, Nat.zero_le _, rfl, fun _ _ h => absurd h (Nat.not_lt_zero _), Below.refl _ _⟩
    case round =>
      obtain ⟨j, hj, rfl, hd, hb⟩ := hrel
      have HD := Lib.hid hd; have hs := hb.size; clear hd
      have m3' := (hb.cell (p := ⟨b, o + 3, none⟩) (by show b < _; omega)).trans m3
      by_cases hlt : j < nl
      · have hjl : j < l.length := by have := NL.out; omega
        obtain ⟨p, q, rfl, _, hpN, xs, hx5, hxv⟩ := VIs.item H2.out j hjl
        have hbN' := hb.mono hN
        have hc := fun wq (hwq : Below w.heap.size w wq) => ih l[j] lv wq L N p (q + j * 5) xs (by have := HM.out; have := size_get (k := k) (n := n) (t := t) (ks := ks) j hjl; omega) (by omega) (hx5.keep hpN (fun r hr => (hwq.mono hN).cell hr)) hpN (hxv.below (hwq.mono hN)) (Nat.le_trans hN hwq.size)
        have HC := Lib.hid hc; have HBW := Lib.hid hb
        have T2 := Lib.hid (DN.out j hjl)
        have T1 := Lib.hid (fun (h : l[j].depth ≤ lv) => show ∀ i (h : i < l.length), i < j + 1 → l[i].depth ≤ lv from fun i hi hij => by
          rcases Nat.lt_succ_iff_lt_or_eq.1 hij with h' | h'
          · exact HD.out i hi h'
          · subst h'; exact h)
        clear hc hx5 hxv hbN'
        generalize l[j] = x at *
        by_cases hxd : x.depth ≤ lv
        · have T3 := Lib.hid (T1.out hxd)
          have qd : decide (x.depth ≤ lv) = true := by simpa using hxd
          rw [qd] at HC
          clear T1 T2 hxd
          go_wp2_with (go_at_call 40; with_reducible refine (HC.out _ HBW.out).mono ?_; rintro e1 w1 ⟨rfl, hb1⟩)
          go_roundw
          case rel => exact ⟨j + 1, by omega, by go_num, T3.out, HBW.out.trans (hb1.mono hs)⟩
          case measure => simp [intOf]; omega
        · have T3 := Lib.hid (T2.out hxd)
          have qd : decide (x.depth ≤ lv) = false := by simpa using hxd
          rw [qd] at HC
          clear T1 T2 hxd
          go_wp2_with (go_at_call 40; with_reducible refine (HC.out _ HBW.out).mono ?_; rintro e1 w1 ⟨rfl, hb1⟩)
          go_ret
          exact ⟨ret_bool T3.out.symm, HBW.out.trans (hb1.mono hs)⟩
      · obtain rfl : nl = j := by omega
        have T3 := Lib.hid (DO.out fun i hi => HD.out i hi (by have := NL.out; omega))
        clear DO DN HD NL
        go_wp2
        go_ret
        exact ⟨ret_bool T3.out.symm, hb⟩
end Go.Proofs.YthbbeojhipcjiaaDoor
namespace Go.Proofs.YthbbeojhipcjiaaDoor
open Go.RowKit

set_option maxRecDepth 100000 in
set_option maxHeartbeats 1000000 in
theorem fits_at (m : Nat) : ∀ (v : V) (w : World) (L N b o : Nat) (cs : List Value), v.size ≤ m → Five w b o cs → b < N → VIs w L N v cs → N ≤ w.heap.size →
    Calls Tryd.prog 39 #[.pointer (some ⟨b, o, none⟩)] w fun e w' => e = .returned (.bool v.good) ∧ Below w.heap.size w w' := by
  induction m with
  | zero => intro v w L N b o cs hm; exact absurd (size_pos v) (by omega)
  | succ m ih =>
  intro v w L N b o cs hm h5 hbN hv hN
  have hff := fieldsFit_any v w L N b o cs h5 hbN hv hN
  obtain ⟨k, n, t, l, ks⟩ := v
  rw [good_mk]
  change Calls Tryd.prog _ _ _ (fun e w' => e = .returned (.bool (headB k n t l.length ks)) ∧ _) at hff
  obtain ⟨⟨ml, mk, -, -⟩, A, c, A', c', rfl, h1, h2⟩ := hv.out
  obtain ⟨c0, c1, c2, c3, c4, e, m0, m1, m2, m3, m4⟩ := h5
  injection e with e0 e; injection e with e1 e; injection e with e2 e; injection e with e3 e; injection e with e4 e
  subst e0; subst e1; subst e2; subst e3; subst e4
  have HF := Lib.hid hff
  cases hh : headB k n t l.length ks with
  | false =>
    rw [hh] at HF
    clear hff
    go_enter Tryd.func39, Tryd.ntmps39
    go_wp2_with (go_at_call 55; with_reducible refine (HF.out).mono ?_; rintro e1 w1 ⟨rfl, hb1⟩)
    go_ret
    exact ⟨rfl, hb1⟩
  | true =>
    rw [hh] at HF
    obtain ⟨R, hR⟩ : ∃ R, (true && V.goods l) = R := ⟨_, rfl⟩
    rw [hR]
    have DO := Lib.hid (fun (h : ∀ i (h : i < l.length), l[i].good = true) => show R = true by rw [← hR, (goods_iff l).2 h]; rfl)
    have DN := Lib.hid (fun (i : Nat) (hi : i < l.length) (h : l[i].good = false) => show R = false by
      rw [← hR]
      cases hg : V.goods l with
      | false => rfl
      | true => rw [(goods_iff l).1 hg i hi] at h; cases h)
    obtain ⟨nl, hnl⟩ : ∃ nl, l.length = nl := ⟨_, rfl⟩
    rw [hnl] at ml m3
    have NL := Lib.hid hnl; have HM := Lib.hid hm; have H2 := Lib.hid h2
    clear hnl hR hv h1 h2 hm hff hh
    go_enter Tryd.func39, Tryd.ntmps39
    go_wp2_with (go_at_call 55; with_reducible refine (HF.out).mono ?_; rintro e1 w1 ⟨rfl, hb1⟩; have m3x := (hb1.cell (p := ⟨b, o + 3, none⟩) (by show b < _; omega)).trans m3)
    go_loopw [12] (fun i wr => ∃ j : Nat, j ≤ nl ∧ i = .int .i64 j ∧ (∀ i (h : i < l.length), i < j → l[i].good = true) ∧ Below w.heap.size w wr) (fun i _ => nl - (intOf i).toNat)
    case atStart => exact ⟨0, Nat.zero_le _, rfl, fun _ _ h => absurd h (Nat.not_lt_zero _), hb1⟩
    case round =>
      obtain ⟨j, hj, rfl, hd, hb⟩ := hrel
      have HD := Lib.hid hd; have hs := hb.size; clear hd
      have m3' := (hb.cell (p := ⟨b, o + 3, none⟩) (by show b < _; omega)).trans m3
      by_cases hlt : j < nl
      · have hjl : j < l.length := by have := NL.out; omega
        obtain ⟨p, q, rfl, _, hpN, xs, hx5, hxv⟩ := VIs.item H2.out j hjl
        have hc := fun wq (hwq : Below w.heap.size w wq) => ih l[j] wq L N p (q + j * 5) xs (by have := HM.out; have := size_get (k := k) (n := n) (t := t) (ks := ks) j hjl; omega) (hx5.keep hpN (fun r hr => (hwq.mono hN).cell hr)) hpN (hxv.below (hwq.mono hN)) (Nat.le_trans hN hwq.size)
        have HC := Lib.hid hc; have HBW := Lib.hid hb
        have T2 := Lib.hid (DN.out j hjl)
        have T1 := Lib.hid (fun (h : l[j].good = true) => show ∀ i (h : i < l.length), i < j + 1 → l[i].good = true from fun i hi hij => by
          rcases Nat.lt_succ_iff_lt_or_eq.1 hij with h' | h'
          · exact HD.out i hi h'
          · subst h'; exact h)
        clear hc hx5 hxv
        generalize l[j] = x at *
        cases hg : x.good with
        | true =>
          have T3 := Lib.hid (T1.out hg)
          rw [hg] at HC
          clear T1 T2 hg
          go_wp2_with (go_at_call 39; with_reducible refine (HC.out _ HBW.out).mono ?_; rintro e2 w2 ⟨rfl, hb2⟩)
          go_roundw
          case rel => exact ⟨j + 1, by omega, by go_num, T3.out, HBW.out.trans (hb2.mono hs)⟩
          case measure => simp [intOf]; omega
        | false =>
          have T3 := Lib.hid (T2.out hg)
          rw [hg] at HC
          clear T1 T2 hg
          go_wp2_with (go_at_call 39; with_reducible refine (HC.out _ HBW.out).mono ?_; rintro e2 w2 ⟨rfl, hb2⟩)
          go_ret
          exact ⟨ret_bool T3.out.symm, HBW.out.trans (hb2.mono hs)⟩
      · obtain rfl : nl = j := by omega
        have T3 := Lib.hid (DO.out fun i hi => HD.out i hi (by have := NL.out; omega))
        clear DO DN HD NL
        go_wp2
        go_ret
        exact ⟨ret_bool T3.out.symm, hb⟩
theorem within_any (v : V) (lv : Nat) (w : World) (L N b o : Nat) (cs : List Value) (hlv : lv ≤ 1000000) (h5 : Five w b o cs) (hbN : b < N) (hv : VIs w L N v cs) (hN : N ≤ w.heap.size) :
    Calls Tryd.prog 40 #[.pointer (some ⟨b, o, none⟩), .int .i64 lv] w fun e w' => e = .returned (.bool (decide (v.depth ≤ lv))) ∧ Below w.heap.size w w' :=
  within_at v.size v lv w L N b o cs (Nat.le_refl _) hlv h5 hbN hv hN
theorem fits_any (v : V) (w : World) (L N b o : Nat) (cs : List Value) (h5 : Five w b o cs) (hbN : b < N) (hv : VIs w L N v cs) (hN : N ≤ w.heap.size) :
    Calls Tryd.prog 39 #[.pointer (some ⟨b, o, none⟩)] w fun e w' => e = .returned (.bool v.good) ∧ Below w.heap.size w w' :=
  fits_at v.size v w L N b o cs (Nat.le_refl _) h5 hbN hv hN
/-- a value's five cells in a new block -/
theorem five_new {w : World} {L N : Nat} {v : V} {cs : List Value} (hv : VIs w L N v cs) (t : TypeId) : Five (w.alloc (.cells cs.toArray t)) w.heap.size 0 cs := by
  obtain ⟨k, n, t', l, ks⟩ := v
  obtain ⟨-, A, c, A', c', rfl, -, -⟩ := hv.out
  refine ⟨_, _, _, _, _, rfl, ?_, ?_, ?_, ?_, ?_⟩ <;> simp
set_option maxRecDepth 100000 in
theorem good_any (v : V) (w : World) (L N : Nat) (cs : List Value) (hv : VIs w L N v cs) (hN : N ≤ w.heap.size) :
    Calls Tryd.prog 21 #[.agg cs.toArray] w fun e w' => e = .returned (.bool (v.fits 8)) ∧ Below w.heap.size w w' := by
  have hb0 := (Below.refl w.heap.size w).alloc (Nat.le_refl _) (.cells cs.toArray 28)
  have h5 := five_new hv 28
  have hs : (w.alloc (.cells cs.toArray 28)).heap.size = w.heap.size + 1 := by simp
  have c1 : Calls Tryd.prog 40 #[.pointer (some ⟨w.heap.size, 0, none⟩), .int .i64 8] (w.alloc (.cells cs.toArray 28)) fun e w' => e = .returned (.bool (decide (v.depth ≤ 8))) ∧ Below (w.alloc (.cells cs.toArray 28)).heap.size (w.alloc (.cells cs.toArray 28)) w' := within_any v 8 (w.alloc (.cells cs.toArray 28)) 0 (w.heap.size + 1) w.heap.size 0 cs (by decide) h5 (by omega) ((hv.below (hb0.mono hN)).more (Nat.zero_le _) (by omega)) (by rw [hs]; exact Nat.le_refl _)
  have c2 := fun wq (hb : Below (w.heap.size + 1) (w.alloc (.cells cs.toArray 28)) wq) => fits_any v wq 0 (w.heap.size + 1) w.heap.size 0 cs (h5.keep (N := w.heap.size + 1) (by omega) (fun p hp => hb.cell hp)) (by omega) (((hv.below (hb0.mono hN)).more (Nat.zero_le _) (show N ≤ w.heap.size + 1 by omega)).below hb) (by have := hb.size; rw [hs] at this; exact this)
  rw [fits_good]
  rw [hs] at c1
  obtain ⟨A, c, A', c', rfl, -, -⟩ := (show ∃ A c A' c', cs = [.int .i64 v.kind, .int .i64 v.num, .string ⟨v.text.toArray⟩, .slice A v.list.length c, .slice A' v.keys.length c'] ∧ True ∧ True by
    obtain ⟨k, n, t', l, ks⟩ := v
    obtain ⟨-, A, c, A', c', rfl, -, -⟩ := hv.out
    exact ⟨A, c, A', c', rfl, trivial, trivial⟩)
  have C1 := Lib.hid c1; have C2 := Lib.hid c2; have HB0 := Lib.hid hb0
  clear c1 c2 hb0 h5 hv hs
  cases hd : decide (v.depth ≤ 8) with
  | false =>
    rw [hd] at C1
    go_enter Tryd.func21, Tryd.ntmps21
    go_wp2_with (go_at_call 40; with_reducible refine (C1.out).mono ?_; rintro e1 w1 ⟨rfl, hb1⟩)
    go_ret
    exact ⟨rfl, HB0.out.trans (hb1.mono (by omega))⟩
  | true =>
    rw [hd] at C1
    go_enter Tryd.func21, Tryd.ntmps21
    go_wp2_with (first | (go_at_call 40; with_reducible refine (C1.out).mono ?_; rintro e1 w1 ⟨rfl, hb1⟩) | (go_at_call 39; with_reducible refine (C2.out _ hb1).mono ?_; rintro e2 w2 ⟨rfl, hb2⟩))
    go_ret
    exact ⟨ret_bool (by cases v.good <;> rfl), (HB0.out.trans (hb1.mono (by omega))).trans (hb2.mono (by have := hb1.size; simp at this; omega))⟩
end Go.Proofs.YthbbeojhipcjiaaDoor
namespace Go.Proofs.YthbbeojhipcjiaaDoor
open Go.RowKit

theorem formatBool_t : Lib.formatBool true = trueT := by decide +kernel
theorem formatBool_f : Lib.formatBool false = falseT := by decide +kernel
theorem wsL (B b : Nat) (l t : List UInt8) (w : World) (h : Bld w B b l) (hlen : l.length + t.length ≤ 140737488355328) (hBw : B ≤ w.heap.size) :
    Calls Tryd.prog 58 #[.pointer (some ⟨b, 0, none⟩), .string ⟨t.toArray⟩] w fun e w' => (∃ v, e = .returned v) ∧ Bld w' B b (l ++ t) ∧ Below B w w' :=
  (writeString_any B b l ⟨t.toArray⟩ w h (by show l.length + t.toArray.size ≤ _; simpa using hlen) hBw).mono fun _ _ ⟨h1, h2, h3, _⟩ => ⟨⟨_, h1⟩, h2, h3⟩
set_option maxRecDepth 100000 in
set_option maxHeartbeats 2000000 in
theorem write_at (m : Nat) : ∀ v : V, v.size ≤ m → WriteSays v := by
  induction m with
  | zero => intro v hm; exact absurd (size_pos v) (by omega)
  | succ m ih =>
  intro v hm w B b acc L N p o cs hg hlen h hBw h5 hpN hv hN hk
  obtain ⟨k, n, t, l, ks⟩ := v
  have HD := good_head hg
  have h5' := h5
  obtain ⟨⟨ml, mk, -, -⟩, A, c, A', c', rfl, h1, h2⟩ := hv.out
  obtain ⟨c0, c1, c2, c3, c4, e, m0, m1, m2, m3, m4⟩ := h5
  injection e with e0 e; injection e with e1 e; injection e with e2 e; injection e with e3 e; injection e with e4 e
  subst e0; subst e1; subst e2; subst e3; subst e4
  have hk6 : k = 1 ∨ k = 2 ∨ k = 3 ∨ k = 4 ∨ k = 5 ∨ k = 6 := by have := HD.kind; omega
  have HB := Lib.hid h; have HK := Lib.hid hk
  have ihs := fun i (hi : i < l.length) => ih l[i] (by have := size_get (k := k) (n := n) (t := t) (ks := ks) i hi; omega)
  clear h hk h1 h2 ih
  rcases hk6 with rfl | rfl | rfl | rfl | rfl | rfl
  · rw [show_one] at hlen ⊢
    have hc := wsL B b acc nullT w HB.out hlen hBw
    have HC := Lib.hid hc; clear hc ihs hv h5' hg HD hlen hm
    go_enter Tryd.func43, Tryd.ntmps43
    go_wp2_with fail
    refine HC.out.mono ?_
    rintro e1 w1 ⟨⟨v, rfl⟩, hb1, hw1⟩
    dsimp only
    go_wp2
    go_end0
    exact ⟨rfl, hb1, hw1⟩
  · rw [show_two] at hlen ⊢
    have hn01 := HD.bool rfl
    have hfb := Tryd.strconv_FormatBool
    have HFB := Lib.hid hfb; clear hfb ihs hv h5' hg HD hm
    rcases hn01 with rfl | rfl
    · rw [if_neg (by decide)] at hlen ⊢
      have hc := wsL B b acc falseT w HB.out hlen hBw
      have HC := Lib.hid hc; clear hc hlen
      go_enter Tryd.func43, Tryd.ntmps43
      go_wp2_with (go_at_call 59; refine (HFB.out false _).mono ?_; rintro e1 w1 ⟨rfl, rfl⟩; rw [formatBool_f])
      refine HC.out.mono ?_
      rintro e1 w1 ⟨⟨v, rfl⟩, hb1, hw1⟩
      dsimp only
      go_wp2
      go_end0
      exact ⟨rfl, hb1, hw1⟩
    · rw [if_pos rfl] at hlen ⊢
      have hc := wsL B b acc trueT w HB.out hlen hBw
      have HC := Lib.hid hc; clear hc hlen
      go_enter Tryd.func43, Tryd.ntmps43
      go_wp2_with (go_at_call 59; refine (HFB.out true _).mono ?_; rintro e1 w1 ⟨rfl, rfl⟩; rw [formatBool_t])
      refine HC.out.mono ?_
      rintro e1 w1 ⟨⟨v, rfl⟩, hb1, hw1⟩
      dsimp only
      go_wp2
      go_end0
      exact ⟨rfl, hb1, hw1⟩
  · rw [show_three] at hlen ⊢
    have hn := HD.num rfl
    have hfi := formatInt_any n (by omega) (by omega) w B HK.out
    have hc := fun w1 (hb : Below w.heap.size w w1) => wsL B b acc (decI n) w1 (HB.out.below hb) hlen (Nat.le_trans hBw hb.size)
    have HC := Lib.hid hc; have HFI := Lib.hid hfi; clear hc hfi ihs hv h5' hg HD hlen hm
    go_enter Tryd.func43, Tryd.ntmps43
    go_wp2_with (go_at_call 60; refine (HFI.out).mono ?_; rintro e1 w1 ⟨rfl, hb1⟩)
    refine (HC.out _ hb1).mono ?_
    rintro e2 w2 ⟨⟨v, rfl⟩, hb2, hw2⟩
    dsimp only
    go_wp2
    go_end0
    exact ⟨rfl, hb2, (hb1.mono hBw).trans hw2⟩
  · rw [show_four] at hlen ⊢
    have hc := quote_any B b acc t w hlen HB.out hBw
    have HC := Lib.hid hc; clear hc ihs hv h5' hg HD hlen hm
    go_enter Tryd.func43, Tryd.ntmps43
    go_wp2_with (go_at_call 61; refine (HC.out).mono ?_; rintro e1 w1 ⟨rfl, hb1, hw1⟩)
    go_end0
    exact ⟨rfl, hb1, hw1⟩
  · rw [show_list] at hlen ⊢
    simp only [List.length_cons, List.length_append, List.length_nil] at hlen
    have hc1 := wbI B b acc 91 91 rfl w HB.out (by omega) hBw
    have hc2 := fun w1 (hw : Below B w w1) hb => writeList n t l ks ihs w1 B b (acc ++ [91]) L N p o _ hg (by simp; omega) hb (Nat.le_trans hBw hw.size) (h5'.keep hpN (fun s hs => hw.cell (Nat.lt_of_lt_of_le hs hN))) hpN (hv.below (hw.mono hN)) hN (HK.out.below hw)
    have hc3 := fun w1 (hw : Below B w w1) hb => wbI B b ((acc ++ [91]) ++ V.items l) 93 93 rfl w1 hb (by simp; omega) (Nat.le_trans hBw hw.size)
    have C1 := Lib.hid hc1; have C2 := Lib.hid hc2; have C3 := Lib.hid hc3; clear hc1 hc2 hc3 ihs hv h5' hg HD hlen hm
    go_enter Tryd.func43, Tryd.ntmps43
    go_wp2_with fail
    refine C1.out.mono ?_
    rintro e1 w1 ⟨rfl, hb1, hw1⟩
    dsimp only
    go_wp2_with (go_at_call 63; refine (C2.out _ hw1 hb1).mono ?_; rintro e2 w2 ⟨rfl, hb2, hw2⟩)
    refine (C3.out _ (hw1.trans hw2) hb2).mono ?_
    rintro e3 w3 ⟨rfl, hb3, hw3⟩
    dsimp only
    go_wp2
    go_end0
    exact ⟨rfl, by simpa using hb3, (hw1.trans hw2).trans hw3⟩
  · rw [show_object] at hlen ⊢
    simp only [List.length_cons, List.length_append, List.length_nil] at hlen
    have hc1 := wbI B b acc 123 123 rfl w HB.out (by omega) hBw
    have hc2 := fun w1 (hw : Below B w w1) hb => writePairs n t l ks ihs w1 B b (acc ++ [123]) L N p o _ hg (by simp; omega) hb (Nat.le_trans hBw hw.size) (h5'.keep hpN (fun s hs => hw.cell (Nat.lt_of_lt_of_le hs hN))) hpN (hv.below (hw.mono hN)) hN (HK.out.below hw)
    have hc3 := fun w1 (hw : Below B w w1) hb => wbI B b ((acc ++ [123]) ++ V.pairs l ks) 125 125 rfl w1 hb (by simp; omega) (Nat.le_trans hBw hw.size)
    have C1 := Lib.hid hc1; have C2 := Lib.hid hc2; have C3 := Lib.hid hc3; clear hc1 hc2 hc3 ihs hv h5' hg HD hlen hm
    go_enter Tryd.func43, Tryd.ntmps43
    go_wp2_with fail
    refine C1.out.mono ?_
    rintro e1 w1 ⟨rfl, hb1, hw1⟩
    dsimp only
    go_wp2_with (go_at_call 63; refine (C2.out _ hw1 hb1).mono ?_; rintro e2 w2 ⟨rfl, hb2, hw2⟩)
    refine (C3.out _ (hw1.trans hw2) hb2).mono ?_
    rintro e3 w3 ⟨rfl, hb3, hw3⟩
    dsimp only
    go_wp2
    go_end0
    exact ⟨rfl, by simpa using hb3, (hw1.trans hw2).trans hw3⟩
end Go.Proofs.YthbbeojhipcjiaaDoor
namespace Go.Proofs.YthbbeojhipcjiaaDoor
open Go.RowKit

/-- what Print answers -/
def printV (v : V) : List UInt8 := if v.fits 8 then v.show else []
theorem write_any (v : V) : WriteSays v := write_at v.size v (Nat.le_refl _)
set_option maxRecDepth 100000 in
set_option maxHeartbeats 1000000 in
theorem printT_any (v : V) (w : World) (L N : Nat) (cs : List Value) (hlen : v.fits 8 = true → v.show.length ≤ 140737488355328) (hv : VIs w L N v cs) (hN : N ≤ w.heap.size) (hk : TabIn w.heap.size w) :
    Calls Tryd.prog 20 #[.agg cs.toArray] w fun e w' => e = .returned (.string ⟨(printV v).toArray⟩) ∧ Below w.heap.size w w' := by
  have hb0 := (Below.refl w.heap.size w).alloc (Nat.le_refl _) (.cells cs.toArray 28)
  have hs : (w.alloc (.cells cs.toArray 28)).heap.size = w.heap.size + 1 := by simp
  have h5 := five_new hv 28
  have hv1 := (hv.below (hb0.mono hN)).more (Nat.zero_le L) (show N ≤ w.heap.size + 1 by omega)
  have hgood := good_any v (w.alloc (.cells cs.toArray 28)) 0 (w.heap.size + 1) cs (hv1.more (Nat.le_refl _) (Nat.le_refl _)) (by omega)
  have hk1 := hk.below hb0
  obtain ⟨A, c, A', c', rfl⟩ := hv.form
  have hx := Box.new w (.int .i64 v.kind) (.int .i64 v.num) (.string ⟨v.text.toArray⟩) (.slice A v.list.length c) (.slice A' v.keys.length c') 28
  rw [hs] at hgood
  have HG := Lib.hid hgood
  cases hf : v.fits 8 with
  | false =>
    have hp : printV v = [] := by unfold printV; rw [hf]; rfl
    rw [hp]
    rw [hf] at HG
    have HB0 := Lib.hid hb0
    clear hgood hv hv1 h5 hb0 hs hk hk1 hlen hp hx
    go_enter Tryd.func20, Tryd.ntmps20
    go_wp2_with (go_at_call 21; with_reducible refine (HG.out).mono ?_; rintro e1 w1 ⟨rfl, hb1⟩)
    go_ret
    exact ⟨rfl, HB0.out.trans (hb1.mono (by omega))⟩
  | true =>
    have hp : printV v = v.show := by unfold printV; rw [hf]; rfl
    rw [hp]
    rw [hf] at HG
    have hl := hlen hf
    have hwr := fun w1 (hb1 : Below (w.heap.size + 1) (w.alloc (.cells #[.int .i64 v.kind, .int .i64 v.num, .string ⟨v.text.toArray⟩, .slice A v.list.length c, .slice A' v.keys.length c'] 28)) w1) (hs1 : w.heap.size + 1 ≤ w1.heap.size) =>
      write_any v (w1.alloc (.cells #[.pointer none, .slice none 0 0] 79)) w1.heap.size w1.heap.size [] 0 (w.heap.size + 1) w.heap.size 0 _ (fits_isgood hf) (by simpa using hl) (Bld.new w1) (by simp)
        ((h5.keep (N := w.heap.size + 1) (by omega) (fun p hp => hb1.cell hp)).keep (N := w1.heap.size) (by omega) (fun p hp => ((Below.refl _ _).alloc (Nat.le_refl _) _).cell hp)) (by omega)
        ((hv1.below hb1).below (((Below.refl w1.heap.size w1).alloc (Nat.le_refl _) _).mono hs1)) hs1 (((hk1.more (B' := w.heap.size + 1) (by omega)).below hb1).more hs1 |>.below ((Below.refl w1.heap.size w1).alloc (Nat.le_refl _) _))
    have HW := Lib.hid hwr; have HB0 := Lib.hid hb0
    clear hgood hv hv1 h5 hb0 hs hk hk1 hlen hp hwr hx
    go_enter Tryd.func20, Tryd.ntmps20
    go_wp2_with (go_at_call 21; with_reducible refine (HG.out).mono ?_; rintro e1 w1 ⟨rfl, hb1⟩; have hs1 := hb1.size; (try rw [show (w.alloc (.cells #[.int .i64 v.kind, .int .i64 v.num, .string ⟨v.text.toArray⟩, .slice A v.list.length c, .slice A' v.keys.length c'] 28)).heap.size = w.heap.size + 1 by simp] at hs1))
    have hb1' : Below (w.heap.size + 1) (w.alloc (.cells #[.int .i64 v.kind, .int .i64 v.num, .string ⟨v.text.toArray⟩, .slice A v.list.length c, .slice A' v.keys.length c'] 28)) w1 := by
      exact hb1
    refine (HW.out _ hb1' hs1).mono ?_
    rintro e2 w2 ⟨rfl, hb2, hw2⟩
    dsimp only
    have hst := bldString_any w1.heap.size w1.heap.size ([] ++ v.show) w2 hb2 (Nat.le_trans (by simp) hw2.size)
    have HST := Lib.hid hst; clear hst
    go_wp2_with (go_at_call 44; with_reducible refine (HST.out).mono ?_; rintro e3 w3 ⟨rfl, hb3⟩)
    go_ret
    refine ⟨rfl, ?_⟩
    have b1 : Below w.heap.size w w1 := HB0.out.trans (hb1'.mono (by omega))
    have b2 : Below w.heap.size w1 w2 := ((Below.refl w1.heap.size w1).alloc (Nat.le_refl _) _ |>.trans hw2).mono (by omega)
    exact (b1.trans b2).trans (hb3.mono (by omega))
theorem print_any (v : V) (w : World) (L N : Nat) (cs : List Value) (hlen : v.fits 8 = true → v.show.length ≤ 140737488355328) (hv : VIs w L N v cs) (hN : N ≤ w.heap.size) (hk : KitIn w.heap.size w) :
    Calls Tryd.prog 20 #[.agg cs.toArray] w fun e w' => e = .returned (.string ⟨(printV v).toArray⟩) ∧ Below w.heap.size w w' := printT_any v w L N cs hlen hv hN hk.toTab
end Go.Proofs.YthbbeojhipcjiaaDoor
