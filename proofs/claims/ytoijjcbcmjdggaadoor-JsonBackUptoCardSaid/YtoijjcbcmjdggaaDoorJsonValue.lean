/- JSON: the code's value (wip/gen/gvalue.py has written it). -/
import Derived.Test.YtoijjcbcmjdggaaDoorJsonGroupO
import Derived.Test.YtoijjcbcmjdggaaDoorJsonNumber
namespace Go.Proofs.YtoijjcbcmjdggaaDoor
open Go.RowKit
set_option linter.unusedVariables false
set_option linter.unusedSimpArgs false

theorem hp_any (S : ByteArray) (t : List UInt8) (w : World) : Calls Tryd.prog 44 #[.string S, .string ⟨t.toArray⟩] w fun e w' => e = .returned (.bool (beginsB S.data.toList t)) ∧ w = w' :=
  (Tryd.strings_HasPrefix S ⟨t.toArray⟩ w).mono fun e w' ⟨h1, h2⟩ => ⟨by rw [h1, hasPrefix_begins, toListS], h2.symm⟩
theorem plain_is (w : World) (L N : Nat) (k n : Int) (t : List UInt8) (ht : t.length ≤ 9223372036854775807) : VIs w L N (.mk k n t [] []) [.int .i64 k, .int .i64 n, .string ⟨t.toArray⟩, .slice none 0 0, .slice none 0 0] :=
  VIs.mk (w := w) (L := L) (N := N) (k := k) (n := n) (t := t) (l := []) (ks := []) (A := none) (A' := none) (c := 0) (c' := 0) ⟨by simp, by simp, ht, by simp⟩ (.inl rfl) (.inl rfl)
def PlainIs (o : Option (V × List UInt8)) (ok : Bool) (rest : List UInt8) (u : V) : Prop := match o with
  | some (x, r) => ok = true ∧ rest = r ∧ x = u
  | none => ok = false
set_option maxRecDepth 100000 in
set_option maxHeartbeats 20000000 in
theorem value_step (B m : Nat) (ih : ∀ f s, f ≤ m → s.length ≤ 4096 → 2 * s.length + 1 ≤ f → ValueSays B f s) (S : ByteArray) (hs : S.size ≤ 4096) (hfs : 2 * S.size + 1 ≤ m + 1) : ValueSays B (m + 1) S.data.toList := by
  intro w hk hB
  have hsl : S.data.toList.length = S.size := rfl
  have hSS : (⟨S.data.toList.toArray⟩ : ByteArray) = S := by apply ByteArray.ext; simp
  rw [hSS]
  obtain ⟨VC, hVC⟩ : ∃ VC, valueC (m + 1) S.data.toList = VC := ⟨_, rfl⟩
  rw [hVC]
  unfold valueC at hVC
  obtain ⟨R, hR⟩ : ∃ R, w.heap.size = R := ⟨_, rfl⟩
  obtain ⟨W1, hW1⟩ : ∃ W1, W1 = w.alloc (.cells #[.int .i64 0, .int .i64 0, .string ⟨#[]⟩, .slice none 0 0, .slice none 0 0] 25) := ⟨_, rfl⟩
  have b1 : Below R w W1 := by rw [hW1, ← hR]; exact (Below.refl _ _).alloc (Nat.le_refl _) _
  have z1 : W1.heap.size = R + 1 := by rw [hW1, ← hR]; simp
  have r1 : W1.heap[R]? = some (.cells #[.int .i64 0, .int .i64 0, .string ⟨#[]⟩, .slice none 0 0, .slice none 0 0] 25 (0, 0)) := by
    rw [hW1, ← hR]; exact heap_alloc_last w _
  have k1 := hk.below (b1.mono (by omega))
  have hp1 : ∀ w, Calls Tryd.prog 44 #[.string S, .string ⟨#[110, 117, 108, 108]⟩] w fun e w' => e = .returned (.bool (beginsB S.data.toList nullT)) ∧ w = w' := fun w => hp_any S nullT w
  have hp2 : ∀ w, Calls Tryd.prog 44 #[.string S, .string ⟨#[116, 114, 117, 101]⟩] w fun e w' => e = .returned (.bool (beginsB S.data.toList trueT)) ∧ w = w' := fun w => hp_any S trueT w
  have hp3 : ∀ w, Calls Tryd.prog 44 #[.string S, .string ⟨#[102, 97, 108, 115, 101]⟩] w fun e w' => e = .returned (.bool (beginsB S.data.toList falseT)) ∧ w = w' := fun w => hp_any S falseT w
  have hp4 : ∀ w, Calls Tryd.prog 44 #[.string S, .string ⟨#[34]⟩] w fun e w' => e = .returned (.bool (beginsB S.data.toList [34])) ∧ w = w' := fun w => hp_any S [34] w
  have hp5 : ∀ w, Calls Tryd.prog 44 #[.string S, .string ⟨#[91]⟩] w fun e w' => e = .returned (.bool (beginsB S.data.toList [91])) ∧ w = w' := fun w => hp_any S [91] w
  have hp6 : ∀ w, Calls Tryd.prog 44 #[.string S, .string ⟨#[123]⟩] w fun e w' => e = .returned (.bool (beginsB S.data.toList [123])) ∧ w = w' := fun w => hp_any S [123] w
  have HP1 := Lib.hid hp1; have HP2 := Lib.hid hp2; have HP3 := Lib.hid hp3; have HP4 := Lib.hid hp4; have HP5 := Lib.hid hp5; have HP6 := Lib.hid hp6
  have HR := Lib.hid hR; have HW1 := Lib.hid hW1; have HB1 := Lib.hid b1; have R1 := Lib.hid r1; have Z1 := Lib.hid z1; have K1 := Lib.hid k1; have IH := Lib.hid ih
  clear hp1 hp2 hp3 hp4 hp5 hp6 hR hW1 b1 r1 z1 k1 ih hk
  cases h1 : beginsB S.data.toList nullT with
  | true =>
    rw [if_pos h1] at hVC
    subst hVC
    have hle : 4 ≤ S.size := by
      have := congrArg List.length (begins_full h1)
      rw [List.length_append, hsl] at this
      have e : (nullT : List UInt8).length = 4 := rfl
      omega
    have hxs : S.extract 4 S.size = ⟨(S.data.toList.drop 4).toArray⟩ := extS S 4
    have HXS := Lib.hid hxs
    have hq1 := HP1.out; rw [h1] at hq1; have HQ1 := Lib.hid hq1; clear hq1
    clear hxs h1
    obtain ⟨⟨e0, e1, e2, e3, e4⟩, f0, f1, f2, f3, f4⟩ := box_of R1.out
    go_enter Tryd.func28, Tryd.ntmps28
    go_wp2_with fail
    rw [← HW1.out, HR.out]
    refine (HQ1.out _).mono ?_
    rintro d1 v1 ⟨rfl, rfl⟩
    dsimp only
    go_wp2_with fail
    go_region
    all_goals
      go_wp2
      obtain ⟨wf, hwf⟩ : ∃ wf, wf = (set5 W1 R 0 (.int .i64 1) (.int .i64 0) (.string ⟨#[]⟩) (.slice none 0 0) (.slice none 0 0)).drew := ⟨_, rfl⟩
      change bodyPost _ _ _ _ _ ((set5 W1 R 0 (.int .i64 1) (.int .i64 0) (.string ⟨#[]⟩) (.slice none 0 0) (.slice none 0 0)).drew)
      rw [← hwf]
      have hx : wf.heap[R]? = some (.cells #[.int .i64 1, .int .i64 0, .string ⟨#[]⟩, .slice none 0 0, .slice none 0 0] 25 (0, 0)) := by rw [hwf, drew_heap]; exact set5_here R1.out
      have hbf : Below R w wf := by rw [hwf]; exact (HB1.out.trans (set5_below (Nat.le_refl _))).drew
      obtain ⟨⟨x0, x1, x2, x3, x4⟩, -⟩ := box_of hx
      have HBF := Lib.hid hbf
      clear hbf hwf hx e0 e1 e2 e3 e4 f0 f1 f2 f3 f4
      refine bodyPost_ret (v := .tuple #[.agg #[.int .i64 1, .int .i64 0, .string ⟨#[]⟩, .slice none 0 0, .slice none 0 0], .string (S.extract 4 S.size), .bool true]) (by simp [results, Tryd.results28, go_sem, x0, x1, x2, x3, x4]) rfl ?_
      rw [HXS.out]
      exact ⟨⟨_, _, _, _, _, _, _, _, _, _, _, rfl, rfl, rfl, plain_is _ _ _ 1 0 [] (by simp)⟩, by rw [HR.out]; exact HBF.out⟩
  | false =>
    cases h2 : beginsB S.data.toList trueT with
    | true =>
      rw [if_neg (by simp [h1]), if_pos h2] at hVC
      subst hVC
      have hle : 4 ≤ S.size := by
        have := congrArg List.length (begins_full h2)
        rw [List.length_append, hsl] at this
        have e : (trueT : List UInt8).length = 4 := rfl
        omega
      have hxs : S.extract 4 S.size = ⟨(S.data.toList.drop 4).toArray⟩ := extS S 4
      have HXS := Lib.hid hxs
      have hq1 := HP1.out; rw [h1] at hq1; have HQ1 := Lib.hid hq1; clear hq1
      have hq2 := HP2.out; rw [h2] at hq2; have HQ2 := Lib.hid hq2; clear hq2
      clear hxs h1 h2
      obtain ⟨⟨e0, e1, e2, e3, e4⟩, f0, f1, f2, f3, f4⟩ := box_of R1.out
      go_enter Tryd.func28, Tryd.ntmps28
      go_wp2_with fail
      rw [← HW1.out, HR.out]
      refine (HQ1.out _).mono ?_
      rintro d1 v1 ⟨rfl, rfl⟩
      dsimp only
      go_wp2_with fail
      refine (HQ2.out _).mono ?_
      rintro d2 v2 ⟨rfl, rfl⟩
      dsimp only
      go_wp2_with fail
      go_region
      all_goals
        go_wp2
        obtain ⟨wf, hwf⟩ : ∃ wf, wf = (set5 W1 R 0 (.int .i64 2) (.int .i64 1) (.string ⟨#[]⟩) (.slice none 0 0) (.slice none 0 0)).drew := ⟨_, rfl⟩
        change bodyPost _ _ _ _ _ ((set5 W1 R 0 (.int .i64 2) (.int .i64 1) (.string ⟨#[]⟩) (.slice none 0 0) (.slice none 0 0)).drew)
        rw [← hwf]
        have hx : wf.heap[R]? = some (.cells #[.int .i64 2, .int .i64 1, .string ⟨#[]⟩, .slice none 0 0, .slice none 0 0] 25 (0, 0)) := by rw [hwf, drew_heap]; exact set5_here R1.out
        have hbf : Below R w wf := by rw [hwf]; exact (HB1.out.trans (set5_below (Nat.le_refl _))).drew
        obtain ⟨⟨x0, x1, x2, x3, x4⟩, -⟩ := box_of hx
        have HBF := Lib.hid hbf
        clear hbf hwf hx e0 e1 e2 e3 e4 f0 f1 f2 f3 f4
        refine bodyPost_ret (v := .tuple #[.agg #[.int .i64 2, .int .i64 1, .string ⟨#[]⟩, .slice none 0 0, .slice none 0 0], .string (S.extract 4 S.size), .bool true]) (by simp [results, Tryd.results28, go_sem, x0, x1, x2, x3, x4]) rfl ?_
        rw [HXS.out]
        exact ⟨⟨_, _, _, _, _, _, _, _, _, _, _, rfl, rfl, rfl, plain_is _ _ _ 2 1 [] (by simp)⟩, by rw [HR.out]; exact HBF.out⟩
    | false =>
      cases h3 : beginsB S.data.toList falseT with
      | true =>
        rw [if_neg (by simp [h1]), if_neg (by simp [h2]), if_pos h3] at hVC
        subst hVC
        have hle : 5 ≤ S.size := by
          have := congrArg List.length (begins_full h3)
          rw [List.length_append, hsl] at this
          have e : (falseT : List UInt8).length = 5 := rfl
          omega
        have hxs : S.extract 5 S.size = ⟨(S.data.toList.drop 5).toArray⟩ := extS S 5
        have HXS := Lib.hid hxs
        have hq1 := HP1.out; rw [h1] at hq1; have HQ1 := Lib.hid hq1; clear hq1
        have hq2 := HP2.out; rw [h2] at hq2; have HQ2 := Lib.hid hq2; clear hq2
        have hq3 := HP3.out; rw [h3] at hq3; have HQ3 := Lib.hid hq3; clear hq3
        clear hxs h1 h2 h3
        obtain ⟨⟨e0, e1, e2, e3, e4⟩, f0, f1, f2, f3, f4⟩ := box_of R1.out
        go_enter Tryd.func28, Tryd.ntmps28
        go_wp2_with fail
        rw [← HW1.out, HR.out]
        refine (HQ1.out _).mono ?_
        rintro d1 v1 ⟨rfl, rfl⟩
        dsimp only
        go_wp2_with fail
        refine (HQ2.out _).mono ?_
        rintro d2 v2 ⟨rfl, rfl⟩
        dsimp only
        go_wp2_with fail
        refine (HQ3.out _).mono ?_
        rintro d3 v3 ⟨rfl, rfl⟩
        dsimp only
        go_wp2_with fail
        go_region
        all_goals
          go_wp2
          obtain ⟨wf, hwf⟩ : ∃ wf, wf = (set5 W1 R 0 (.int .i64 2) (.int .i64 0) (.string ⟨#[]⟩) (.slice none 0 0) (.slice none 0 0)).drew := ⟨_, rfl⟩
          change bodyPost _ _ _ _ _ ((set5 W1 R 0 (.int .i64 2) (.int .i64 0) (.string ⟨#[]⟩) (.slice none 0 0) (.slice none 0 0)).drew)
          rw [← hwf]
          have hx : wf.heap[R]? = some (.cells #[.int .i64 2, .int .i64 0, .string ⟨#[]⟩, .slice none 0 0, .slice none 0 0] 25 (0, 0)) := by rw [hwf, drew_heap]; exact set5_here R1.out
          have hbf : Below R w wf := by rw [hwf]; exact (HB1.out.trans (set5_below (Nat.le_refl _))).drew
          obtain ⟨⟨x0, x1, x2, x3, x4⟩, -⟩ := box_of hx
          have HBF := Lib.hid hbf
          clear hbf hwf hx e0 e1 e2 e3 e4 f0 f1 f2 f3 f4
          refine bodyPost_ret (v := .tuple #[.agg #[.int .i64 2, .int .i64 0, .string ⟨#[]⟩, .slice none 0 0, .slice none 0 0], .string (S.extract 5 S.size), .bool true]) (by simp [results, Tryd.results28, go_sem, x0, x1, x2, x3, x4]) rfl ?_
          rw [HXS.out]
          exact ⟨⟨_, _, _, _, _, _, _, _, _, _, _, rfl, rfl, rfl, plain_is _ _ _ 2 0 [] (by simp)⟩, by rw [HR.out]; exact HBF.out⟩
      | false =>
        cases h4 : beginsB S.data.toList [34] with
        | true =>
          rw [if_neg (by simp [h1]), if_neg (by simp [h2]), if_neg (by simp [h3]), if_pos h4] at hVC
          have hqn := fun w => quoted_any S (by omega) w
          obtain ⟨qt, qr, qk, hqr⟩ : ∃ qt qr qk, quotedR S.data.toList = (qt, qr, qk) := ⟨_, _, _, rfl⟩
          rw [hqr] at hqn
          dsimp only at hqn
          have hV : PlainIs VC qk qr (.mk 4 0 qt [] []) ∧ (qt.length ≤ 9223372036854775807) := by
            unfold quotedR at hqr
            cases hq : quotedC S.data.toList with
            | none =>
              rw [hq] at hVC hqr
              injection hqr with e1 e2
              injection e2 with e2 e3
              subst e1; subst e2; subst e3; subst hVC
              exact ⟨rfl, by simp⟩
            | some y =>
              obtain ⟨t, r⟩ := y
              rw [hq] at hVC hqr
              injection hqr with e1 e2
              injection e2 with e2 e3
              have := quotedC_len hq
              subst e1; subst e2; subst e3; subst hVC
              exact ⟨⟨rfl, rfl, rfl⟩, by omega⟩
          have HQN := Lib.hid hqn; have HV := Lib.hid hV
          have hq1 := HP1.out; rw [h1] at hq1; have HQ1 := Lib.hid hq1; clear hq1
          have hq2 := HP2.out; rw [h2] at hq2; have HQ2 := Lib.hid hq2; clear hq2
          have hq3 := HP3.out; rw [h3] at hq3; have HQ3 := Lib.hid hq3; clear hq3
          have hq4 := HP4.out; rw [h4] at hq4; have HQ4 := Lib.hid hq4; clear hq4
          clear hVC hqr hqn hV h1 h2 h3 h4
          obtain ⟨⟨e0, e1, e2, e3, e4⟩, f0, f1, f2, f3, f4⟩ := box_of R1.out
          go_enter Tryd.func28, Tryd.ntmps28
          go_wp2_with fail
          rw [← HW1.out, HR.out]
          refine (HQ1.out _).mono ?_
          rintro d1 v1 ⟨rfl, rfl⟩
          dsimp only
          go_wp2_with fail
          refine (HQ2.out _).mono ?_
          rintro d2 v2 ⟨rfl, rfl⟩
          dsimp only
          go_wp2_with fail
          refine (HQ3.out _).mono ?_
          rintro d3 v3 ⟨rfl, rfl⟩
          dsimp only
          go_wp2_with fail
          refine (HQ4.out _).mono ?_
          rintro d4 v4 ⟨rfl, rfl⟩
          dsimp only
          go_wp2_with fail
          refine (HQN.out _).mono ?_
          rintro d5 w5 ⟨rfl, hb5⟩
          dsimp only
          have r5 := (hb5.block R (by have := Z1.out; omega)).trans R1.out
          have hb5' : Below R w w5 := HB1.out.trans (hb5.mono (by have := Z1.out; omega))
          clear e0 e1 e2 e3 e4 f0 f1 f2 f3 f4 hb5
          obtain ⟨⟨e0, e1, e2, e3, e4⟩, f0, f1, f2, f3, f4⟩ := box_of r5
          have R5 := Lib.hid r5; have HB5 := Lib.hid hb5'
          clear r5 hb5'
          go_wp2_with fail
          obtain ⟨wf, hwf⟩ : ∃ wf, wf = set5 w5 R 0 (.int .i64 4) (.int .i64 0) (.string ⟨qt.toArray⟩) (.slice none 0 0) (.slice none 0 0) := ⟨_, rfl⟩
          change bodyPost _ _ _ _ _ (set5 w5 R 0 (.int .i64 4) (.int .i64 0) (.string ⟨qt.toArray⟩) (.slice none 0 0) (.slice none 0 0))
          rw [← hwf]
          have hx : wf.heap[R]? = some (.cells #[.int .i64 4, .int .i64 0, .string ⟨qt.toArray⟩, .slice none 0 0, .slice none 0 0] 25 (0, 0)) := by rw [hwf]; exact set5_here R5.out
          have hbf : Below R w wf := by rw [hwf]; exact (HB5.out.trans (set5_below (Nat.le_refl _)))
          obtain ⟨⟨x0, x1, x2, x3, x4⟩, -⟩ := box_of hx
          have HBF := Lib.hid hbf
          clear hbf hwf hx e0 e1 e2 e3 e4 f0 f1 f2 f3 f4
          refine bodyPost_ret (v := .tuple #[.agg #[.int .i64 4, .int .i64 0, .string ⟨qt.toArray⟩, .slice none 0 0, .slice none 0 0], .string ⟨qr.toArray⟩, .bool qk]) (by simp [results, Tryd.results28, go_sem, x0, x1, x2, x3, x4]) rfl ?_
          obtain ⟨hV, hqt⟩ := HV.out
          refine ⟨⟨_, _, _, _, _, _, _, _, _, _, _, rfl, ?_⟩, by rw [HR.out]; exact HBF.out⟩
          cases VC with
          | none => exact hV
          | some y =>
            obtain ⟨x, r⟩ := y
            obtain ⟨g1, g2, rfl⟩ := hV
            exact ⟨g1, g2, plain_is _ _ _ 4 0 qt hqt⟩
        | false =>
          cases h5 : beginsB S.data.toList [91] with
          | true =>
            have hle : 1 ≤ S.size := by
              have := congrArg List.length (begins_one h5)
              rw [List.length_cons, hsl] at this; omega
            rw [if_neg (by simp [h1]), if_neg (by simp [h2]), if_neg (by simp [h3]), if_neg (by simp [h4]), if_pos h5] at hVC
            have hGA : groupA m false (S.data.toList.drop 1) = VC := by
              rw [← hVC]
              unfold groupA
              simp only [Bool.false_eq_true, if_false, if_true, List.drop_drop]
            have hex : S.extract 1 S.size = ⟨(S.data.toList.drop 1).toArray⟩ := extS S 1
            have hdl : (S.data.toList.drop 1).length = S.size - 1 := by rw [List.length_drop, hsl]
            have hgr := groupList B m IH.out m (S.data.toList.drop 1) (by omega) (by omega) (by omega)
            unfold GroupSays at hgr
            rw [hGA, ← hex] at hgr
            have hgr2 : Calls Tryd.prog 46 #[.string (S.extract 1 S.size), .int .i64 5, .string ⟨#[93]⟩] W1 fun e w' => Outs VC W1 e w' := hgr W1 K1.out (by have := Z1.out; have := HR.out; omega)
            have HGR := Lib.hid hgr2
            have hq1 := HP1.out; rw [h1] at hq1; have HQ1 := Lib.hid hq1; clear hq1
            have hq2 := HP2.out; rw [h2] at hq2; have HQ2 := Lib.hid hq2; clear hq2
            have hq3 := HP3.out; rw [h3] at hq3; have HQ3 := Lib.hid hq3; clear hq3
            have hq4 := HP4.out; rw [h4] at hq4; have HQ4 := Lib.hid hq4; clear hq4
            have hq5 := HP5.out; rw [h5] at hq5; have HQ5 := Lib.hid hq5; clear hq5
            clear hVC hGA hgr hgr2 hex hdl h1 h2 h3 h4 h5
            obtain ⟨⟨e0, e1, e2, e3, e4⟩, f0, f1, f2, f3, f4⟩ := box_of R1.out
            go_enter Tryd.func28, Tryd.ntmps28
            go_wp2_with fail
            rw [← HW1.out, HR.out]
            refine (HQ1.out _).mono ?_
            rintro d1 v1 ⟨rfl, rfl⟩
            dsimp only
            go_wp2_with fail
            refine (HQ2.out _).mono ?_
            rintro d2 v2 ⟨rfl, rfl⟩
            dsimp only
            go_wp2_with fail
            refine (HQ3.out _).mono ?_
            rintro d3 v3 ⟨rfl, rfl⟩
            dsimp only
            go_wp2_with fail
            refine (HQ4.out _).mono ?_
            rintro d4 v4 ⟨rfl, rfl⟩
            dsimp only
            go_wp2_with fail
            refine (HQ5.out _).mono ?_
            rintro d5 v5 ⟨rfl, rfl⟩
            dsimp only
            go_wp2_with fail
            refine (HGR.out).mono ?_
            rintro d7 w7 ⟨⟨gk, gn, gt, gA, ga, gb, gA', ga', gb', grest, gok, rfl, hgo⟩, hb7⟩
            dsimp only
            have r7 := (hb7.block R (by have := Z1.out; omega)).trans R1.out
            have hb7' : Below R w w7 := HB1.out.trans (hb7.mono (by have := Z1.out; omega))
            have hz7 := hb7.size
            clear e0 e1 e2 e3 e4 f0 f1 f2 f3 f4 hb7
            obtain ⟨⟨e0, e1, e2, e3, e4⟩, f0, f1, f2, f3, f4⟩ := box_of r7
            have R7 := Lib.hid r7; have HB7 := Lib.hid hb7'; have HGO := Lib.hid hgo; have HZ7 := Lib.hid hz7
            clear r7 hb7' hgo hz7
            go_wp2_with fail
            obtain ⟨wf, hwf⟩ : ∃ wf, wf = set5 w7 R 0 (.int .i64 gk) (.int .i64 gn) (.string gt) (.slice gA ga gb) (.slice gA' ga' gb') := ⟨_, rfl⟩
            change bodyPost _ _ _ _ _ (set5 w7 R 0 (.int .i64 gk) (.int .i64 gn) (.string gt) (.slice gA ga gb) (.slice gA' ga' gb'))
            rw [← hwf]
            have hx : wf.heap[R]? = some (.cells #[.int .i64 gk, .int .i64 gn, .string gt, .slice gA ga gb, .slice gA' ga' gb'] 25 (0, 0)) := by rw [hwf]; exact set5_here R7.out
            have hbf : Below R w wf := by rw [hwf]; exact (HB7.out.trans (set5_below (Nat.le_refl _)))
            obtain ⟨⟨x0, x1, x2, x3, x4⟩, -⟩ := box_of hx
            have HBF := Lib.hid hbf
            have hkeep : ∀ x, VIs w7 W1.heap.size w7.heap.size x [.int .i64 gk, .int .i64 gn, .string gt, .slice gA ga gb, .slice gA' ga' gb'] → VIs wf w.heap.size wf.heap.size x [.int .i64 gk, .int .i64 gn, .string gt, .slice gA ga gb, .slice gA' ga' gb'] := fun x hxv => by
              have hsf : wf.heap.size = w7.heap.size := by rw [hwf, set5_size]
              rw [hsf]
              have hz1 := Z1.out; have hrr := HR.out
              refine (hxv.keep2 fun q h1 h2 => ?_).more (by omega) (Nat.le_refl _)
              have hne : q.block ≠ R := by omega
              exact World.cell?_of_block (w := w7) (by rw [hwf]; exact set5_there hne)
            have HKEEP := Lib.hid hkeep
            clear hbf hwf hx hkeep e0 e1 e2 e3 e4 f0 f1 f2 f3 f4
            refine bodyPost_ret (v := .tuple #[.agg #[.int .i64 gk, .int .i64 gn, .string gt, .slice gA ga gb, .slice gA' ga' gb'], .string ⟨grest.toArray⟩, .bool gok]) (by simp [results, Tryd.results28, go_sem, x0, x1, x2, x3, x4]) rfl ?_
            have hgo := HGO.out
            refine ⟨⟨_, _, _, _, _, _, _, _, _, _, _, rfl, ?_⟩, by rw [HR.out]; exact HBF.out⟩
            cases VC with
            | none => exact hgo
            | some y =>
              obtain ⟨x, r⟩ := y
              obtain ⟨g1, g2, g3⟩ := hgo
              exact ⟨g1, g2, HKEEP.out x g3⟩
          | false =>
            cases h6 : beginsB S.data.toList [123] with
            | true =>
              have hle : 1 ≤ S.size := by
                have := congrArg List.length (begins_one h6)
                rw [List.length_cons, hsl] at this; omega
              rw [if_neg (by simp [h1]), if_neg (by simp [h2]), if_neg (by simp [h3]), if_neg (by simp [h4]), if_neg (by simp [h5]), if_pos h6] at hVC
              have hGA : groupA m true (S.data.toList.drop 1) = VC := by
                rw [← hVC]
                unfold groupA
                simp only [Bool.false_eq_true, if_false, if_true, List.drop_drop]
              have hex : S.extract 1 S.size = ⟨(S.data.toList.drop 1).toArray⟩ := extS S 1
              have hdl : (S.data.toList.drop 1).length = S.size - 1 := by rw [List.length_drop, hsl]
              have hgr := groupObj B m IH.out m (S.data.toList.drop 1) (by omega) (by omega) (by omega)
              unfold GroupSays at hgr
              rw [hGA, ← hex] at hgr
              have hgr2 : Calls Tryd.prog 46 #[.string (S.extract 1 S.size), .int .i64 6, .string ⟨#[125]⟩] W1 fun e w' => Outs VC W1 e w' := hgr W1 K1.out (by have := Z1.out; have := HR.out; omega)
              have HGR := Lib.hid hgr2
              have hq1 := HP1.out; rw [h1] at hq1; have HQ1 := Lib.hid hq1; clear hq1
              have hq2 := HP2.out; rw [h2] at hq2; have HQ2 := Lib.hid hq2; clear hq2
              have hq3 := HP3.out; rw [h3] at hq3; have HQ3 := Lib.hid hq3; clear hq3
              have hq4 := HP4.out; rw [h4] at hq4; have HQ4 := Lib.hid hq4; clear hq4
              have hq5 := HP5.out; rw [h5] at hq5; have HQ5 := Lib.hid hq5; clear hq5
              have hq6 := HP6.out; rw [h6] at hq6; have HQ6 := Lib.hid hq6; clear hq6
              clear hVC hGA hgr hgr2 hex hdl h1 h2 h3 h4 h5 h6
              obtain ⟨⟨e0, e1, e2, e3, e4⟩, f0, f1, f2, f3, f4⟩ := box_of R1.out
              go_enter Tryd.func28, Tryd.ntmps28
              go_wp2_with fail
              rw [← HW1.out, HR.out]
              refine (HQ1.out _).mono ?_
              rintro d1 v1 ⟨rfl, rfl⟩
              dsimp only
              go_wp2_with fail
              refine (HQ2.out _).mono ?_
              rintro d2 v2 ⟨rfl, rfl⟩
              dsimp only
              go_wp2_with fail
              refine (HQ3.out _).mono ?_
              rintro d3 v3 ⟨rfl, rfl⟩
              dsimp only
              go_wp2_with fail
              refine (HQ4.out _).mono ?_
              rintro d4 v4 ⟨rfl, rfl⟩
              dsimp only
              go_wp2_with fail
              refine (HQ5.out _).mono ?_
              rintro d5 v5 ⟨rfl, rfl⟩
              dsimp only
              go_wp2_with fail
              refine (HQ6.out _).mono ?_
              rintro d6 v6 ⟨rfl, rfl⟩
              dsimp only
              go_wp2_with fail
              refine (HGR.out).mono ?_
              rintro d7 w7 ⟨⟨gk, gn, gt, gA, ga, gb, gA', ga', gb', grest, gok, rfl, hgo⟩, hb7⟩
              dsimp only
              have r7 := (hb7.block R (by have := Z1.out; omega)).trans R1.out
              have hb7' : Below R w w7 := HB1.out.trans (hb7.mono (by have := Z1.out; omega))
              have hz7 := hb7.size
              clear e0 e1 e2 e3 e4 f0 f1 f2 f3 f4 hb7
              obtain ⟨⟨e0, e1, e2, e3, e4⟩, f0, f1, f2, f3, f4⟩ := box_of r7
              have R7 := Lib.hid r7; have HB7 := Lib.hid hb7'; have HGO := Lib.hid hgo; have HZ7 := Lib.hid hz7
              clear r7 hb7' hgo hz7
              go_wp2_with fail
              obtain ⟨wf, hwf⟩ : ∃ wf, wf = set5 w7 R 0 (.int .i64 gk) (.int .i64 gn) (.string gt) (.slice gA ga gb) (.slice gA' ga' gb') := ⟨_, rfl⟩
              change bodyPost _ _ _ _ _ (set5 w7 R 0 (.int .i64 gk) (.int .i64 gn) (.string gt) (.slice gA ga gb) (.slice gA' ga' gb'))
              rw [← hwf]
              have hx : wf.heap[R]? = some (.cells #[.int .i64 gk, .int .i64 gn, .string gt, .slice gA ga gb, .slice gA' ga' gb'] 25 (0, 0)) := by rw [hwf]; exact set5_here R7.out
              have hbf : Below R w wf := by rw [hwf]; exact (HB7.out.trans (set5_below (Nat.le_refl _)))
              obtain ⟨⟨x0, x1, x2, x3, x4⟩, -⟩ := box_of hx
              have HBF := Lib.hid hbf
              have hkeep : ∀ x, VIs w7 W1.heap.size w7.heap.size x [.int .i64 gk, .int .i64 gn, .string gt, .slice gA ga gb, .slice gA' ga' gb'] → VIs wf w.heap.size wf.heap.size x [.int .i64 gk, .int .i64 gn, .string gt, .slice gA ga gb, .slice gA' ga' gb'] := fun x hxv => by
                have hsf : wf.heap.size = w7.heap.size := by rw [hwf, set5_size]
                rw [hsf]
                have hz1 := Z1.out; have hrr := HR.out
                refine (hxv.keep2 fun q h1 h2 => ?_).more (by omega) (Nat.le_refl _)
                have hne : q.block ≠ R := by omega
                exact World.cell?_of_block (w := w7) (by rw [hwf]; exact set5_there hne)
              have HKEEP := Lib.hid hkeep
              clear hbf hwf hx hkeep e0 e1 e2 e3 e4 f0 f1 f2 f3 f4
              refine bodyPost_ret (v := .tuple #[.agg #[.int .i64 gk, .int .i64 gn, .string gt, .slice gA ga gb, .slice gA' ga' gb'], .string ⟨grest.toArray⟩, .bool gok]) (by simp [results, Tryd.results28, go_sem, x0, x1, x2, x3, x4]) rfl ?_
              have hgo := HGO.out
              refine ⟨⟨_, _, _, _, _, _, _, _, _, _, _, rfl, ?_⟩, by rw [HR.out]; exact HBF.out⟩
              cases VC with
              | none => exact hgo
              | some y =>
                obtain ⟨x, r⟩ := y
                obtain ⟨g1, g2, g3⟩ := hgo
                exact ⟨g1, g2, HKEEP.out x g3⟩
            | false =>
              rw [if_neg (by simp [h1]), if_neg (by simp [h2]), if_neg (by simp [h3]), if_neg (by simp [h4]), if_neg (by simp [h5]), if_neg (by simp [h6])] at hVC
              have hnb := number_any S (by omega) W1 (K1.out.more (by have := Z1.out; have := HR.out; omega))
              obtain ⟨nk, nn, nr, nok, hNA, hV⟩ : ∃ nk nn nr nok, numberA S.data.toList = .tuple #[.agg #[.int .i64 nk, .int .i64 nn, .string ⟨#[]⟩, .slice none 0 0, .slice none 0 0], .string ⟨List.toArray nr⟩, .bool nok] ∧ PlainIs VC nok nr (.mk nk nn [] [] []) := by
                unfold numberA
                cases hq : numberC S.data.toList with
                | none =>
                  rw [hq] at hVC
                  subst hVC
                  exact ⟨0, 0, [], false, rfl, rfl⟩
                | some y =>
                  obtain ⟨n, r⟩ := y
                  rw [hq] at hVC
                  subst hVC
                  exact ⟨3, n, r, true, rfl, rfl, rfl, rfl⟩
              rw [hNA] at hnb
              have HNB := Lib.hid hnb; have HV := Lib.hid hV
              have hq1 := HP1.out; rw [h1] at hq1; have HQ1 := Lib.hid hq1; clear hq1
              have hq2 := HP2.out; rw [h2] at hq2; have HQ2 := Lib.hid hq2; clear hq2
              have hq3 := HP3.out; rw [h3] at hq3; have HQ3 := Lib.hid hq3; clear hq3
              have hq4 := HP4.out; rw [h4] at hq4; have HQ4 := Lib.hid hq4; clear hq4
              have hq5 := HP5.out; rw [h5] at hq5; have HQ5 := Lib.hid hq5; clear hq5
              have hq6 := HP6.out; rw [h6] at hq6; have HQ6 := Lib.hid hq6; clear hq6
              clear hVC hNA hnb hV h1 h2 h3 h4 h5 h6
              obtain ⟨⟨e0, e1, e2, e3, e4⟩, f0, f1, f2, f3, f4⟩ := box_of R1.out
              go_enter Tryd.func28, Tryd.ntmps28
              go_wp2_with fail
              rw [← HW1.out, HR.out]
              refine (HQ1.out _).mono ?_
              rintro d1 v1 ⟨rfl, rfl⟩
              dsimp only
              go_wp2_with fail
              refine (HQ2.out _).mono ?_
              rintro d2 v2 ⟨rfl, rfl⟩
              dsimp only
              go_wp2_with fail
              refine (HQ3.out _).mono ?_
              rintro d3 v3 ⟨rfl, rfl⟩
              dsimp only
              go_wp2_with fail
              refine (HQ4.out _).mono ?_
              rintro d4 v4 ⟨rfl, rfl⟩
              dsimp only
              go_wp2_with fail
              refine (HQ5.out _).mono ?_
              rintro d5 v5 ⟨rfl, rfl⟩
              dsimp only
              go_wp2_with fail
              refine (HQ6.out _).mono ?_
              rintro d6 v6 ⟨rfl, rfl⟩
              dsimp only
              go_wp2_with fail
              refine (HNB.out).mono ?_
              rintro d5 w5 ⟨rfl, hb5⟩
              dsimp only
              have r5 := (hb5.block R (by have := Z1.out; omega)).trans R1.out
              have hb5' : Below R w w5 := HB1.out.trans (hb5.mono (by have := Z1.out; omega))
              clear e0 e1 e2 e3 e4 f0 f1 f2 f3 f4 hb5
              obtain ⟨⟨e0, e1, e2, e3, e4⟩, f0, f1, f2, f3, f4⟩ := box_of r5
              have R5 := Lib.hid r5; have HB5 := Lib.hid hb5'
              clear r5 hb5'
              go_wp2_with fail
              obtain ⟨wf, hwf⟩ : ∃ wf, wf = set5 w5 R 0 (.int .i64 nk) (.int .i64 nn) (.string ⟨#[]⟩) (.slice none 0 0) (.slice none 0 0) := ⟨_, rfl⟩
              change bodyPost _ _ _ _ _ (set5 w5 R 0 (.int .i64 nk) (.int .i64 nn) (.string ⟨#[]⟩) (.slice none 0 0) (.slice none 0 0))
              rw [← hwf]
              have hx : wf.heap[R]? = some (.cells #[.int .i64 nk, .int .i64 nn, .string ⟨#[]⟩, .slice none 0 0, .slice none 0 0] 25 (0, 0)) := by rw [hwf]; exact set5_here R5.out
              have hbf : Below R w wf := by rw [hwf]; exact (HB5.out.trans (set5_below (Nat.le_refl _)))
              obtain ⟨⟨x0, x1, x2, x3, x4⟩, -⟩ := box_of hx
              have HBF := Lib.hid hbf
              clear hbf hwf hx e0 e1 e2 e3 e4 f0 f1 f2 f3 f4
              refine bodyPost_ret (v := .tuple #[.agg #[.int .i64 nk, .int .i64 nn, .string ⟨#[]⟩, .slice none 0 0, .slice none 0 0], .string ⟨nr.toArray⟩, .bool nok]) (by simp [results, Tryd.results28, go_sem, x0, x1, x2, x3, x4]) rfl ?_
              have hV := HV.out
              refine ⟨⟨_, _, _, _, _, _, _, _, _, _, _, rfl, ?_⟩, by rw [HR.out]; exact HBF.out⟩
              cases VC with
              | none => exact hV
              | some y =>
                obtain ⟨x, r⟩ := y
                obtain ⟨g1, g2, rfl⟩ := hV
                exact ⟨g1, g2, plain_is _ _ _ nk nn [] (by simp)⟩
theorem value_all (B : Nat) : ∀ m f s, f ≤ m → s.length ≤ 4096 → 2 * s.length + 1 ≤ f → ValueSays B f s
  | 0, f, s, hf, _, h => by omega
  | m + 1, f, s, hf, hs, h => by
    rcases Nat.lt_or_ge m f with h1 | h1
    · have e : f = m + 1 := by omega
      subst e
      have := value_step B m (value_all B m) ⟨s.toArray⟩ (by rw [str_sizeL]; exact hs) (by rw [str_sizeL]; exact h)
      rwa [toListS] at this
    · exact value_all B m f s h1 hs h
end Go.Proofs.YtoijjcbcmjdggaaDoor
