/- Texts merged by program, in build order: JsonValue, JsonParse. -/
import Derived.Test.YtcbajbpdgmmaeaaDoorC21
import Derived.Test.YtcbajbpdgmmaeaaDoorC22
import Derived.Test.YtcbajbpdgmmaeaaDoorC05
import Derived.Test.YtcbajbpdgmmaeaaDoorC04
namespace Go.Proofs.YtcbajbpdgmmaeaaDoor
open Go.RowKit
set_option linter.unusedVariables false
set_option linter.unusedSimpArgs false

theorem hp_any (S : ByteArray) (t : List UInt8) (w : World) : Calls Tryd.prog 40 #[.string S, .string ⟨t.toArray⟩] w fun e w' => e = .returned (.bool (beginsB S.data.toList t)) ∧ w = w' :=
  (Tryd.strings_HasPrefix S ⟨t.toArray⟩ w).mono fun e w' ⟨h1, h2⟩ => ⟨by rw [h1, hasPrefix_begins, toListS], h2.symm⟩
theorem plain_is (w : World) (L N : Nat) (k n : Int) (t : List UInt8) (ht : t.length ≤ 9223372036854775807) : VIs w L N (.mk k n t [] []) [.int .i64 k, .int .i64 n, .string ⟨t.toArray⟩, .slice none 0 0, .slice none 0 0] :=
  VIs.mk (w := w) (L := L) (N := N) (k := k) (n := n) (t := t) (l := []) (ks := []) (A := none) (A' := none) (c := 0) (c' := 0) ⟨by simp, by simp, ht, by simp⟩ (.inl rfl) (.inl rfl)
def PlainIs (o : Option (V × List UInt8)) (ok : Bool) (rest : List UInt8) (u : V) : Prop := match o with
  | some (x, r) => ok = true ∧ rest = r ∧ x = u
  | none => ok = false
set_option maxRecDepth 100000 in
set_option maxHeartbeats 20000000 in
theorem value_step (B m : Nat) (ih : ∀ f s, f ≤ m → s.length ≤ 4096 → 2 * s.length + 1 ≤ f → ValueSays B f s) (S : ByteArray) (hs : S.size ≤ 4096) (hfs : 2 * S.size + 1 ≤ m + 1) : ValueSays B (m + 1) S.data.toList := by
  intro w hk hB
  have hsl : S.data.toList.length = S.size := rfl
  have hSS : (⟨S.data.toList.toArray⟩ : ByteArray) = S := by apply ByteArray.ext; simp
  rw [hSS]
  obtain ⟨VC, hVC⟩ : ∃ VC, valueC (m + 1) S.data.toList = VC := ⟨_, rfl⟩
  rw [hVC]
  unfold valueC at hVC
  obtain ⟨R, hR⟩ : ∃ R, w.heap.size = R := ⟨_, rfl⟩
  obtain ⟨W1, hW1⟩ : ∃ W1, W1 = w.alloc (.cells #[.int .i64 0, .int .i64 0, .string ⟨#[]⟩, .slice none 0 0, .slice none 0 0] 28) := ⟨_, rfl⟩
  have b1 : Below R w W1 := by rw [hW1, ← hR]; exact (Below.refl _ _).alloc (Nat.le_refl _) _
  have z1 : W1.heap.size = R + 1 := by rw [hW1, ← hR]; simp
  have r1 : W1.heap[R]? = some (.cells #[.int .i64 0, .int .i64 0, .string ⟨#[]⟩, .slice none 0 0, .slice none 0 0] 28 (0, 0)) := by
    rw [hW1, ← hR]; exact heap_alloc_last w _
  have k1 := hk.below (b1.mono (by omega))
  have hp1 : ∀ w, Calls Tryd.prog 40 #[.string S, .string ⟨#[110, 117, 108, 108]⟩] w fun e w' => e = .returned (.bool (beginsB S.data.toList nullT)) ∧ w = w' := fun w => hp_any S nullT w
  have hp2 : ∀ w, Calls Tryd.prog 40 #[.string S, .string ⟨#[116, 114, 117, 101]⟩] w fun e w' => e = .returned (.bool (beginsB S.data.toList trueT)) ∧ w = w' := fun w => hp_any S trueT w
  have hp3 : ∀ w, Calls Tryd.prog 40 #[.string S, .string ⟨#[102, 97, 108, 115, 101]⟩] w fun e w' => e = .returned (.bool (beginsB S.data.toList falseT)) ∧ w = w' := fun w => hp_any S falseT w
  have hp4 : ∀ w, Calls Tryd.prog 40 #[.string S, .string ⟨#[34]⟩] w fun e w' => e = .returned (.bool (beginsB S.data.toList [34])) ∧ w = w' := fun w => hp_any S [34] w
  have hp5 : ∀ w, Calls Tryd.prog 40 #[.string S, .string ⟨#[91]⟩] w fun e w' => e = .returned (.bool (beginsB S.data.toList [91])) ∧ w = w' := fun w => hp_any S [91] w
  have hp6 : ∀ w, Calls Tryd.prog 40 #[.string S, .string ⟨#[123]⟩] w fun e w' => e = .returned (.bool (beginsB S.data.toList [123])) ∧ w = w' := fun w => hp_any S [123] w
  have HP1 := Lib.hid hp1; have HP2 := Lib.hid hp2; have HP3 := Lib.hid hp3; have HP4 := Lib.hid hp4; have HP5 := Lib.hid hp5; have HP6 := Lib.hid hp6
  have HR := Lib.hid hR; have HW1 := Lib.hid hW1; have HB1 := Lib.hid b1; have R1 := Lib.hid r1; have Z1 := Lib.hid z1; have K1 := Lib.hid k1; have IH := Lib.hid ih
  clear hp1 hp2 hp3 hp4 hp5 hp6 hR hW1 b1 r1 z1 k1 ih hk
  cases h1 : beginsB S.data.toList nullT with
  | true =>
    rw [if_pos h1] at hVC
    subst hVC
    have hle : 4 ≤ S.size := by
      have := congrArg List.length (begins_full h1)
      rw [List.length_append, hsl] at this
      have e : (nullT : List UInt8).length = 4 := rfl
      omega
    have hxs : S.extract 4 S.size = ⟨(S.data.toList.drop 4).toArray⟩ := extS S 4
    have HXS := Lib.hid hxs
    have hq1 := HP1.out; rw [h1] at hq1; have HQ1 := Lib.hid hq1; clear hq1
    clear hxs h1
    obtain ⟨⟨e0, e1, e2, e3, e4⟩, f0, f1, f2, f3, f4⟩ := box_of R1.out
    go_enter Tryd.func31, Tryd.ntmps31
    go_wp2_with fail
    rw [← HW1.out, HR.out]
    refine (HQ1.out _).mono ?_
    rintro d1 v1 ⟨rfl, rfl⟩
    dsimp only
    go_wp2_with fail
    go_region
    all_goals
      go_wp2
      obtain ⟨wf, hwf⟩ : ∃ wf, wf = (set5 W1 R 0 (.int .i64 1) (.int .i64 0) (.string ⟨#[]⟩) (.slice none 0 0) (.slice none 0 0)).drew := ⟨_, rfl⟩
      change bodyPost _ _ _ _ _ ((set5 W1 R 0 (.int .i64 1) (.int .i64 0) (.string ⟨#[]⟩) (.slice none 0 0) (.slice none 0 0)).drew)
      rw [← hwf]
      have hx : wf.heap[R]? = some (.cells #[.int .i64 1, .int .i64 0, .string ⟨#[]⟩, .slice none 0 0, .slice none 0 0] 28 (0, 0)) := by rw [hwf, drew_heap]; exact set5_here R1.out
      have hbf : Below R w wf := by rw [hwf]; exact (HB1.out.trans (set5_below (Nat.le_refl _))).drew
      obtain ⟨⟨x0, x1, x2, x3, x4⟩, -⟩ := box_of hx
      have HBF := Lib.hid hbf
      clear hbf hwf hx e0 e1 e2 e3 e4 f0 f1 f2 f3 f4
      refine bodyPost_ret (v := .tuple #[.agg #[.int .i64 1, .int .i64 0, .string ⟨#[]⟩, .slice none 0 0, .slice none 0 0], .string (S.extract 4 S.size), .bool true]) (by simp [results, Tryd.results31, go_sem, x0, x1, x2, x3, x4]) rfl ?_
      rw [HXS.out]
      exact ⟨⟨_, _, _, _, _, _, _, _, _, _, _, rfl, rfl, rfl, plain_is _ _ _ 1 0 [] (by simp)⟩, by rw [HR.out]; exact HBF.out⟩
  | false =>
    cases h2 : beginsB S.data.toList trueT with
    | true =>
      rw [if_neg (by simp [h1]), if_pos h2] at hVC
      subst hVC
      have hle : 4 ≤ S.size := by
        have := congrArg List.length (begins_full h2)
        rw [List.length_append, hsl] at this
        have e : (trueT : List UInt8).length = 4 := rfl
        omega
      have hxs : S.extract 4 S.size = ⟨(S.data.toList.drop 4).toArray⟩ := extS S 4
      have HXS := Lib.hid hxs
      have hq1 := HP1.out; rw [h1] at hq1; have HQ1 := Lib.hid hq1; clear hq1
      have hq2 := HP2.out; rw [h2] at hq2; have HQ2 := Lib.hid hq2; clear hq2
      clear hxs h1 h2
      obtain ⟨⟨e0, e1, e2, e3, e4⟩, f0, f1, f2, f3, f4⟩ := box_of R1.out
      go_enter Tryd.func31, Tryd.ntmps31
      go_wp2_with fail
      rw [← HW1.out, HR.out]
      refine (HQ1.out _).mono ?_
      rintro d1 v1 ⟨rfl, rfl⟩
      dsimp only
      go_wp2_with fail
      refine (HQ2.out _).mono ?_
      rintro d2 v2 ⟨rfl, rfl⟩
      dsimp only
      go_wp2_with fail
      go_region
      all_goals
        go_wp2
        obtain ⟨wf, hwf⟩ : ∃ wf, wf = (set5 W1 R 0 (.int .i64 2) (.int .i64 1) (.string ⟨#[]⟩) (.slice none 0 0) (.slice none 0 0)).drew := ⟨_, rfl⟩
        change bodyPost _ _ _ _ _ ((set5 W1 R 0 (.int .i64 2) (.int .i64 1) (.string ⟨#[]⟩) (.slice none 0 0) (.slice none 0 0)).drew)
        rw [← hwf]
        have hx : wf.heap[R]? = some (.cells #[.int .i64 2, .int .i64 1, .string ⟨#[]⟩, .slice none 0 0, .slice none 0 0] 28 (0, 0)) := by rw [hwf, drew_heap]; exact set5_here R1.out
        have hbf : Below R w wf := by rw [hwf]; exact (HB1.out.trans (set5_below (Nat.le_refl _))).drew
        obtain ⟨⟨x0, x1, x2, x3, x4⟩, -⟩ := box_of hx
        have HBF := Lib.hid hbf
        clear hbf hwf hx e0 e1 e2 e3 e4 f0 f1 f2 f3 f4
        refine bodyPost_ret (v := .tuple #[.agg #[.int .i64 2, .int .i64 1, .string ⟨#[]⟩, .slice none 0 0, .slice none 0 0], .string (S.extract 4 S.size), .bool true]) (by simp [results, Tryd.results31, go_sem, x0, x1, x2, x3, x4]) rfl ?_
        rw [HXS.out]
        exact ⟨⟨_, _, _, _, _, _, _, _, _, _, _, rfl, rfl, rfl, plain_is _ _ _ 2 1 [] (by simp)⟩, by rw [HR.out]; exact HBF.out⟩
    | false =>
      cases h3 : beginsB S.data.toList falseT with
      | true =>
        rw [if_neg (by simp [h1]), if_neg (by simp [h2]), if_pos h3] at hVC
        subst hVC
        have hle : 5 ≤ S.size := by
          have := congrArg List.length (begins_full h3)
          rw [List.length_append, hsl] at this
          have e : (falseT : List UInt8).length = 5 := rfl
          omega
        have hxs : S.extract 5 S.size = ⟨(S.data.toList.drop 5).toArray⟩ := extS S 5
        have HXS := Lib.hid hxs
        have hq1 := HP1.out; rw [h1] at hq1; have HQ1 := Lib.hid hq1; clear hq1
        have hq2 := HP2.out; rw [h2] at hq2; have HQ2 := Lib.hid hq2; clear hq2
        have hq3 := HP3.out; rw [h3] at hq3; have HQ3 := Lib.hid hq3; clear hq3
        clear hxs h1 h2 h3
        obtain ⟨⟨e0, e1, e2, e3, e4⟩, f0, f1, f2, f3, f4⟩ := box_of R1.out
        go_enter Tryd.func31, Tryd.ntmps31
        go_wp2_with fail
        rw [← HW1.out, HR.out]
        refine (HQ1.out _).mono ?_
        rintro d1 v1 ⟨rfl, rfl⟩
        dsimp only
        go_wp2_with fail
        refine (HQ2.out _).mono ?_
        rintro d2 v2 ⟨rfl, rfl⟩
        dsimp only
        go_wp2_with fail
        refine (HQ3.out _).mono ?_
        rintro d3 v3 ⟨rfl, rfl⟩
        dsimp only
        go_wp2_with fail
        go_region
        all_goals
          go_wp2
          obtain ⟨wf, hwf⟩ : ∃ wf, wf = (set5 W1 R 0 (.int .i64 2) (.int .i64 0) (.string ⟨#[]⟩) (.slice none 0 0) (.slice none 0 0)).drew := ⟨_, rfl⟩
          change bodyPost _ _ _ _ _ ((set5 W1 R 0 (.int .i64 2) (.int .i64 0) (.string ⟨#[]⟩) (.slice none 0 0) (.slice none 0 0)).drew)
          rw [← hwf]
          have hx : wf.heap[R]? = some (.cells #[.int .i64 2, .int .i64 0, .string ⟨#[]⟩, .slice none 0 0, .slice none 0 0] 28 (0, 0)) := by rw [hwf, drew_heap]; exact set5_here R1.out
          have hbf : Below R w wf := by rw [hwf]; exact (HB1.out.trans (set5_below (Nat.le_refl _))).drew
          obtain ⟨⟨x0, x1, x2, x3, x4⟩, -⟩ := box_of hx
          have HBF := Lib.hid hbf
          clear hbf hwf hx e0 e1 e2 e3 e4 f0 f1 f2 f3 f4
          refine bodyPost_ret (v := .tuple #[.agg #[.int .i64 2, .int .i64 0, .string ⟨#[]⟩, .slice none 0 0, .slice none 0 0], .string (S.extract 5 S.size), .bool true]) (by simp [results, Tryd.results31, go_sem, x0, x1, x2, x3, x4]) rfl ?_
          rw [HXS.out]
          exact ⟨⟨_, _, _, _, _, _, _, _, _, _, _, rfl, rfl, rfl, plain_is _ _ _ 2 0 [] (by simp)⟩, by rw [HR.out]; exact HBF.out⟩
      | false =>
        cases h4 : beginsB S.data.toList [34] with
        | true =>
          rw [if_neg (by simp [h1]), if_neg (by simp [h2]), if_neg (by simp [h3]), if_pos h4] at hVC
          have hqn := fun w => quoted_any S (by omega) w
          obtain ⟨qt, qr, qk, hqr⟩ : ∃ qt qr qk, quotedR S.data.toList = (qt, qr, qk) := ⟨_, _, _, rfl⟩
          rw [hqr] at hqn
          dsimp only at hqn
          have hV : PlainIs VC qk qr (.mk 4 0 qt [] []) ∧ (qt.length ≤ 9223372036854775807) := by
            unfold quotedR at hqr
            cases hq : quotedC S.data.toList with
            | none =>
              rw [hq] at hVC hqr
              injection hqr with e1 e2
              injection e2 with e2 e3
              subst e1; subst e2; subst e3; subst hVC
              exact ⟨rfl, by simp⟩
            | some y =>
              obtain ⟨t, r⟩ := y
              rw [hq] at hVC hqr
              injection hqr with e1 e2
              injection e2 with e2 e3
              have := quotedC_len hq
              subst e1; subst e2; subst e3; subst hVC
              exact ⟨⟨rfl, rfl, rfl⟩, by omega⟩
          have HQN := Lib.hid hqn; have HV := Lib.hid hV
          have hq1 := HP1.out; rw [h1] at hq1; have HQ1 := Lib.hid hq1; clear hq1
          have hq2 := HP2.out; rw [h2] at hq2; have HQ2 := Lib.hid hq2; clear hq2
          have hq3 := HP3.out; rw [h3] at hq3; have HQ3 := Lib.hid hq3; clear hq3
          have hq4 := HP4.out; rw [h4] at hq4; have HQ4 := Lib.hid hq4; clear hq4
          clear hVC hqr hqn hV h1 h2 h3 h4
          obtain ⟨⟨e0, e1, e2, e3, e4⟩, f0, f1, f2, f3, f4⟩ := box_of R1.out
          go_enter Tryd.func31, Tryd.ntmps31
          go_wp2_with fail
          rw [← HW1.out, HR.out]
          refine (HQ1.out _).mono ?_
          rintro d1 v1 ⟨rfl, rfl⟩
          dsimp only
          go_wp2_with fail
          refine (HQ2.out _).mono ?_
          rintro d2 v2 ⟨rfl, rfl⟩
          dsimp only
          go_wp2_with fail
          refine (HQ3.out _).mono ?_
          rintro d3 v3 ⟨rfl, rfl⟩
          dsimp only
          go_wp2_with fail
          refine (HQ4.out _).mono ?_
          rintro d4 v4 ⟨rfl, rfl⟩
          dsimp only
          go_wp2_with fail
          refine (HQN.out _).mono ?_
          rintro d5 w5 ⟨rfl, hb5⟩
          dsimp only
          have r5 := (hb5.block R (by have := Z1.out; omega)).trans R1.out
          have hb5' : Below R w w5 := HB1.out.trans (hb5.mono (by have := Z1.out; omega))
          clear e0 e1 e2 e3 e4 f0 f1 f2 f3 f4 hb5
          obtain ⟨⟨e0, e1, e2, e3, e4⟩, f0, f1, f2, f3, f4⟩ := box_of r5
          have R5 := Lib.hid r5; have HB5 := Lib.hid hb5'
          clear r5 hb5'
          go_wp2_with fail
          obtain ⟨wf, hwf⟩ : ∃ wf, wf = set5 w5 R 0 (.int .i64 4) (.int .i64 0) (.string ⟨qt.toArray⟩) (.slice none 0 0) (.slice none 0 0) := ⟨_, rfl⟩
          change bodyPost _ _ _ _ _ (set5 w5 R 0 (.int .i64 4) (.int .i64 0) (.string ⟨qt.toArray⟩) (.slice none 0 0) (.slice none 0 0))
          rw [← hwf]
          have hx : wf.heap[R]? = some (.cells #[.int .i64 4, .int .i64 0, .string ⟨qt.toArray⟩, .slice none 0 0, .slice none 0 0] 28 (0, 0)) := by rw [hwf]; exact set5_here R5.out
          have hbf : Below R w wf := by rw [hwf]; exact (HB5.out.trans (set5_below (Nat.le_refl _)))
          obtain ⟨⟨x0, x1, x2, x3, x4⟩, -⟩ := box_of hx
          have HBF := Lib.hid hbf
          clear hbf hwf hx e0 e1 e2 e3 e4 f0 f1 f2 f3 f4
          refine bodyPost_ret (v := .tuple #[.agg #[.int .i64 4, .int .i64 0, .string ⟨qt.toArray⟩, .slice none 0 0, .slice none 0 0], .string ⟨qr.toArray⟩, .bool qk]) (by simp [results, Tryd.results31, go_sem, x0, x1, x2, x3, x4]) rfl ?_
          obtain ⟨hV, hqt⟩ := HV.out
          refine ⟨⟨_, _, _, _, _, _, _, _, _, _, _, rfl, ?_⟩, by rw [HR.out]; exact HBF.out⟩
          cases VC with
          | none => exact hV
          | some y =>
            obtain ⟨x, r⟩ := y
            obtain ⟨g1, g2, rfl⟩ := hV
            exact ⟨g1, g2, plain_is _ _ _ 4 0 qt hqt⟩
        | false =>
          cases h5 : beginsB S.data.toList [91] with
          | true =>
            have hle : 1 ≤ S.size := by
              have := congrArg List.length (begins_one h5)
              rw [List.length_cons, hsl] at this; omega
            rw [if_neg (by simp [h1]), if_neg (by simp [h2]), if_neg (by simp [h3]), if_neg (by simp [h4]), if_pos h5] at hVC
            have hGA : groupA m false (S.data.toList.drop 1) = VC := by
              rw [← hVC]
              unfold groupA
              simp only [Bool.false_eq_true, if_false, if_true, List.drop_drop]
            have hex : S.extract 1 S.size = ⟨(S.data.toList.drop 1).toArray⟩ := extS S 1
            have hdl : (S.data.toList.drop 1).length = S.size - 1 := by rw [List.length_drop, hsl]
            have hgr := groupList B m IH.out m (S.data.toList.drop 1) (by omega) (by omega) (by omega)
            unfold GroupSays at hgr
            rw [hGA, ← hex] at hgr
            have hgr2 : Calls Tryd.prog 42 #[.string (S.extract 1 S.size), .int .i64 5, .string ⟨#[93]⟩] W1 fun e w' => Outs VC W1 e w' := hgr W1 K1.out (by have := Z1.out; have := HR.out; omega)
            have HGR := Lib.hid hgr2
            have hq1 := HP1.out; rw [h1] at hq1; have HQ1 := Lib.hid hq1; clear hq1
            have hq2 := HP2.out; rw [h2] at hq2; have HQ2 := Lib.hid hq2; clear hq2
            have hq3 := HP3.out; rw [h3] at hq3; have HQ3 := Lib.hid hq3; clear hq3
            have hq4 := HP4.out; rw [h4] at hq4; have HQ4 := Lib.hid hq4; clear hq4
            have hq5 := HP5.out; rw [h5] at hq5; have HQ5 := Lib.hid hq5; clear hq5
            clear hVC hGA hgr hgr2 hex hdl h1 h2 h3 h4 h5
            obtain ⟨⟨e0, e1, e2, e3, e4⟩, f0, f1, f2, f3, f4⟩ := box_of R1.out
            go_enter Tryd.func31, Tryd.ntmps31
            go_wp2_with fail
            rw [← HW1.out, HR.out]
            refine (HQ1.out _).mono ?_
            rintro d1 v1 ⟨rfl, rfl⟩
            dsimp only
            go_wp2_with fail
            refine (HQ2.out _).mono ?_
            rintro d2 v2 ⟨rfl, rfl⟩
            dsimp only
            go_wp2_with fail
            refine (HQ3.out _).mono ?_
            rintro d3 v3 ⟨rfl, rfl⟩
            dsimp only
            go_wp2_with fail
            refine (HQ4.out _).mono ?_
            rintro d4 v4 ⟨rfl, rfl⟩
            dsimp only
            go_wp2_with fail
            refine (HQ5.out _).mono ?_
            rintro d5 v5 ⟨rfl, rfl⟩
            dsimp only
            go_wp2_with fail
            refine (HGR.out).mono ?_
            rintro d7 w7 ⟨⟨gk, gn, gt, gA, ga, gb, gA', ga', gb', grest, gok, rfl, hgo⟩, hb7⟩
            dsimp only
            have r7 := (hb7.block R (by have := Z1.out; omega)).trans R1.out
            have hb7' : Below R w w7 := HB1.out.trans (hb7.mono (by have := Z1.out; omega))
            have hz7 := hb7.size
            clear e0 e1 e2 e3 e4 f0 f1 f2 f3 f4 hb7
            obtain ⟨⟨e0, e1, e2, e3, e4⟩, f0, f1, f2, f3, f4⟩ := box_of r7
            have R7 := Lib.hid r7; have HB7 := Lib.hid hb7'; have HGO := Lib.hid hgo; have HZ7 := Lib.hid hz7
            clear r7 hb7' hgo hz7
            go_wp2_with fail
            obtain ⟨wf, hwf⟩ : ∃ wf, wf = set5 w7 R 0 (.int .i64 gk) (.int .i64 gn) (.string gt) (.slice gA ga gb) (.slice gA' ga' gb') := ⟨_, rfl⟩
            change bodyPost _ _ _ _ _ (set5 w7 R 0 (.int .i64 gk) (.int .i64 gn) (.string gt) (.slice gA ga gb) (.slice gA' ga' gb'))
            rw [← hwf]
            have hx : wf.heap[R]? = some (.cells #[.int .i64 gk, .int .i64 gn, .string gt, .slice gA ga gb, .slice gA' ga' gb'] 28 (0, 0)) := by rw [hwf]; exact set5_here R7.out
            have hbf : Below R w wf := by rw [hwf]; exact (HB7.out.trans (set5_below (Nat.le_refl _)))
            obtain ⟨⟨x0, x1, x2, x3, x4⟩, -⟩ := box_of hx
            have HBF := Lib.hid hbf
            have hkeep : ∀ x, VIs w7 W1.heap.size w7.heap.size x [.int .i64 gk, .int .i64 gn, .string gt, .slice gA ga gb, .slice gA' ga' gb'] → VIs wf w.heap.size wf.heap.size x [.int .i64 gk, .int .i64 gn, .string gt, .slice gA ga gb, .slice gA' ga' gb'] := fun x hxv => by
              have hsf : wf.heap.size = w7.heap.size := by rw [hwf, set5_size]
              rw [hsf]
              have hz1 := Z1.out; have hrr := HR.out
              refine (hxv.keep2 fun q h1 h2 => ?_).more (by omega) (Nat.le_refl _)
              have hne : q.block ≠ R := by omega
              exact World.cell?_of_block (w := w7) (by rw [hwf]; exact set5_there hne)
            have HKEEP := Lib.hid hkeep
            clear hbf hwf hx hkeep e0 e1 e2 e3 e4 f0 f1 f2 f3 f4
            refine bodyPost_ret (v := .tuple #[.agg #[.int .i64 gk, .int .i64 gn, .string gt, .slice gA ga gb, .slice gA' ga' gb'], .string ⟨grest.toArray⟩, .bool gok]) (by simp [results, Tryd.results31, go_sem, x0, x1, x2, x3, x4]) rfl ?_
            have hgo := HGO.out
            refine ⟨⟨_, _, _, _, _, _, _, _, _, _, _, rfl, ?_⟩, by rw [HR.out]; exact HBF.out⟩
            cases VC with
            | none => exact hgo
            | some y =>
              obtain ⟨x, r⟩ := y
              obtain ⟨g1, g2, g3⟩ := hgo
              exact ⟨g1, g2, HKEEP.out x g3⟩
          | false =>
            cases h6 : beginsB S.data.toList [123] with
            | true =>
              have hle : 1 ≤ S.size := by
                have := congrArg List.length (begins_one h6)
                rw [List.length_cons, hsl] at this; omega
              rw [if_neg (by simp [h1]), if_neg (by simp [h2]), if_neg (by simp [h3]), if_neg (by simp [h4]), if_neg (by simp [h5]), if_pos h6] at hVC
              have hGA : groupA m true (S.data.toList.drop 1) = VC := by
                rw [← hVC]
                unfold groupA
                simp only [Bool.false_eq_true, if_false, if_true, List.drop_drop]
              have hex : S.extract 1 S.size = ⟨(S.data.toList.drop 1).toArray⟩ := extS S 1
              have hdl : (S.data.toList.drop 1).length = S.size - 1 := by rw [List.length_drop, hsl]
              have hgr := groupObj B m IH.out m (S.data.toList.drop 1) (by omega) (by omega) (by omega)
              unfold GroupSays at hgr
              rw [hGA, ← hex] at hgr
              have hgr2 : Calls Tryd.prog 42 #[.string (S.extract 1 S.size), .int .i64 6, .string ⟨#[125]⟩] W1 fun e w' => Outs VC W1 e w' := hgr W1 K1.out (by have := Z1.out; have := HR.out; omega)
              have HGR := Lib.hid hgr2
              have hq1 := HP1.out; rw [h1] at hq1; have HQ1 := Lib.hid hq1; clear hq1
              have hq2 := HP2.out; rw [h2] at hq2; have HQ2 := Lib.hid hq2; clear hq2
              have hq3 := HP3.out; rw [h3] at hq3; have HQ3 := Lib.hid hq3; clear hq3
              have hq4 := HP4.out; rw [h4] at hq4; have HQ4 := Lib.hid hq4; clear hq4
              have hq5 := HP5.out; rw [h5] at hq5; have HQ5 := Lib.hid hq5; clear hq5
              have hq6 := HP6.out; rw [h6] at hq6; have HQ6 := Lib.hid hq6; clear hq6
              clear hVC hGA hgr hgr2 hex hdl h1 h2 h3 h4 h5 h6
              obtain ⟨⟨e0, e1, e2, e3, e4⟩, f0, f1, f2, f3, f4⟩ := box_of R1.out
              go_enter Tryd.func31, Tryd.ntmps31
              go_wp2_with fail
              rw [← HW1.out, HR.out]
              refine (HQ1.out _).mono ?_
              rintro d1 v1 ⟨rfl, rfl⟩
              dsimp only
              go_wp2_with fail
              refine (HQ2.out _).mono ?_
              rintro d2 v2 ⟨rfl, rfl⟩
              dsimp only
              go_wp2_with fail
              refine (HQ3.out _).mono ?_
              rintro d3 v3 ⟨rfl, rfl⟩
              dsimp only
              go_wp2_with fail
              refine (HQ4.out _).mono ?_
              rintro d4 v4 ⟨rfl, rfl⟩
              dsimp only
              go_wp2_with fail
              refine (HQ5.out _).mono ?_
              rintro d5 v5 ⟨rfl, rfl⟩
              dsimp only
              go_wp2_with fail
              refine (HQ6.out _).mono ?_
              rintro d6 v6 ⟨rfl, rfl⟩
              dsimp only
              go_wp2_with fail
              refine (HGR.out).mono ?_
              rintro d7 w7 ⟨⟨gk, gn, gt, gA, ga, gb, gA', ga', gb', grest, gok, rfl, hgo⟩, hb7⟩
              dsimp only
              have r7 := (hb7.block R (by have := Z1.out; omega)).trans R1.out
              have hb7' : Below R w w7 := HB1.out.trans (hb7.mono (by have := Z1.out; omega))
              have hz7 := hb7.size
              clear e0 e1 e2 e3 e4 f0 f1 f2 f3 f4 hb7
              obtain ⟨⟨e0, e1, e2, e3, e4⟩, f0, f1, f2, f3, f4⟩ := box_of r7
              have R7 := Lib.hid r7; have HB7 := Lib.hid hb7'; have HGO := Lib.hid hgo; have HZ7 := Lib.hid hz7
              clear r7 hb7' hgo hz7
              go_wp2_with fail
              obtain ⟨wf, hwf⟩ : ∃ wf, wf = set5 w7 R 0 (.int .i64 gk) (.int .i64 gn) (.string gt) (.slice gA ga gb) (.slice gA' ga' gb') := ⟨_, rfl⟩
              change bodyPost _ _ _ _ _ (set5 w7 R 0 (.int .i64 gk) (.int .i64 gn) (.string gt) (.slice gA ga gb) (.slice gA' ga' gb'))
              rw [← hwf]
              have hx : wf.heap[R]? = some (.cells #[.int .i64 gk, .int .i64 gn, .string gt, .slice gA ga gb, .slice gA' ga' gb'] 28 (0, 0)) := by rw [hwf]; exact set5_here R7.out
              have hbf : Below R w wf := by rw [hwf]; exact (HB7.out.trans (set5_below (Nat.le_refl _)))
              obtain ⟨⟨x0, x1, x2, x3, x4⟩, -⟩ := box_of hx
              have HBF := Lib.hid hbf
              have hkeep : ∀ x, VIs w7 W1.heap.size w7.heap.size x [.int .i64 gk, .int .i64 gn, .string gt, .slice gA ga gb, .slice gA' ga' gb'] → VIs wf w.heap.size wf.heap.size x [.int .i64 gk, .int .i64 gn, .string gt, .slice gA ga gb, .slice gA' ga' gb'] := fun x hxv => by
                have hsf : wf.heap.size = w7.heap.size := by rw [hwf, set5_size]
                rw [hsf]
                have hz1 := Z1.out; have hrr := HR.out
                refine (hxv.keep2 fun q h1 h2 => ?_).more (by omega) (Nat.le_refl _)
                have hne : q.block ≠ R := by omega
                exact World.cell?_of_block (w := w7) (by rw [hwf]; exact set5_there hne)
              have HKEEP := Lib.hid hkeep
              clear hbf hwf hx hkeep e0 e1 e2 e3 e4 f0 f1 f2 f3 f4
              refine bodyPost_ret (v := .tuple #[.agg #[.int .i64 gk, .int .i64 gn, .string gt, .slice gA ga gb, .slice gA' ga' gb'], .string ⟨grest.toArray⟩, .bool gok]) (by simp [results, Tryd.results31, go_sem, x0, x1, x2, x3, x4]) rfl ?_
              have hgo := HGO.out
              refine ⟨⟨_, _, _, _, _, _, _, _, _, _, _, rfl, ?_⟩, by rw [HR.out]; exact HBF.out⟩
              cases VC with
              | none => exact hgo
              | some y =>
                obtain ⟨x, r⟩ := y
                obtain ⟨g1, g2, g3⟩ := hgo
                exact ⟨g1, g2, HKEEP.out x g3⟩
            | false =>
              rw [if_neg (by simp [h1]), if_neg (by simp [h2]), if_neg (by simp [h3]), if_neg (by simp [h4]), if_neg (by simp [h5]), if_neg (by simp [h6])] at hVC
              have hnb := number_any S (by omega) W1 (K1.out.more (by have := Z1.out; have := HR.out; omega))
              obtain ⟨nk, nn, nr, nok, hNA, hV⟩ : ∃ nk nn nr nok, numberA S.data.toList = .tuple #[.agg #[.int .i64 nk, .int .i64 nn, .string ⟨#[]⟩, .slice none 0 0, .slice none 0 0], .string ⟨List.toArray nr⟩, .bool nok] ∧ PlainIs VC nok nr (.mk nk nn [] [] []) := by
                unfold numberA
                cases hq : numberC S.data.toList with
                | none =>
                  rw [hq] at hVC
                  subst hVC
                  exact ⟨0, 0, [], false, rfl, rfl⟩
                | some y =>
                  obtain ⟨n, r⟩ := y
                  rw [hq] at hVC
                  subst hVC
                  exact ⟨3, n, r, true, rfl, rfl, rfl, rfl⟩
              rw [hNA] at hnb
              have HNB := Lib.hid hnb; have HV := Lib.hid hV
              have hq1 := HP1.out; rw [h1] at hq1; have HQ1 := Lib.hid hq1; clear hq1
              have hq2 := HP2.out; rw [h2] at hq2; have HQ2 := Lib.hid hq2; clear hq2
              have hq3 := HP3.out; rw [h3] at hq3; have HQ3 := Lib.hid hq3; clear hq3
              have hq4 := HP4.out; rw [h4] at hq4; have HQ4 := Lib.hid hq4; clear hq4
              have hq5 := HP5.out; rw [h5] at hq5; have HQ5 := Lib.hid hq5; clear hq5
              have hq6 := HP6.out; rw [h6] at hq6; have HQ6 := Lib.hid hq6; clear hq6
              clear hVC hNA hnb hV h1 h2 h3 h4 h5 h6
              obtain ⟨⟨e0, e1, e2, e3, e4⟩, f0, f1, f2, f3, f4⟩ := box_of R1.out
              go_enter Tryd.func31, Tryd.ntmps31
              go_wp2_with fail
              rw [← HW1.out, HR.out]
              refine (HQ1.out _).mono ?_
              rintro d1 v1 ⟨rfl, rfl⟩
              dsimp only
              go_wp2_with fail
              refine (HQ2.out _).mono ?_
              rintro d2 v2 ⟨rfl, rfl⟩
              dsimp only
              go_wp2_with fail
              refine (HQ3.out _).mono ?_
              rintro d3 v3 ⟨rfl, rfl⟩
              dsimp only
              go_wp2_with fail
              refine (HQ4.out _).mono ?_
              rintro d4 v4 ⟨rfl, rfl⟩
              dsimp only
              go_wp2_with fail
              refine (HQ5.out _).mono ?_
              rintro d5 v5 ⟨rfl, rfl⟩
              dsimp only
              go_wp2_with fail
              refine (HQ6.out _).mono ?_
              rintro d6 v6 ⟨rfl, rfl⟩
              dsimp only
              go_wp2_with fail
              refine (HNB.out).mono ?_
              rintro d5 w5 ⟨rfl, hb5⟩
              dsimp only
              have r5 := (hb5.block R (by have := Z1.out; omega)).trans R1.out
              have hb5' : Below R w w5 := HB1.out.trans (hb5.mono (by have := Z1.out; omega))
              clear e0 e1 e2 e3 e4 f0 f1 f2 f3 f4 hb5
              obtain ⟨⟨e0, e1, e2, e3, e4⟩, f0, f1, f2, f3, f4⟩ := box_of r5
              have R5 := Lib.hid r5; have HB5 := Lib.hid hb5'
              clear r5 hb5'
              go_wp2_with fail
              obtain ⟨wf, hwf⟩ : ∃ wf, wf = set5 w5 R 0 (.int .i64 nk) (.int .i64 nn) (.string ⟨#[]⟩) (.slice none 0 0) (.slice none 0 0) := ⟨_, rfl⟩
              change bodyPost _ _ _ _ _ (set5 w5 R 0 (.int .i64 nk) (.int .i64 nn) (.string ⟨#[]⟩) (.slice none 0 0) (.slice none 0 0))
              rw [← hwf]
              have hx : wf.heap[R]? = some (.cells #[.int .i64 nk, .int .i64 nn, .string ⟨#[]⟩, .slice none 0 0, .slice none 0 0] 28 (0, 0)) := by rw [hwf]; exact set5_here R5.out
              have hbf : Below R w wf := by rw [hwf]; exact (HB5.out.trans (set5_below (Nat.le_refl _)))
              obtain ⟨⟨x0, x1, x2, x3, x4⟩, -⟩ := box_of hx
              have HBF := Lib.hid hbf
              clear hbf hwf hx e0 e1 e2 e3 e4 f0 f1 f2 f3 f4
              refine bodyPost_ret (v := .tuple #[.agg #[.int .i64 nk, .int .i64 nn, .string ⟨#[]⟩, .slice none 0 0, .slice none 0 0], .string ⟨nr.toArray⟩, .bool nok]) (by simp [results, Tryd.results31, go_sem, x0, x1, x2, x3, x4]) rfl ?_
              have hV := HV.out
              refine ⟨⟨_, _, _, _, _, _, _, _, _, _, _, rfl, ?_⟩, by rw [HR.out]; exact HBF.out⟩
              cases VC with
              | none => exact hV
              | some y =>
                obtain ⟨x, r⟩ := y
                obtain ⟨g1, g2, rfl⟩ := hV
                exact ⟨g1, g2, plain_is _ _ _ nk nn [] (by simp)⟩
theorem value_all (B : Nat) : ∀ m f s, f ≤ m → s.length ≤ 4096 → 2 * s.length + 1 ≤ f → ValueSays B f s
  | 0, f, s, hf, _, h => by omega
  | m + 1, f, s, hf, hs, h => by
    rcases Nat.lt_or_ge m f with h1 | h1
    · have e : f = m + 1 := by omega
      subst e
      have := value_step B m (value_all B m) ⟨s.toArray⟩ (by rw [str_sizeL]; exact hs) (by rw [str_sizeL]; exact h)
      rwa [toListS] at this
    · exact value_all B m f s h1 hs h
end Go.Proofs.YtcbajbpdgmmaeaaDoor
namespace Go.Proofs.YtcbajbpdgmmaeaaDoor
open Go.RowKit

theorem zero_cells (w : World) (L N : Nat) : VIs w L N V.zero [.int .i64 0, .int .i64 0, .string ⟨#[]⟩, .slice none 0 0, .slice none 0 0] := plain_is w L N 0 0 [] (by simp)
set_option maxRecDepth 100000 in
set_option maxHeartbeats 20000000 in
theorem parse_any (s : List UInt8) (hs : s.length ≤ 9223372036854775807) (w : World) (hk : KitIn w.heap.size w) :
    Calls Tryd.prog 24 #[.string ⟨s.toArray⟩] w fun e w' => (∃ cs, e = .returned (.tuple #[.agg cs.toArray, .int .i64 (parseV s).2]) ∧ VIs w' w.heap.size w'.heap.size (parseV s).1 cs) ∧ Below w.heap.size w w' := by
  obtain ⟨PV, hPV⟩ : ∃ PV, parseV s = PV := ⟨_, rfl⟩
  rw [hPV]
  rw [← parseC_eq (2 * s.length + 1) s (by omega)] at hPV
  obtain ⟨S, hS⟩ : ∃ S : ByteArray, (⟨s.toArray⟩ : ByteArray) = S := ⟨_, rfl⟩
  have hsz : S.size = s.length := by rw [← hS, str_sizeL]
  obtain ⟨R, hR⟩ : ∃ R, w.heap.size = R := ⟨_, rfl⟩
  obtain ⟨W1, hW1⟩ : ∃ W1, W1 = w.alloc (.cells #[.int .i64 0, .int .i64 0, .string ⟨#[]⟩, .slice none 0 0, .slice none 0 0] 28) := ⟨_, rfl⟩
  have b1 : Below R w W1 := by rw [hW1, ← hR]; exact (Below.refl _ _).alloc (Nat.le_refl _) _
  have z1 : W1.heap.size = R + 1 := by rw [hW1, ← hR]; simp
  have r1 : W1.heap[R]? = some (.cells #[.int .i64 0, .int .i64 0, .string ⟨#[]⟩, .slice none 0 0, .slice none 0 0] 28 (0, 0)) := by
    rw [hW1, ← hR]; exact heap_alloc_last w _
  have k1 := hk.below (b1.mono (by omega))
  have hS0 : S.size ≤ 9223372036854775807 := by omega
  by_cases hl : 4096 < s.length
  · have e : PV = (V.zero, 3) := hPV.symm.trans (by unfold parseC; rw [if_pos hl])
    subst e
    rw [hS]
    have hl2 : 4096 < S.size := by omega
    have HR := Lib.hid hR; have HW1 := Lib.hid hW1; have HB1 := Lib.hid b1; have R1 := Lib.hid r1; have Z1 := Lib.hid z1; have K1 := Lib.hid k1
    clear hR hW1 b1 r1 z1 k1 hk hPV hS hsz hl hs
    obtain ⟨⟨e0, e1, e2, e3, e4⟩, f0, f1, f2, f3, f4⟩ := box_of R1.out
    go_enter Tryd.func24, Tryd.ntmps24
    go_wp2_with fail
    refine bodyPost_ret (v := .tuple #[.agg #[.int .i64 0, .int .i64 0, .string ⟨#[]⟩, .slice none 0 0, .slice none 0 0], .int .i64 3]) (by simp [results, Tryd.results24, go_sem]) rfl ?_
    exact ⟨⟨[_, _, _, _, _], rfl, zero_cells _ _ _⟩, (Below.refl _ _).alloc (Nat.le_refl _) _⟩
  · have hvs := value_all w.heap.size (2 * s.length + 1) (2 * s.length + 1) s (Nat.le_refl _) (by omega) (Nat.le_refl _)
    rw [show parseC (2 * s.length + 1) s = (match valueC (2 * s.length + 1) s with
      | some (v, []) => if v.good then (if v.depth ≤ 8 then (v, 0) else (V.zero, 4)) else (V.zero, 2)
      | _ => (V.zero, 2)) from by unfold parseC; rw [if_neg hl]; rfl] at hPV
    have hval : Calls Tryd.prog 31 #[.string ⟨s.toArray⟩] W1 fun e w' => Outs (valueC (2 * s.length + 1) s) W1 e w' := hvs W1 k1 (by omega)
    rw [hS] at hval ⊢
    have hl2 : ¬ 4096 < S.size := by omega
    have hl3 : S.size ≤ 4096 := by omega
    have HR := Lib.hid hR; have HW1 := Lib.hid hW1; have HB1 := Lib.hid b1; have R1 := Lib.hid r1; have Z1 := Lib.hid z1; have K1 := Lib.hid k1; have HV := Lib.hid hval; have HPV := Lib.hid hPV
    clear hR hW1 b1 r1 z1 k1 hk hPV hS hsz hl hs hvs hval
    obtain ⟨VC, hVC⟩ : ∃ VC, valueC (2 * s.length + 1) s = VC := ⟨_, rfl⟩
    rw [hVC] at HPV HV
    clear hVC
    go_enter Tryd.func24, Tryd.ntmps24
    go_wp2_with fail
    rw [← HW1.out, HR.out]
    refine (HV.out).mono ?_
    rintro e2 w2 ⟨⟨k, n, t, A, a, b, A', a', b', rest, ok, rfl, hok⟩, hb2⟩
    dsimp only
    have hz2 := hb2.size
    obtain ⟨IT, hIT⟩ : ∃ IT, IT = Obj.cells #[.int .i64 k, .int .i64 n, .string t, .slice A a b, .slice A' a' b'] 28 := ⟨_, rfl⟩
    have hb3 := hb2.alloc hb2.size IT
    have r3 := (hb3.block R (by have := Z1.out; omega)).trans R1.out
    have bw3 : Below R w (w2.alloc IT) := HB1.out.trans (hb3.mono (by have := Z1.out; omega))
    rw [hIT] at hb3 r3 bw3
    have HB3 := Lib.hid hb3; have R3 := Lib.hid r3; have BW3 := Lib.hid bw3
    clear hb3 r3 bw3 hIT hb2
    obtain ⟨⟨e0, e1, e2, e3, e4⟩, f0, f1, f2, f3, f4⟩ := box_of R3.out
    cases VC with
    | none =>
      have hok' : ok = false := hok
      have e : PV = (V.zero, 2) := HPV.out.symm
      subst hok'; subst e
      clear hok
      go_wp2_with fail
      obtain ⟨wf, hwf⟩ : ∃ wf, wf = set5 (w2.alloc (.cells #[.int .i64 k, .int .i64 n, .string t, .slice A a b, .slice A' a' b'] 28)) R 0 (.int .i64 0) (.int .i64 0) (.string ⟨#[]⟩) (.slice none 0 0) (.slice none 0 0) := ⟨_, rfl⟩
      change bodyPost _ _ _ _ _ (set5 (w2.alloc (.cells #[.int .i64 k, .int .i64 n, .string t, .slice A a b, .slice A' a' b'] 28)) R 0 (.int .i64 0) (.int .i64 0) (.string ⟨#[]⟩) (.slice none 0 0) (.slice none 0 0))
      rw [← hwf]
      have hx9 : wf.heap[R]? = some (.cells #[.int .i64 0, .int .i64 0, .string ⟨#[]⟩, .slice none 0 0, .slice none 0 0] 28 (0, 0)) := by rw [hwf]; exact set5_here R3.out
      have hbf : Below R w wf := by rw [hwf]; exact BW3.out.trans (set5_below (Nat.le_refl _))
      obtain ⟨⟨x0, x1, x2, x3, x4⟩, -⟩ := box_of hx9
      have HBF := Lib.hid hbf
      clear hbf hwf hx9 e0 e1 e2 e3 e4 f0 f1 f2 f3 f4
      refine bodyPost_ret (v := .tuple #[.agg #[.int .i64 0, .int .i64 0, .string ⟨#[]⟩, .slice none 0 0, .slice none 0 0], .int .i64 2]) (by simp [results, Tryd.results24, go_sem, x0, x1, x2, x3, x4]) rfl ?_
      exact ⟨⟨[_, _, _, _, _], rfl, zero_cells _ _ _⟩, by rw [HR.out]; exact HBF.out⟩
    | some y =>
      obtain ⟨x, r⟩ := y
      obtain ⟨hok1, hok2, hx⟩ := hok
      subst hok1; subst hok2
      cases rest with
      | cons c rest =>
        have e : PV = (V.zero, 2) := HPV.out.symm
        subst e
        go_wp2_with fail
        obtain ⟨wf, hwf⟩ : ∃ wf, wf = set5 (w2.alloc (.cells #[.int .i64 k, .int .i64 n, .string t, .slice A a b, .slice A' a' b'] 28)) R 0 (.int .i64 0) (.int .i64 0) (.string ⟨#[]⟩) (.slice none 0 0) (.slice none 0 0) := ⟨_, rfl⟩
        change bodyPost _ _ _ _ _ (set5 (w2.alloc (.cells #[.int .i64 k, .int .i64 n, .string t, .slice A a b, .slice A' a' b'] 28)) R 0 (.int .i64 0) (.int .i64 0) (.string ⟨#[]⟩) (.slice none 0 0) (.slice none 0 0))
        rw [← hwf]
        have hx9 : wf.heap[R]? = some (.cells #[.int .i64 0, .int .i64 0, .string ⟨#[]⟩, .slice none 0 0, .slice none 0 0] 28 (0, 0)) := by rw [hwf]; exact set5_here R3.out
        have hbf : Below R w wf := by rw [hwf]; exact BW3.out.trans (set5_below (Nat.le_refl _))
        obtain ⟨⟨x0, x1, x2, x3, x4⟩, -⟩ := box_of hx9
        have HBF := Lib.hid hbf
        clear hbf hwf hx9 e0 e1 e2 e3 e4 f0 f1 f2 f3 f4
        refine bodyPost_ret (v := .tuple #[.agg #[.int .i64 0, .int .i64 0, .string ⟨#[]⟩, .slice none 0 0, .slice none 0 0], .int .i64 2]) (by simp [results, Tryd.results24, go_sem, x0, x1, x2, x3, x4]) rfl ?_
        exact ⟨⟨[_, _, _, _, _], rfl, zero_cells _ _ _⟩, by rw [HR.out]; exact HBF.out⟩
      | nil =>
        have hx3 : VIs (w2.alloc (.cells #[.int .i64 k, .int .i64 n, .string t, .slice A a b, .slice A' a' b'] 28)) W1.heap.size (w2.alloc (.cells #[.int .i64 k, .int .i64 n, .string t, .slice A a b, .slice A' a' b'] 28)).heap.size x [.int .i64 k, .int .i64 n, .string t, .slice A a b, .slice A' a' b'] := (hx.below ((Below.refl w2.heap.size w2).alloc (Nat.le_refl _) (.cells #[.int .i64 k, .int .i64 n, .string t, .slice A a b, .slice A' a' b'] 28))).more (Nat.le_refl _) (by simp)
        have h53 : Five (w2.alloc (.cells #[.int .i64 k, .int .i64 n, .string t, .slice A a b, .slice A' a' b'] 28)) w2.heap.size 0 [.int .i64 k, .int .i64 n, .string t, .slice A a b, .slice A' a' b'] := five_new hx 28
        have hfit := fits_any x (w2.alloc (.cells #[.int .i64 k, .int .i64 n, .string t, .slice A a b, .slice A' a' b'] 28)) W1.heap.size (w2.alloc (.cells #[.int .i64 k, .int .i64 n, .string t, .slice A a b, .slice A' a' b'] 28)).heap.size w2.heap.size 0 _ h53 (by simp) hx3 (Nat.le_refl _)
        have hG : PV = if x.good then (if x.depth ≤ 8 then (x, 0) else (V.zero, 4)) else (V.zero, 2) := HPV.out.symm
        have hs3 : (w2.alloc (.cells #[.int .i64 k, .int .i64 n, .string t, .slice A a b, .slice A' a' b'] 28)).heap.size = w2.heap.size + 1 := by simp
        have hwit : ∀ w4, Below (w2.alloc (.cells #[.int .i64 k, .int .i64 n, .string t, .slice A a b, .slice A' a' b'] 28)).heap.size (w2.alloc (.cells #[.int .i64 k, .int .i64 n, .string t, .slice A a b, .slice A' a' b'] 28)) w4 → Calls Tryd.prog 33 #[.pointer (some ⟨w2.heap.size, 0, none⟩), .int .i64 8] w4 fun e w' => e = .returned (.bool (decide (x.depth ≤ 8))) ∧ Below w4.heap.size w4 w' := fun w4 hb =>
          within_any x 8 w4 W1.heap.size (w2.alloc (.cells #[.int .i64 k, .int .i64 n, .string t, .slice A a b, .slice A' a' b'] 28)).heap.size w2.heap.size 0 _ (by decide) (h53.keep (by rw [hs3]; omega) fun z hz => hb.cell hz) (by simp) (hx3.below hb) hb.size
        cases hg : x.good with
        | false =>
          rw [hg] at hG hfit
          have e : PV = (V.zero, 2) := hG
          subst e
          have FIT := Lib.hid hfit
          clear hfit hwit hG hx3 h53 hx hg HPV hs3
          go_wp2_with fail
          refine (FIT.out).mono ?_
          rintro e4 w4 ⟨rfl, hb4⟩
          dsimp only
          have r4 := (hb4.block R (by have := Z1.out; simp; omega)).trans R3.out
          have bw4 := BW3.out.trans (hb4.mono (by have := Z1.out; simp; omega))
          have R4 := Lib.hid r4; have BW4 := Lib.hid bw4
          clear e0 e1 e2 e3 e4 f0 f1 f2 f3 f4 r4 bw4
          obtain ⟨⟨e0, e1, e2, e3, e4⟩, f0, f1, f2, f3, f4⟩ := box_of R4.out
          go_wp2_with fail
          obtain ⟨wf, hwf⟩ : ∃ wf, wf = set5 (w4) R 0 (.int .i64 0) (.int .i64 0) (.string ⟨#[]⟩) (.slice none 0 0) (.slice none 0 0) := ⟨_, rfl⟩
          change bodyPost _ _ _ _ _ (set5 (w4) R 0 (.int .i64 0) (.int .i64 0) (.string ⟨#[]⟩) (.slice none 0 0) (.slice none 0 0))
          rw [← hwf]
          have hx9 : wf.heap[R]? = some (.cells #[.int .i64 0, .int .i64 0, .string ⟨#[]⟩, .slice none 0 0, .slice none 0 0] 28 (0, 0)) := by rw [hwf]; exact set5_here R4.out
          have hbf : Below R w wf := by rw [hwf]; exact BW4.out.trans (set5_below (Nat.le_refl _))
          obtain ⟨⟨x0, x1, x2, x3, x4⟩, -⟩ := box_of hx9
          have HBF := Lib.hid hbf
          clear hbf hwf hx9 e0 e1 e2 e3 e4 f0 f1 f2 f3 f4
          refine bodyPost_ret (v := .tuple #[.agg #[.int .i64 0, .int .i64 0, .string ⟨#[]⟩, .slice none 0 0, .slice none 0 0], .int .i64 2]) (by simp [results, Tryd.results24, go_sem, x0, x1, x2, x3, x4]) rfl ?_
          exact ⟨⟨[_, _, _, _, _], rfl, zero_cells _ _ _⟩, by rw [HR.out]; exact HBF.out⟩
        | true =>
          rw [hg] at hG hfit
          have FIT := Lib.hid hfit
          have HWIT := Lib.hid hwit; have HG := Lib.hid hG; have HX3 := Lib.hid hx3; have H53 := Lib.hid h53
          clear hfit hwit hG hx3 h53 hx hg HPV hs3
          go_wp2_with fail
          refine (FIT.out).mono ?_
          rintro e4 w4 ⟨rfl, hb4⟩
          dsimp only
          have hb44 := hb4
          have r4 := (hb4.block R (by have := Z1.out; simp; omega)).trans R3.out
          have bw4 := BW3.out.trans (hb4.mono (by have := Z1.out; simp; omega))
          have R4 := Lib.hid r4; have BW4 := Lib.hid bw4
          have hwi4 := HWIT.out w4 hb4
          have z4 := hb4.size
          simp only [World.size_alloc] at z4
          have h54 : Five w4 w2.heap.size 0 [.int .i64 k, .int .i64 n, .string t, .slice A a b, .slice A' a' b'] := H53.out.keep (by simp) fun z hz => hb4.cell hz
          have hx4 := HX3.out.below hb4
          clear e0 e1 e2 e3 e4 f0 f1 f2 f3 f4 r4 bw4 hb44 hb4
          by_cases hd : x.depth ≤ 8
          · rw [decide_eq_true hd] at hwi4
            have e : PV = (x, 0) := HG.out.trans (by rw [if_pos trivial, if_pos hd])
            subst e
            have HWI4 := Lib.hid hwi4; have H54 := Lib.hid h54; have HX4 := Lib.hid hx4
            clear hwi4 h54 hx4 hd HWIT FIT HG
            go_wp2_with fail
            refine (HWI4.out).mono ?_
            rintro e5 w5 ⟨rfl, hb5⟩
            dsimp only
            have hz1 := Z1.out
            have hz5 := hb5.size
            have r5 := (hb5.block R (by omega)).trans R4.out
            have bw5 := BW4.out.trans (hb5.mono (by omega))
            have h55 : Five w5 w2.heap.size 0 [.int .i64 k, .int .i64 n, .string t, .slice A a b, .slice A' a' b'] := H54.out.keep (N := w4.heap.size) (by omega) fun z hz => hb5.cell hz
            have hx5 := HX4.out.below (hb5.mono (by simp; omega))
            obtain ⟨d0, d1, d2, d3, d4, hd, m0, m1, m2, m3, m4⟩ := h55
            injection hd with i0 hd; injection hd with i1 hd; injection hd with i2 hd; injection hd with i3 hd; injection hd with i4 hd
            subst i0; subst i1; subst i2; subst i3; subst i4
            obtain ⟨⟨e0, e1, e2, e3, e4⟩, f0, f1, f2, f3, f4⟩ := box_of r5
            have R5 := Lib.hid r5; have BW5 := Lib.hid bw5; have HX5 := Lib.hid hx5; have HZ1 := Lib.hid hz1; have HZ5 := Lib.hid hz5; have Z4 := Lib.hid z4
            clear r5 bw5 hx5 hb5 hd hz1 hz5 z4
            go_wp2_with fail
            obtain ⟨wf, hwf⟩ : ∃ wf, wf = set5 w5 R 0 (.int .i64 k) (.int .i64 n) (.string t) (.slice A a b) (.slice A' a' b') := ⟨_, rfl⟩
            change bodyPost _ _ _ _ _ (set5 w5 R 0 (.int .i64 k) (.int .i64 n) (.string t) (.slice A a b) (.slice A' a' b'))
            rw [← hwf]
            have hx9 : wf.heap[R]? = some (.cells #[.int .i64 k, .int .i64 n, .string t, .slice A a b, .slice A' a' b'] 28 (0, 0)) := by rw [hwf]; exact set5_here R5.out
            have hbf : Below R w wf := by rw [hwf]; exact BW5.out.trans (set5_below (Nat.le_refl _))
            have hvf : VIs wf w.heap.size wf.heap.size x [.int .i64 k, .int .i64 n, .string t, .slice A a b, .slice A' a' b'] := by
              have hsf : wf.heap.size = w5.heap.size := by rw [hwf, set5_size]
              rw [hsf]
              have hz1 := HZ1.out; have hrr := HR.out; have hz5 := HZ5.out; have z4 := Z4.out
              refine (HX5.out.keep2 fun q h1 h2 => ?_).more (by omega) (by simp; omega)
              have hne : q.block ≠ R := by omega
              exact World.cell?_of_block (w := w5) (by rw [hwf]; exact set5_there hne)
            obtain ⟨⟨x0, x1, x2, x3, x4⟩, -⟩ := box_of hx9
            have HBF := Lib.hid hbf; have HVF := Lib.hid hvf
            clear hbf hwf hx9 hvf e0 e1 e2 e3 e4 f0 f1 f2 f3 f4 m0 m1 m2 m3 m4
            refine bodyPost_ret (v := .tuple #[.agg #[.int .i64 k, .int .i64 n, .string t, .slice A a b, .slice A' a' b'], .int .i64 0]) (by simp [results, Tryd.results24, go_sem, x0, x1, x2, x3, x4]) rfl ?_
            exact ⟨⟨[_, _, _, _, _], rfl, HVF.out⟩, by rw [HR.out]; exact HBF.out⟩
          · rw [decide_eq_false hd] at hwi4
            have e : PV = (V.zero, 4) := HG.out.trans (by rw [if_pos trivial, if_neg hd])
            subst e
            have HWI4 := Lib.hid hwi4
            clear hwi4 h54 hx4 hd HWIT FIT HG
            go_wp2_with fail
            refine (HWI4.out).mono ?_
            rintro e5 w5 ⟨rfl, hb5⟩
            dsimp only
            have r5 := (hb5.block R (by have := Z1.out; omega)).trans R4.out
            have bw5 := BW4.out.trans (hb5.mono (by have := Z1.out; omega))
            obtain ⟨⟨e0, e1, e2, e3, e4⟩, f0, f1, f2, f3, f4⟩ := box_of r5
            have R5 := Lib.hid r5; have BW5 := Lib.hid bw5
            clear r5 bw5 hb5
            go_wp2_with fail
            obtain ⟨wf, hwf⟩ : ∃ wf, wf = set5 (w5) R 0 (.int .i64 0) (.int .i64 0) (.string ⟨#[]⟩) (.slice none 0 0) (.slice none 0 0) := ⟨_, rfl⟩
            change bodyPost _ _ _ _ _ (set5 (w5) R 0 (.int .i64 0) (.int .i64 0) (.string ⟨#[]⟩) (.slice none 0 0) (.slice none 0 0))
            rw [← hwf]
            have hx9 : wf.heap[R]? = some (.cells #[.int .i64 0, .int .i64 0, .string ⟨#[]⟩, .slice none 0 0, .slice none 0 0] 28 (0, 0)) := by rw [hwf]; exact set5_here R5.out
            have hbf : Below R w wf := by rw [hwf]; exact BW5.out.trans (set5_below (Nat.le_refl _))
            obtain ⟨⟨x0, x1, x2, x3, x4⟩, -⟩ := box_of hx9
            have HBF := Lib.hid hbf
            clear hbf hwf hx9 e0 e1 e2 e3 e4 f0 f1 f2 f3 f4
            refine bodyPost_ret (v := .tuple #[.agg #[.int .i64 0, .int .i64 0, .string ⟨#[]⟩, .slice none 0 0, .slice none 0 0], .int .i64 4]) (by simp [results, Tryd.results24, go_sem, x0, x1, x2, x3, x4]) rfl ?_
            exact ⟨⟨[_, _, _, _, _], rfl, zero_cells _ _ _⟩, by rw [HR.out]; exact HBF.out⟩
end Go.Proofs.YtcbajbpdgmmaeaaDoor
