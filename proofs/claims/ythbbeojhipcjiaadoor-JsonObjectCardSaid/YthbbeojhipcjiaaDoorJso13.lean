/- Texts merged by program, in build order: JsonGroupO, JsonWrite. -/
import Derived.Test.YthbbeojhipcjiaaDoorJso05
import Derived.Test.YthbbeojhipcjiaaDoorJso03
import Derived.Test.YthbbeojhipcjiaaDoorJso02
import Derived.Lib.AppendIntMem
namespace Go.Proofs.YthbbeojhipcjiaaDoor
open Go.RowKit
set_option linter.unusedVariables false
set_option linter.unusedSimpArgs false

theorem quotedC_len {s t r : List UInt8} (h : quotedC s = some (t, r)) : t.length ≤ s.length ∧ r.length < s.length := by
  have e := quotedC_only h
  have h1 := quoteJ_len t; have h2 := qL_ge t
  have h3 := congrArg List.length e
  rw [List.length_append] at h3
  constructor <;> omega
theorem groupC_obj (f : Nat) (s : List UInt8) (ks : List (List UInt8)) (l : List V) : groupC (f + 1) true s ks l = (match quotedC s with
    | none => none
    | some (t, r0) => if beginsB r0 [58] then (match valueC f (r0.drop 1) with
      | none => none
      | some (x, r) => if beginsB r [44] then groupC f true (r.drop 1) (ks ++ [t]) (l ++ [x]) else if beginsB r [125] then some (.mk 6 0 [] (l ++ [x]) (ks ++ [t]), r.drop 1) else none) else none) := by
  conv => lhs; unfold groupC
  simp only [if_true]
  cases quotedC s with
  | none => rfl
  | some y =>
    obtain ⟨t, r0⟩ := y
    dsimp only
    cases beginsB r0 [58] with
    | true => rfl
    | false => rfl
set_option maxRecDepth 100000 in
set_option maxHeartbeats 20000000 in
theorem groupObj (B m : Nat) (ih : ∀ f s, f ≤ m → s.length ≤ 4096 → 2 * s.length + 1 ≤ f → ValueSays B f s) (f : Nat) (s : List UInt8) (hf : f ≤ m + 1) (hs : s.length ≤ 4096) (hfs : 2 * s.length + 2 ≤ f) : GroupSays B f true s := by
  intro w hk hB
  show Calls Tryd.prog 53 #[.string ⟨s.toArray⟩, .int .i64 6, .string ⟨#[125]⟩] w _
  have hcp : ∀ w, Calls Tryd.prog 73 #[.string ⟨s.toArray⟩, .string ⟨#[125]⟩] w fun e w' => e = .returned (.tuple #[.string ⟨(if beginsB s [125] then s.drop 1 else s).toArray⟩, .bool (beginsB s [125])]) ∧ w' = w := fun w => cutPrefix_any s [125] w
  obtain ⟨GA, hGA⟩ : ∃ GA, groupA f true s = GA := ⟨_, rfl⟩
  rw [hGA]
  cases hb : beginsB s [125] with
  | true =>
    rw [hb] at hcp
    have e : GA = some (.mk 6 0 [] [] [], s.drop 1) := hGA.symm.trans (by unfold groupA; exact if_pos hb)
    subst e
    have HCP := Lib.hid hcp; clear hcp hGA hb ih hk
    go_enter Tryd.func53, Tryd.ntmps53
    go_wp2_with (go_at_call 73; refine (HCP.out _).mono ?_; rintro e1 w1 ⟨rfl, rfl⟩)
    refine bodyPost_ret (v := .tuple #[.agg #[.int .i64 6, .int .i64 0, .string ⟨#[]⟩, .slice none 0 0, .slice none 0 0], .string ⟨(s.drop 1).toArray⟩, .bool true]) (by simp [results, Tryd.results53, go_sem]) rfl ?_
    refine ⟨⟨_, _, _, _, _, _, _, _, _, _, _, rfl, rfl, rfl, ?_⟩, ((Below.refl _ _).alloc (Nat.le_refl _) _).alloc (by simp) _⟩
    exact VIs.mk (t := []) (l := []) (ks := []) ⟨by simp, by simp, by simp, by simp⟩ (.inl rfl) (.inl rfl)
  | false =>
    rw [hb] at hcp
    obtain ⟨i0, hi, hz0, hz1, hz2⟩ := info_parts Tryd.infoVal
    obtain ⟨j0, hj, hy0, hy1, hy2⟩ := info_parts Tryd.infoStrG
    have e : GA = groupC f true s [] [] := hGA.symm.trans (by unfold groupA; exact if_neg (by rw [if_pos rfl]; simp [hb]))
    have EG := Lib.hid e
    obtain ⟨R, hR⟩ : ∃ R, w.heap.size = R := ⟨_, rfl⟩
    obtain ⟨W2, hW2⟩ : ∃ W2, W2 = ((w.alloc (.cells #[.int .i64 0, .int .i64 0, .string ⟨#[]⟩, .slice none 0 0, .slice none 0 0] 28)).alloc (.cells #[.int .i64 6, .int .i64 0, .string ⟨#[]⟩, .slice none 0 0, .slice none 0 0] 28)) := ⟨_, rfl⟩
    have gst : GSt R 6 w W2 (.slice none 0 0) (.slice none 0 0) [] [] [] := by
      refine ⟨?_, ?_, ⟨rfl, .inl ⟨rfl, rfl⟩⟩, ⟨rfl, .inl ⟨rfl, rfl⟩⟩, fun i hi => absurd hi (Nat.not_lt_zero _), ?_, ?_⟩
      · rw [hW2, ← hR]
        have := heap_alloc_last (w.alloc (.cells #[.int .i64 0, .int .i64 0, .string ⟨#[]⟩, .slice none 0 0, .slice none 0 0] 28)) (.cells #[.int .i64 6, .int .i64 0, .string ⟨#[]⟩, .slice none 0 0, .slice none 0 0] 28)
        simpa using this
      · rw [hW2, ← hR, Below.heap_alloc _ _ _ (by simp)]; exact heap_alloc_last w _
      · rw [hW2, ← hR]; exact ((Below.refl _ _).alloc (Nat.le_refl _) _).alloc (by simp) _
      · rw [hW2, ← hR]; simp
    have HCP := Lib.hid hcp; have GST := Lib.hid gst; have HR := Lib.hid hR; have HW2 := Lib.hid hW2; have HK := Lib.hid hk; have IH := Lib.hid ih
    clear hcp hGA hb ih hk gst hR hW2 e
    go_enter Tryd.func53, Tryd.ntmps53
    go_wp2_with (go_at_call 73; refine (HCP.out _).mono ?_; rintro e1 w1 ⟨rfl, rfl⟩)
    rw [← HW2.out]
    go_loopw [0] (fun sv wr => ∃ (s1 : List UInt8) (l : List V) (lv : Value) (xs : List Value) (ks : List (List UInt8)) (kv : Value) (f1 : Nat), sv = .string ⟨s1.toArray⟩ ∧ s1.length + l.length ≤ 4096 ∧ ks.length = l.length ∧ (∀ z ∈ ks, z.length ≤ 4096) ∧ f1 ≤ f ∧ 2 * s1.length + 2 ≤ f1 ∧ groupC f1 true s1 ks l = GA ∧ GSt R 6 w wr lv kv l ks xs) (fun sv _ => strLen sv)
    case atStart => exact ⟨s, [], _, [], [], _, f, rfl, by simp; omega, rfl, by simp, Nat.le_refl _, hfs, EG.out.symm, GST.out⟩
    case round =>
      obtain ⟨s1, l, lv, xs, ks, kv, f1, rfl, hsl, hkl, hkz, hf1, hf2, hG, gst⟩ := hrel
      obtain ⟨f2, rfl⟩ : ∃ f2, f1 = f2 + 1 := ⟨f1 - 1, by omega⟩
      rw [groupC_obj] at hG
      have hR := HR.out
      have hsz := gst.size
      have hqn := fun w => quoted_any ⟨s1.toArray⟩ (by rw [str_sizeL]; omega) w
      simp only [toListS] at hqn
      have GS := Lib.hid gst; have HKZ := Lib.hid hkz; have HKL := Lib.hid hkl
      have hkm : ks.length ≤ 4096 := by omega
      clear hkl
      cases hq : quotedC s1 with
      | none =>
        rw [hq] at hG
        have hqr : quotedR s1 = ([], [], false) := by unfold quotedR; rw [hq]
        rw [hqr] at hqn
        have e : GA = none := hG.symm
        subst e
        have HQN := Lib.hid hqn; clear hqn hG hq hqr hR gst hkz
        go_wp2_with fail
        refine (HQN.out _).mono ?_
        rintro e2 w2 ⟨rfl, hb2⟩
        dsimp only
        have g2 := GS.out.later hb2
        obtain ⟨⟨e0, e1, e2, e3, e4⟩, f0, f1, f2', f3, f4⟩ := box_of g2.res
        have G2 := Lib.hid g2; clear g2
        rw [HR.out]
        go_wp2_with fail
        obtain ⟨wf, hwf⟩ : ∃ wf, wf = set5 (w2) R 0 (.int .i64 0) (.int .i64 0) (.string ⟨#[]⟩) (.slice none 0 0) (.slice none 0 0) := ⟨_, rfl⟩
        change bodyPost _ _ _ _ _ (set5 (w2) R 0 (.int .i64 0) (.int .i64 0) (.string ⟨#[]⟩) (.slice none 0 0) (.slice none 0 0))
        rw [← hwf]
        have hx : wf.heap[R]? = some (.cells #[.int .i64 0, .int .i64 0, .string ⟨#[]⟩, .slice none 0 0, .slice none 0 0] 28 (0, 0)) := by rw [hwf]; exact set5_here (G2.out).res
        have hbf : Below R w wf := by rw [hwf]; exact (G2.out).low.trans (set5_below (Nat.le_refl _))
        obtain ⟨⟨x0, x1, x2, x3, x4⟩, -⟩ := box_of hx
        have HBF := Lib.hid hbf
        clear hbf hwf hx e0 e1 e2 e3 e4 f0 f1 f2' f3 f4
        refine bodyPost_ret (v := .tuple #[.agg #[.int .i64 0, .int .i64 0, .string ⟨#[]⟩, .slice none 0 0, .slice none 0 0], .string ⟨#[]⟩, .bool false]) (by simp [results, Tryd.results53, go_sem, x0, x1, x2, x3, x4]) rfl ?_
        exact ⟨⟨_, _, _, _, _, _, _, _, _, [], _, rfl, rfl⟩, by rw [HR.out]; exact HBF.out⟩
      | some y =>
        obtain ⟨kt, r0⟩ := y
        rw [hq] at hG
        have hqr : quotedR s1 = (kt, r0, true) := by unfold quotedR; rw [hq]
        rw [hqr] at hqn
        obtain ⟨hkt, hr0⟩ := quotedC_len hq
        obtain ⟨S0, hS0⟩ : ∃ S0 : ByteArray, S0 = ⟨r0.toArray⟩ := ⟨_, rfl⟩
        have hS0l : S0.size = r0.length := by rw [hS0, str_sizeL]
        have hS0d : S0.data.toList = r0 := by rw [hS0, toListS]
        dsimp only at hqn
        rw [← hS0] at hqn
        have hhp := fun w => Tryd.strings_HasPrefix S0 ⟨#[58]⟩ w
        simp only [hasPrefix_begins] at hhp
        rw [hS0d] at hhp
        cases h58 : beginsB r0 [58] with
        | false =>
          rw [show beginsB r0 (⟨#[58]⟩ : ByteArray).data.toList = false from h58] at hhp
          dsimp only at hG
          rw [h58] at hG
          have e : GA = none := hG.symm
          subst e
          have HQN := Lib.hid hqn; have HHP := Lib.hid hhp; clear hqn hG hq hqr hR gst hkz hhp hS0 hS0d h58
          go_wp2_with fail
          refine (HQN.out _).mono ?_
          rintro e2 w2 ⟨rfl, hb2⟩
          dsimp only
          have g2 := GS.out.later hb2
          obtain ⟨⟨e0, e1, e2, e3, e4⟩, f0, f1, f2', f3, f4⟩ := box_of g2.res
          have G2 := Lib.hid g2; clear g2
          rw [HR.out]
          go_wp2_with (go_at_call 51; refine (HHP.out _).mono ?_; rintro e3 w3 ⟨rfl, rfl⟩)
          obtain ⟨wf, hwf⟩ : ∃ wf, wf = set5 (w3) R 0 (.int .i64 0) (.int .i64 0) (.string ⟨#[]⟩) (.slice none 0 0) (.slice none 0 0) := ⟨_, rfl⟩
          change bodyPost _ _ _ _ _ (set5 (w3) R 0 (.int .i64 0) (.int .i64 0) (.string ⟨#[]⟩) (.slice none 0 0) (.slice none 0 0))
          rw [← hwf]
          have hx : wf.heap[R]? = some (.cells #[.int .i64 0, .int .i64 0, .string ⟨#[]⟩, .slice none 0 0, .slice none 0 0] 28 (0, 0)) := by rw [hwf]; exact set5_here (G2.out).res
          have hbf : Below R w wf := by rw [hwf]; exact (G2.out).low.trans (set5_below (Nat.le_refl _))
          obtain ⟨⟨x0, x1, x2, x3, x4⟩, -⟩ := box_of hx
          have HBF := Lib.hid hbf
          clear hbf hwf hx e0 e1 e2 e3 e4 f0 f1 f2' f3 f4
          refine bodyPost_ret (v := .tuple #[.agg #[.int .i64 0, .int .i64 0, .string ⟨#[]⟩, .slice none 0 0, .slice none 0 0], .string ⟨#[]⟩, .bool false]) (by simp [results, Tryd.results53, go_sem, x0, x1, x2, x3, x4]) rfl ?_
          exact ⟨⟨_, _, _, _, _, _, _, _, _, [], _, rfl, rfl⟩, by rw [HR.out]; exact HBF.out⟩
        | true =>
          rw [show beginsB r0 (⟨#[58]⟩ : ByteArray).data.toList = true from h58] at hhp
          dsimp only at hG
          rw [h58, if_pos rfl] at hG
          have hr1 : 1 ≤ r0.length := by
            have := congrArg List.length (begins_one h58)
            simp at this; omega
          have hr1' : 1 ≤ S0.size := by omega
          have hex : S0.extract 1 S0.size = ⟨(r0.drop 1).toArray⟩ := by rw [extS, hS0d]
          have hdl : (r0.drop 1).length = r0.length - 1 := by rw [List.length_drop]
          obtain ⟨r1, hr1e⟩ : ∃ r1, r0.drop 1 = r1 := ⟨_, rfl⟩
          rw [hr1e] at hex hG hdl
          have hlow := gst.low
          have hvs := IH.out f2 r1 (by omega) (by omega) (by omega)
          have HQN := Lib.hid hqn; have HHP := Lib.hid hhp; have HEX := Lib.hid hex; have HG0 := Lib.hid hG; have HVS := Lib.hid hvs
          clear hqn hG hq hqr hR gst hkz hhp hS0 hS0d h58 hex hr1e hvs hlow hS0l
          go_wp2_with fail
          refine (HQN.out _).mono ?_
          rintro e2 w2 ⟨rfl, hb2⟩
          dsimp only
          obtain ⟨IT, hIT⟩ : ∃ IT, IT = Obj.cells #[.string ⟨kt.toArray⟩] 9 := ⟨_, rfl⟩
          have g3 := GS.out.later hb2
          have g4 := GS.out.later (hb2.alloc hb2.size IT)
          have hzw := hb2.size
          rw [hIT] at g4
          obtain ⟨⟨e0, e1, e2, e3, e4⟩, f0, f1, f2', f3, f4⟩ := box_of g3.var
          have G4 := Lib.hid g4; have HB2 := Lib.hid hb2
          clear g3 g4 hb2 hIT
          rw [HR.out]
          go_wp2_with (first
            | (go_at_call 51; refine (HHP.out _).mono ?_; rintro e3 w3 ⟨rfl, rfl⟩)
            | (at_builtin; go_loud (refine wpList_append_own_at _ rfl (.tmp 46) (.tmp 48) 26 rfl (R + 2) 9 j0 _ 1 16 Tryd.underlying26 hj hy0 hy1 hy2 rfl (by decide) _ _ _ rfl G4.out.rowK ⟨_, 0, none⟩ 1 1 [.string ⟨kt.toArray⟩] rfl rfl (new_cells _ #[_] _) (by intro u hu; simp at hu; subst hu; rfl) (by unfold maxLen; omega) (by omega) (by simp; omega) ?_; intro v5 w5 hown hgrow hnil hat; obtain ⟨KA, kc, rfl⟩ := own_form hown; obtain ⟨⟨p0, p1, p2, p3, p4⟩, q0, q1, q2, q3, q4⟩ := box_of (G4.out.varK hgrow))))
          have g6 := G4.out.key kt hown hgrow hat
          obtain ⟨w6, hw6⟩ : ∃ w6, w6 = w5.setCell ⟨R + 1, 4, none⟩ (.slice KA (ks.length + 1) kc) := ⟨_, rfl⟩
          rw [← hw6] at g6 ⊢
          clear hw6 e0 e1 e2 e3 e4 f0 f1 f2' f3 f4 p0 p1 p2 p3 p4 q0 q1 q2 q3 q4 hown hgrow hnil hat hzw
          rw [HEX.out]
          have hR := HR.out
          have hval := HVS.out w6 (HK.out.below (g6.low.mono (by omega))) (by have := g6.size; omega)
          have hsz6 := g6.size
          have hG := HG0.out
          have GS6 := Lib.hid g6
          clear g6 hR HVS HG0 HQN HHP HEX
          have hkz6 : Hid (∀ z ∈ ks ++ [kt], z.length ≤ 4096) := Lib.hid (fun z hz => by
            rcases List.mem_append.1 hz with h | h
            · exact HKZ.out z h
            · simp at h; subst h; omega)
          cases hv : valueC f2 r1 with
          | none =>
            rw [hv] at hG hval
            have e : GA = none := hG.symm
            subst e
            have HV := Lib.hid hval; clear hG hval hv
            refine (HV.out).mono ?_
            rintro e2 w2 ⟨⟨k, n, t, A, a, b, A', a', b', rest, ok, rfl, hok⟩, hb2⟩
            subst hok
            dsimp only
            have hb3 := hb2.alloc hb2.size (.cells #[.int .i64 k, .int .i64 n, .string t, .slice A a b, .slice A' a' b'] 28)
            have g2 := GS6.out.later hb3
            obtain ⟨⟨e0, e1, e2, e3, e4⟩, f0, f1, f2', f3, f4⟩ := box_of g2.res
            have G2 := Lib.hid g2; clear g2 hb3
            go_wp2_with fail
            have g2 := G2.out
            obtain ⟨wf, hwf⟩ : ∃ wf, wf = set5 (w2.alloc (.cells #[.int .i64 k, .int .i64 n, .string t, .slice A a b, .slice A' a' b'] 28)) R 0 (.int .i64 0) (.int .i64 0) (.string ⟨#[]⟩) (.slice none 0 0) (.slice none 0 0) := ⟨_, rfl⟩
            change bodyPost _ _ _ _ _ (set5 (w2.alloc (.cells #[.int .i64 k, .int .i64 n, .string t, .slice A a b, .slice A' a' b'] 28)) R 0 (.int .i64 0) (.int .i64 0) (.string ⟨#[]⟩) (.slice none 0 0) (.slice none 0 0))
            rw [← hwf]
            have hx : wf.heap[R]? = some (.cells #[.int .i64 0, .int .i64 0, .string ⟨#[]⟩, .slice none 0 0, .slice none 0 0] 28 (0, 0)) := by rw [hwf]; exact set5_here g2.res
            have hbf : Below R w wf := by rw [hwf]; exact g2.low.trans (set5_below (Nat.le_refl _))
            obtain ⟨⟨x0, x1, x2, x3, x4⟩, -⟩ := box_of hx
            have HBF := Lib.hid hbf
            clear hbf hwf hx e0 e1 e2 e3 e4 f0 f1 f2' f3 f4 g2
            refine bodyPost_ret (v := .tuple #[.agg #[.int .i64 0, .int .i64 0, .string ⟨#[]⟩, .slice none 0 0, .slice none 0 0], .string ⟨#[]⟩, .bool false]) (by simp [results, Tryd.results53, go_sem, x0, x1, x2, x3, x4]) rfl ?_
            exact ⟨⟨_, _, _, _, _, _, _, _, _, [], _, rfl, rfl⟩, by rw [HR.out]; exact HBF.out⟩
          | some y =>
            obtain ⟨x, r⟩ := y
            have hlen := valueC_len hv
            rw [hv] at hval
            have hG2 : (if beginsB r [44] then groupC f2 true (r.drop 1) (ks ++ [kt]) (l ++ [x]) else if beginsB r [125] then some (.mk 6 0 [] (l ++ [x]) (ks ++ [kt]), r.drop 1) else none) = GA := by rw [hv] at hG; exact hG
            have hc44 : ∀ w, Calls Tryd.prog 73 #[.string ⟨r.toArray⟩, .string ⟨#[44]⟩] w fun e w' => e = .returned (.tuple #[.string ⟨(if beginsB r [44] then r.drop 1 else r).toArray⟩, .bool (beginsB r [44])]) ∧ w' = w := fun w => cutPrefix_any r [44] w
            have hc93 : ∀ w, Calls Tryd.prog 73 #[.string ⟨r.toArray⟩, .string ⟨#[125]⟩] w fun e w' => e = .returned (.tuple #[.string ⟨(if beginsB r [125] then r.drop 1 else r).toArray⟩, .bool (beginsB r [125])]) ∧ w' = w := fun w => cutPrefix_any r [125] w
            obtain ⟨z44, hz44⟩ : ∃ z, beginsB r [44] = z := ⟨_, rfl⟩
            rw [hz44] at hc44 hG2
            have HG := Lib.hid hG2; have HC44 := Lib.hid hc44; have HC93 := Lib.hid hc93; have HV := Lib.hid hval; have HLEN := Lib.hid hlen; have HZ44 := Lib.hid hz44
            clear hG2 hc44 hc93 hval hG hlen hv hz44
            refine (HV.out).mono ?_
            rintro e2 w2 ⟨⟨k, n, t, A, a, b, A', a', b', rest, ok, rfl, hok, hrest, hx⟩, hb2⟩
            subst hok; subst hrest
            dsimp only
            obtain ⟨IT, hIT⟩ : ∃ IT, IT = Obj.cells #[.int .i64 k, .int .i64 n, .string t, .slice A a b, .slice A' a' b'] 28 := ⟨_, rfl⟩
            have hb3 := hb2.alloc hb2.size IT
            have g3 := GS6.out.later hb3
            have g4 := GS6.out.later (hb3.alloc hb3.size IT)
            have hx4 := hx.below (((Below.refl w2.heap.size w2).alloc (Nat.le_refl _) IT).alloc (by simp) IT)
            have hzw := hb2.size
            rw [hIT] at g3 g4 hx4 hb3
            obtain ⟨⟨e0, e1, e2, e3, e4⟩, f0, f1, f2', f3, f4⟩ := box_of g3.var
            obtain ⟨-, y0, y1, y2, y3, y4⟩ := box_of g4.var
            have G4 := Lib.hid g4; have HX4 := Lib.hid hx4; have HB3 := Lib.hid hb3
            clear g3 g4 hx4 hb3 hx hIT
            go_wp2_with (at_builtin; go_loud (refine wpList_append_own_at _ rfl (.tmp 63) (.tmp 65) 25 rfl (R + 2) 28 i0 _ 5 80 Tryd.underlying25 hi hz0 hz1 hz2 rfl (by decide) _ _ _ rfl G4.out.rowL ⟨_, 0, none⟩ 1 1 [.int .i64 k, .int .i64 n, .string t, .slice A a b, .slice A' a' b'] rfl rfl (new_cells1 _ _ #[_, _, _, _, _] _) (by intro u hu; simp at hu; rcases hu with rfl | rfl | rfl | rfl | rfl <;> rfl) (by unfold maxLen; omega) (by omega) (by simp; omega) ?_; intro v5 w5 hown hgrow hnil hat; obtain ⟨A5, c5, rfl⟩ := own_form hown; obtain ⟨⟨p0, p1, p2, p3, p4⟩, q0, q1, q2, q3, q4⟩ := box_of (G4.out.varL hgrow)))
            have g6 := G4.out.item x HX4.out hsz6 (by simp; omega) (fun g hg => by
              have h1 := GS6.out.rowL.lt g; have h2 := GS6.out.rowK.lt g
              rcases hg with hg | hg
              · have := (h1 hg).2; omega
              · have := (h2 hg).2; omega) hown hgrow hat
            obtain ⟨w6, hw6⟩ : ∃ w6, w6 = w5.setCell ⟨R + 1, 3, none⟩ (.slice A5 (l.length + 1) c5) := ⟨_, rfl⟩
            rw [← hw6] at g6 ⊢
            have G6 := Lib.hid g6
            clear g6 hw6 e0 e1 e2 e3 e4 f0 f1 f2' f3 f4 y0 y1 y2 y3 y4 p0 p1 p2 p3 p4 q0 q1 q2 q3 q4 hown hgrow hnil hat
            cases z44 with
            | true =>
              refine (HC44.out _).mono ?_
              rintro e7 w7 ⟨rfl, rfl⟩
              dsimp only
              go_wp2_with fail
              have hl7 := HLEN.out
              have hkl7 := HKL.out
              refine ⟨⟨_, ⟨rest.tail, rfl, l ++ [x], by simp; omega, _, _, ks ++ [kt], by simp; omega, hkz6.out, _, f2, by omega, by simp; omega, ?_, G6.out⟩, rfl, HR.out.symm⟩, ?_⟩
              · have h := HG.out
                rw [if_pos trivial, List.drop_one] at h
                exact h
              · show ByteArray.size ⟨rest.tail.toArray⟩ < ByteArray.size ⟨s1.toArray⟩
                rw [str_sizeL, str_sizeL, List.length_tail]; omega
            | false =>
              obtain ⟨z125, hz125⟩ : ∃ z, beginsB rest [125] = z := ⟨_, rfl⟩
              have hc93 := HC93.out
              rw [hz125] at hc93
              have HZ93 := Lib.hid hz125; have HC93' := Lib.hid hc93
              clear hz125 hc93 HC93
              obtain ⟨⟨e0, e1, e2, e3, e4⟩, f0, f1, f2', f3, f4⟩ := box_of G6.out.var
              obtain ⟨⟨p0, p1, p2, p3, p4⟩, q0, q1, q2, q3, q4⟩ := box_of G6.out.res
              obtain ⟨rs, hrs⟩ : ∃ rs, (if z125 = true then rest.drop 1 else rest) = rs := ⟨_, rfl⟩
              rw [hrs] at HC93'
              have HRS := Lib.hid hrs
              clear hrs
              cases z125
              all_goals
                refine (HC44.out _).mono ?_
                rintro e7 w7 ⟨rfl, rfl⟩
                dsimp only
                go_wp2_with (go_at_call 73; refine (HC93'.out _).mono ?_; rintro e8 w8 ⟨rfl, rfl⟩)
                obtain ⟨wf, hwf⟩ : ∃ wf, wf = set5 w8 R 0 (.int .i64 6) (.int .i64 0) (.string ⟨#[]⟩) (.slice A5 (l.length + 1) c5) (.slice KA (ks.length + 1) kc) := ⟨_, rfl⟩
                change bodyPost _ _ _ _ _ (set5 w8 R 0 (.int .i64 6) (.int .i64 0) (.string ⟨#[]⟩) (.slice A5 (l.length + 1) c5) (.slice KA (ks.length + 1) kc))
                rw [← hwf]
                have hx : wf.heap[R]? = some (.cells #[.int .i64 6, .int .i64 0, .string ⟨#[]⟩, .slice A5 (l.length + 1) c5, .slice KA (ks.length + 1) kc] 28 (0, 0)) := by rw [hwf]; exact set5_here G6.out.res
                have hbf : Below R w wf := by rw [hwf]; exact G6.out.low.trans (set5_below (Nat.le_refl _))
                have hvf : VIs wf R wf.heap.size (.mk 6 0 [] (l ++ [x]) (ks ++ [kt])) [.int .i64 6, .int .i64 0, .string ⟨#[]⟩, .slice A5 (l.length + 1) c5, .slice KA (ks.length + 1) kc] :=
                  G6.out.done (by simp; omega) (by simp; omega) (fun z hz => by have := hkz6.out z hz; omega) (fun b hb => by rw [hwf]; exact set5_there hb) (by rw [hwf, set5_size])
                obtain ⟨⟨x0, x1, x2, x3, x4⟩, -⟩ := box_of hx
                have HBF := Lib.hid hbf; have HVF := Lib.hid hvf
                clear hbf hvf hwf hx e0 e1 e2 e3 e4 f0 f1 f2' f3 f4 p0 p1 p2 p3 p4 q0 q1 q2 q3 q4
              · have e : GA = none := HG.out.symm.trans (by simp [HZ93.out])
                subst e
                refine bodyPost_ret (v := .tuple #[.agg #[.int .i64 6, .int .i64 0, .string ⟨#[]⟩, .slice A5 (l.length + 1) c5, .slice KA (ks.length + 1) kc], .string ⟨rs.toArray⟩, .bool false]) (by simp [results, Tryd.results53, go_sem, x0, x1, x2, x3, x4]) rfl ?_
                exact ⟨⟨_, _, _, _, _, _, _, _, _, _, _, rfl, rfl⟩, by rw [HR.out]; exact HBF.out⟩
              · have e : GA = some (.mk 6 0 [] (l ++ [x]) (ks ++ [kt]), rs) := HG.out.symm.trans (by rw [← HRS.out]; simp [HZ93.out])
                subst e
                refine bodyPost_ret (v := .tuple #[.agg #[.int .i64 6, .int .i64 0, .string ⟨#[]⟩, .slice A5 (l.length + 1) c5, .slice KA (ks.length + 1) kc], .string ⟨rs.toArray⟩, .bool true]) (by simp [results, Tryd.results53, go_sem, x0, x1, x2, x3, x4]) rfl ?_
                exact ⟨⟨_, _, _, _, _, _, _, _, _, _, _, rfl, rfl, rfl, by rw [HR.out]; exact HVF.out⟩, by rw [HR.out]; exact HBF.out⟩
end Go.Proofs.YthbbeojhipcjiaaDoor
namespace Go.Proofs.YthbbeojhipcjiaaDoor
open Go.RowKit

theorem formatInt_any (n : Int) (h0 : -9223372036854775808 ≤ n) (h1 : n ≤ 9223372036854775807) (w : World) (B : Nat) (hk : TabIn B w) :
    Calls Tryd.prog 60 #[.int .i64 n, .int .i64 10] w fun e w' => e = .returned (.string ⟨(decI n).toArray⟩) ∧ Below w.heap.size w w' :=
  (Tryd.strconv_FormatInt_10 n h0 h1 w hk.tab).mono fun e w' ⟨he, k, os, hw⟩ => ⟨by rw [he, itoa_dec], by rw [hw]; exact Lib.below_grow _ _ (Nat.le_refl _) _ _⟩
/-- what write does of v -/
def WriteSays (v : V) : Prop := ∀ (w : World) (B b : Nat) (acc : List UInt8) (L N p o : Nat) (cs : List Value), v.good = true → acc.length + v.show.length ≤ 140737488355328 → Bld w B b acc → B ≤ w.heap.size → Five w p o cs → p < N → VIs w L N v cs → N ≤ B → TabIn B w →
  Calls Tryd.prog 43 #[.pointer (some ⟨b, 0, none⟩), .pointer (some ⟨p, o, none⟩)] w fun e w' => e = .returned (.tuple #[]) ∧ Bld w' B b (acc ++ v.show) ∧ Below B w w'
theorem wbI (B b : Nat) (l : List UInt8) (c : UInt8) (x : Int) (hx : x = c.toNat) (w : World) (h : Bld w B b l) (hlen : l.length + 1 ≤ 140737488355328) (hBw : B ≤ w.heap.size) :
    Calls Tryd.prog 62 #[.pointer (some ⟨b, 0, none⟩), .int .u8 x] w fun e w' => e = .returned .nilIface ∧ Bld w' B b (l ++ [c]) ∧ Below B w w' :=
  (writeByteI B b l c x hx w h hlen hBw).mono fun _ _ ⟨h1, h2, h3, _⟩ => ⟨h1, h2, h3⟩
set_option maxRecDepth 100000 in
set_option maxHeartbeats 2000000 in
/-- the items of a list -/
theorem writeList (n : Int) (t : List UInt8) (l : List V) (ks : List (List UInt8)) (ih : ∀ i (h : i < l.length), WriteSays l[i]) (w : World) (B b : Nat) (acc : List UInt8) (L N p o : Nat) (cs : List Value)
    (hg : (V.mk 5 n t l ks).good = true) (hlen : acc.length + (V.items l).length ≤ 140737488355328) (h : Bld w B b acc) (hBw : B ≤ w.heap.size) (h5 : Five w p o cs) (hpN : p < N) (hv : VIs w L N (.mk 5 n t l ks) cs) (hN : N ≤ B) (hk : TabIn B w) :
    Calls Tryd.prog 63 #[.pointer (some ⟨b, 0, none⟩), .pointer (some ⟨p, o, none⟩)] w fun e w' => e = .returned (.tuple #[]) ∧ Bld w' B b (acc ++ V.items l) ∧ Below B w w' := by
  obtain ⟨⟨ml, -, -, -⟩, A, c, A', c', rfl, h1, h2⟩ := hv.out
  obtain ⟨c0, c1, c2, c3, c4, e, m0, m1, m2, m3, m4⟩ := h5
  injection e with e0 e; injection e with e1 e; injection e with e2 e; injection e with e3 e; injection e with e4 e
  subst e0; subst e1; subst e2; subst e3; subst e4
  have hpr := items_len l
  have hgi := fun i hi => good_item hg i hi
  obtain ⟨nl, hnl⟩ : ∃ nl, l.length = nl := ⟨_, rfl⟩
  have hall : V.items (l.take nl) = V.items l := by rw [← hnl, List.take_length]
  rw [hnl] at ml m3
  have NL := Lib.hid hnl; have H2 := Lib.hid h2; have PR := Lib.hid hpr; have GI := Lib.hid hgi; have IH := Lib.hid ih; have KI := Lib.hid hk; have ALL := Lib.hid hall
  obtain ⟨T, hT⟩ : ∃ T, (V.items l).length = T := ⟨_, rfl⟩
  rw [hT] at hlen PR
  have hz := items_zero l
  have HB := Lib.hid h; have HZ := Lib.hid hz
  clear hnl hv h1 h2 hpr hgi hg ih hk hall hT h hz m1 m2 m4
  go_enter Tryd.func63, Tryd.ntmps63
  go_wp2
  go_loopw [10] (fun i wr => ∃ j : Nat, j ≤ nl ∧ i = .int .i64 j ∧ Bld wr B b (acc ++ V.items (l.take j)) ∧ Below B w wr) (fun i _ => nl - (intOf i).toNat)
  case atStart => exact ⟨0, Nat.zero_le _, rfl, by rw [HZ.out, List.append_nil]; exact HB.out, Below.refl _ _⟩
  case round =>
    obtain ⟨j, hj, rfl, hb, hw⟩ := hrel
    have hs : B ≤ wr.heap.size := Nat.le_trans hBw hw.size
    have m3' := (hw.cell (p := ⟨p, o + 3, none⟩) (by show p < _; omega)).trans m3
    have m0' := (hw.cell (p := ⟨p, o, none⟩) (by show p < _; omega)).trans m0
    have BL := Lib.hid hb; clear hb
    by_cases hlt : j < nl
    · have hjl : j < l.length := by have := NL.out; omega
      obtain ⟨q, r, rfl, _, hqN, xs, hx5, hxv⟩ := VIs.item H2.out j hjl
      have hj1 := PR.out (j + 1)
      have hc := fun (ac : List UInt8) wq (hwq : Below B w wq) => IH.out j hjl wq B b ac L N q (r + j * 5) xs (GI.out j hjl)
      have hc := fun (ac : List UInt8) wq (hwq : Below B w wq) h1 h2 => hc ac wq hwq h1 h2 (Nat.le_trans hBw hwq.size) (hx5.keep hqN (fun s hs => hwq.cell (Nat.lt_of_lt_of_le hs hN))) hqN (hxv.below (hwq.mono hN)) hN (KI.out.below hwq)
      have hn0 := items_one l; have hn1 := items_next l j hjl
      have HC := Lib.hid hc; have HW := Lib.hid hw
      clear hc hx5 hxv
      by_cases h0 : 0 < j
      · have hn := hn1 h0
        have t0 : decide ((0 : Int) < j) = true := by simp; omega
        rw [hn, List.length_append, List.length_cons] at hj1
        have HN := Lib.hid hn
        clear hn hn0 hn1
        generalize l[j] = x at *
        generalize V.items (l.take j) = it at *
        have ha1 : (acc ++ it).length + 1 ≤ 140737488355328 := by rw [List.length_append]; omega
        have ha2 : ((acc ++ it) ++ [44]).length + x.show.length ≤ 140737488355328 := by rw [List.length_append, List.length_append]; simp; omega
        have A1 := Lib.hid ha1; have A2 := Lib.hid ha2; clear ha1 ha2
        go_wp2_with (first
          | (go_at_call 62; with_reducible refine (wbI B b (acc ++ it) 44 44 rfl _ BL.out A1.out hs).mono ?_; rintro e1 w1 ⟨rfl, hb1, hw1⟩; have n3 := (hw1.cell (p := ⟨p, o + 3, none⟩) (by show p < _; omega)).trans m3'; have n0 := (hw1.cell (p := ⟨p, o, none⟩) (by show p < _; omega)).trans m0')
          | (go_at_call 43; with_reducible refine (HC.out ((acc ++ it) ++ [44]) _ (HW.out.trans hw1) A2.out hb1).mono ?_; rintro e2 w2 ⟨rfl, hb2, hw2⟩))
        go_roundw
        case rel => exact ⟨j + 1, by omega, by go_num, by rw [HN.out]; simpa using hb2, (HW.out.trans hw1).trans hw2⟩
        case measure => simp [intOf]; omega
      · obtain rfl : j = 0 := by omega
        have hn := hn0 hjl
        have HN := Lib.hid hn
        rw [hn] at hj1
        rw [HZ.out, List.append_nil] at BL
        clear hn hn0 hn1
        generalize l[0] = x at *
        simp only [Nat.zero_mul, Nat.add_zero] at HC
        go_wp2_with (go_at_call 43; with_reducible refine (HC.out acc _ HW.out (by omega) BL.out).mono ?_; rintro e2 w2 ⟨rfl, hb2, hw2⟩)
        go_roundw
        case rel => exact ⟨0 + 1, by omega, by go_num, by rw [HN.out]; exact hb2, HW.out.trans hw2⟩
        case measure => simp [intOf]; omega
    · obtain rfl : nl = j := by omega
      rw [ALL.out] at BL
      go_wp2
      go_end0
      exact ⟨rfl, BL.out, hw⟩
end Go.Proofs.YthbbeojhipcjiaaDoor
