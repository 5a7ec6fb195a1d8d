/- Texts merged by program, in build order: JsonGroupO, JsonNumber. -/
import Derived.Test.YtjgjajnpbcghmaaDoorM08
import Derived.Test.YtjgjajnpbcghmaaDoorM09
import Derived.Test.YtjgjajnpbcghmaaDoorM05
namespace Go.Proofs.YtjgjajnpbcghmaaDoor
open Go.RowKit
set_option linter.unusedVariables false
set_option linter.unusedSimpArgs false

theorem quotedC_len {s t r : List UInt8} (h : quotedC s = some (t, r)) : t.length ≤ s.length ∧ r.length < s.length := by
  have e := quotedC_only h
  have h1 := quoteJ_len t; have h2 := qL_ge t
  have h3 := congrArg List.length e
  rw [List.length_append] at h3
  constructor <;> omega
theorem groupC_obj (f : Nat) (s : List UInt8) (ks : List (List UInt8)) (l : List V) : groupC (f + 1) true s ks l = (match quotedC s with
    | none => none
    | some (t, r0) => if beginsB r0 [58] then (match valueC f (r0.drop 1) with
      | none => none
      | some (x, r) => if beginsB r [44] then groupC f true (r.drop 1) (ks ++ [t]) (l ++ [x]) else if beginsB r [125] then some (.mk 6 0 [] (l ++ [x]) (ks ++ [t]), r.drop 1) else none) else none) := by
  conv => lhs; unfold groupC
  simp only [if_true]
  cases quotedC s with
  | none => rfl
  | some y =>
    obtain ⟨t, r0⟩ := y
    dsimp only
    cases beginsB r0 [58] with
    | true => rfl
    | false => rfl
set_option maxRecDepth 100000 in
set_option maxHeartbeats 20000000 in
theorem groupObj (B m : Nat) (ih : ∀ f s, f ≤ m → s.length ≤ 4096 → 2 * s.length + 1 ≤ f → ValueSays B f s) (f : Nat) (s : List UInt8) (hf : f ≤ m + 1) (hs : s.length ≤ 4096) (hfs : 2 * s.length + 2 ≤ f) : GroupSays B f true s := by
  intro w hk hB
  show Calls Tryd.prog 45 #[.string ⟨s.toArray⟩, .int .i64 6, .string ⟨#[125]⟩] w _
  have hcp : ∀ w, Calls Tryd.prog 58 #[.string ⟨s.toArray⟩, .string ⟨#[125]⟩] w fun e w' => e = .returned (.tuple #[.string ⟨(if beginsB s [125] then s.drop 1 else s).toArray⟩, .bool (beginsB s [125])]) ∧ w' = w := fun w => cutPrefix_any s [125] w
  obtain ⟨GA, hGA⟩ : ∃ GA, groupA f true s = GA := ⟨_, rfl⟩
  rw [hGA]
  cases hb : beginsB s [125] with
  | true =>
    rw [hb] at hcp
    have e : GA = some (.mk 6 0 [] [] [], s.drop 1) := hGA.symm.trans (by unfold groupA; exact if_pos hb)
    subst e
    have HCP := Lib.hid hcp; clear hcp hGA hb ih hk
    go_enter Tryd.func45, Tryd.ntmps45
    go_wp2_with (go_at_call 58; refine (HCP.out _).mono ?_; rintro e1 w1 ⟨rfl, rfl⟩)
    refine bodyPost_ret (v := .tuple #[.agg #[.int .i64 6, .int .i64 0, .string ⟨#[]⟩, .slice none 0 0, .slice none 0 0], .string ⟨(s.drop 1).toArray⟩, .bool true]) (by simp [results, Tryd.results45, go_sem]) rfl ?_
    refine ⟨⟨_, _, _, _, _, _, _, _, _, _, _, rfl, rfl, rfl, ?_⟩, ((Below.refl _ _).alloc (Nat.le_refl _) _).alloc (by simp) _⟩
    exact VIs.mk (t := []) (l := []) (ks := []) ⟨by simp, by simp, by simp, by simp⟩ (.inl rfl) (.inl rfl)
  | false =>
    rw [hb] at hcp
    obtain ⟨i0, hi, hz0, hz1, hz2⟩ := info_parts Tryd.infoVal
    obtain ⟨j0, hj, hy0, hy1, hy2⟩ := info_parts Tryd.infoStrG
    have e : GA = groupC f true s [] [] := hGA.symm.trans (by unfold groupA; exact if_neg (by rw [if_pos rfl]; simp [hb]))
    have EG := Lib.hid e
    obtain ⟨R, hR⟩ : ∃ R, w.heap.size = R := ⟨_, rfl⟩
    obtain ⟨W2, hW2⟩ : ∃ W2, W2 = ((w.alloc (.cells #[.int .i64 0, .int .i64 0, .string ⟨#[]⟩, .slice none 0 0, .slice none 0 0] 34)).alloc (.cells #[.int .i64 6, .int .i64 0, .string ⟨#[]⟩, .slice none 0 0, .slice none 0 0] 34)) := ⟨_, rfl⟩
    have gst : GSt R 6 w W2 (.slice none 0 0) (.slice none 0 0) [] [] [] := by
      refine ⟨?_, ?_, ⟨rfl, .inl ⟨rfl, rfl⟩⟩, ⟨rfl, .inl ⟨rfl, rfl⟩⟩, fun i hi => absurd hi (Nat.not_lt_zero _), ?_, ?_⟩
      · rw [hW2, ← hR]
        have := heap_alloc_last (w.alloc (.cells #[.int .i64 0, .int .i64 0, .string ⟨#[]⟩, .slice none 0 0, .slice none 0 0] 34)) (.cells #[.int .i64 6, .int .i64 0, .string ⟨#[]⟩, .slice none 0 0, .slice none 0 0] 34)
        simpa using this
      · rw [hW2, ← hR, Below.heap_alloc _ _ _ (by simp)]; exact heap_alloc_last w _
      · rw [hW2, ← hR]; exact ((Below.refl _ _).alloc (Nat.le_refl _) _).alloc (by simp) _
      · rw [hW2, ← hR]; simp
    have HCP := Lib.hid hcp; have GST := Lib.hid gst; have HR := Lib.hid hR; have HW2 := Lib.hid hW2; have HK := Lib.hid hk; have IH := Lib.hid ih
    clear hcp hGA hb ih hk gst hR hW2 e
    go_enter Tryd.func45, Tryd.ntmps45
    go_wp2_with (go_at_call 58; refine (HCP.out _).mono ?_; rintro e1 w1 ⟨rfl, rfl⟩)
    rw [← HW2.out]
    go_loopw [0] (fun sv wr => ∃ (s1 : List UInt8) (l : List V) (lv : Value) (xs : List Value) (ks : List (List UInt8)) (kv : Value) (f1 : Nat), sv = .string ⟨s1.toArray⟩ ∧ s1.length + l.length ≤ 4096 ∧ ks.length = l.length ∧ (∀ z ∈ ks, z.length ≤ 4096) ∧ f1 ≤ f ∧ 2 * s1.length + 2 ≤ f1 ∧ groupC f1 true s1 ks l = GA ∧ GSt R 6 w wr lv kv l ks xs) (fun sv _ => strLen sv)
    case atStart => exact ⟨s, [], _, [], [], _, f, rfl, by simp; omega, rfl, by simp, Nat.le_refl _, hfs, EG.out.symm, GST.out⟩
    case round =>
      obtain ⟨s1, l, lv, xs, ks, kv, f1, rfl, hsl, hkl, hkz, hf1, hf2, hG, gst⟩ := hrel
      obtain ⟨f2, rfl⟩ : ∃ f2, f1 = f2 + 1 := ⟨f1 - 1, by omega⟩
      rw [groupC_obj] at hG
      have hR := HR.out
      have hsz := gst.size
      have hqn := fun w => quoted_any ⟨s1.toArray⟩ (by rw [str_sizeL]; omega) w
      simp only [toListS] at hqn
      have GS := Lib.hid gst; have HKZ := Lib.hid hkz; have HKL := Lib.hid hkl
      have hkm : ks.length ≤ 4096 := by omega
      clear hkl
      cases hq : quotedC s1 with
      | none =>
        rw [hq] at hG
        have hqr : quotedR s1 = ([], [], false) := by unfold quotedR; rw [hq]
        rw [hqr] at hqn
        have e : GA = none := hG.symm
        subst e
        have HQN := Lib.hid hqn; clear hqn hG hq hqr hR gst hkz
        go_wp2_with fail
        refine (HQN.out _).mono ?_
        rintro e2 w2 ⟨rfl, hb2⟩
        dsimp only
        have g2 := GS.out.later hb2
        obtain ⟨⟨e0, e1, e2, e3, e4⟩, f0, f1, f2', f3, f4⟩ := box_of g2.res
        have G2 := Lib.hid g2; clear g2
        rw [HR.out]
        go_wp2_with fail
        obtain ⟨wf, hwf⟩ : ∃ wf, wf = set5 (w2) R 0 (.int .i64 0) (.int .i64 0) (.string ⟨#[]⟩) (.slice none 0 0) (.slice none 0 0) := ⟨_, rfl⟩
        change bodyPost _ _ _ _ _ (set5 (w2) R 0 (.int .i64 0) (.int .i64 0) (.string ⟨#[]⟩) (.slice none 0 0) (.slice none 0 0))
        rw [← hwf]
        have hx : wf.heap[R]? = some (.cells #[.int .i64 0, .int .i64 0, .string ⟨#[]⟩, .slice none 0 0, .slice none 0 0] 34 (0, 0)) := by rw [hwf]; exact set5_here (G2.out).res
        have hbf : Below R w wf := by rw [hwf]; exact (G2.out).low.trans (set5_below (Nat.le_refl _))
        obtain ⟨⟨x0, x1, x2, x3, x4⟩, -⟩ := box_of hx
        have HBF := Lib.hid hbf
        clear hbf hwf hx e0 e1 e2 e3 e4 f0 f1 f2' f3 f4
        refine bodyPost_ret (v := .tuple #[.agg #[.int .i64 0, .int .i64 0, .string ⟨#[]⟩, .slice none 0 0, .slice none 0 0], .string ⟨#[]⟩, .bool false]) (by simp [results, Tryd.results45, go_sem, x0, x1, x2, x3, x4]) rfl ?_
        exact ⟨⟨_, _, _, _, _, _, _, _, _, [], _, rfl, rfl⟩, by rw [HR.out]; exact HBF.out⟩
      | some y =>
        obtain ⟨kt, r0⟩ := y
        rw [hq] at hG
        have hqr : quotedR s1 = (kt, r0, true) := by unfold quotedR; rw [hq]
        rw [hqr] at hqn
        obtain ⟨hkt, hr0⟩ := quotedC_len hq
        obtain ⟨S0, hS0⟩ : ∃ S0 : ByteArray, S0 = ⟨r0.toArray⟩ := ⟨_, rfl⟩
        have hS0l : S0.size = r0.length := by rw [hS0, str_sizeL]
        have hS0d : S0.data.toList = r0 := by rw [hS0, toListS]
        dsimp only at hqn
        rw [← hS0] at hqn
        have hhp := fun w => Tryd.strings_HasPrefix S0 ⟨#[58]⟩ w
        simp only [hasPrefix_begins] at hhp
        rw [hS0d] at hhp
        cases h58 : beginsB r0 [58] with
        | false =>
          rw [show beginsB r0 (⟨#[58]⟩ : ByteArray).data.toList = false from h58] at hhp
          dsimp only at hG
          rw [h58] at hG
          have e : GA = none := hG.symm
          subst e
          have HQN := Lib.hid hqn; have HHP := Lib.hid hhp; clear hqn hG hq hqr hR gst hkz hhp hS0 hS0d h58
          go_wp2_with fail
          refine (HQN.out _).mono ?_
          rintro e2 w2 ⟨rfl, hb2⟩
          dsimp only
          have g2 := GS.out.later hb2
          obtain ⟨⟨e0, e1, e2, e3, e4⟩, f0, f1, f2', f3, f4⟩ := box_of g2.res
          have G2 := Lib.hid g2; clear g2
          rw [HR.out]
          go_wp2_with (go_at_call 43; refine (HHP.out _).mono ?_; rintro e3 w3 ⟨rfl, rfl⟩)
          obtain ⟨wf, hwf⟩ : ∃ wf, wf = set5 (w3) R 0 (.int .i64 0) (.int .i64 0) (.string ⟨#[]⟩) (.slice none 0 0) (.slice none 0 0) := ⟨_, rfl⟩
          change bodyPost _ _ _ _ _ (set5 (w3) R 0 (.int .i64 0) (.int .i64 0) (.string ⟨#[]⟩) (.slice none 0 0) (.slice none 0 0))
          rw [← hwf]
          have hx : wf.heap[R]? = some (.cells #[.int .i64 0, .int .i64 0, .string ⟨#[]⟩, .slice none 0 0, .slice none 0 0] 34 (0, 0)) := by rw [hwf]; exact set5_here (G2.out).res
          have hbf : Below R w wf := by rw [hwf]; exact (G2.out).low.trans (set5_below (Nat.le_refl _))
          obtain ⟨⟨x0, x1, x2, x3, x4⟩, -⟩ := box_of hx
          have HBF := Lib.hid hbf
          clear hbf hwf hx e0 e1 e2 e3 e4 f0 f1 f2' f3 f4
          refine bodyPost_ret (v := .tuple #[.agg #[.int .i64 0, .int .i64 0, .string ⟨#[]⟩, .slice none 0 0, .slice none 0 0], .string ⟨#[]⟩, .bool false]) (by simp [results, Tryd.results45, go_sem, x0, x1, x2, x3, x4]) rfl ?_
          exact ⟨⟨_, _, _, _, _, _, _, _, _, [], _, rfl, rfl⟩, by rw [HR.out]; exact HBF.out⟩
        | true =>
          rw [show beginsB r0 (⟨#[58]⟩ : ByteArray).data.toList = true from h58] at hhp
          dsimp only at hG
          rw [h58, if_pos rfl] at hG
          have hr1 : 1 ≤ r0.length := by
            have := congrArg List.length (begins_one h58)
            simp at this; omega
          have hr1' : 1 ≤ S0.size := by omega
          have hex : S0.extract 1 S0.size = ⟨(r0.drop 1).toArray⟩ := by rw [extS, hS0d]
          have hdl : (r0.drop 1).length = r0.length - 1 := by rw [List.length_drop]
          obtain ⟨r1, hr1e⟩ : ∃ r1, r0.drop 1 = r1 := ⟨_, rfl⟩
          rw [hr1e] at hex hG hdl
          have hlow := gst.low
          have hvs := IH.out f2 r1 (by omega) (by omega) (by omega)
          have HQN := Lib.hid hqn; have HHP := Lib.hid hhp; have HEX := Lib.hid hex; have HG0 := Lib.hid hG; have HVS := Lib.hid hvs
          clear hqn hG hq hqr hR gst hkz hhp hS0 hS0d h58 hex hr1e hvs hlow hS0l
          go_wp2_with fail
          refine (HQN.out _).mono ?_
          rintro e2 w2 ⟨rfl, hb2⟩
          dsimp only
          obtain ⟨IT, hIT⟩ : ∃ IT, IT = Obj.cells #[.string ⟨kt.toArray⟩] 9 := ⟨_, rfl⟩
          have g3 := GS.out.later hb2
          have g4 := GS.out.later (hb2.alloc hb2.size IT)
          have hzw := hb2.size
          rw [hIT] at g4
          obtain ⟨⟨e0, e1, e2, e3, e4⟩, f0, f1, f2', f3, f4⟩ := box_of g3.var
          have G4 := Lib.hid g4; have HB2 := Lib.hid hb2
          clear g3 g4 hb2 hIT
          rw [HR.out]
          go_wp2_with (first
            | (go_at_call 43; refine (HHP.out _).mono ?_; rintro e3 w3 ⟨rfl, rfl⟩)
            | (at_builtin; go_loud (refine wpList_append_own_at _ rfl (.tmp 46) (.tmp 48) 32 rfl (R + 2) 9 j0 _ 1 16 Tryd.underlying32 hj hy0 hy1 hy2 rfl (by decide) _ _ _ rfl G4.out.rowK ⟨_, 0, none⟩ 1 1 [.string ⟨kt.toArray⟩] rfl rfl (new_cells _ #[_] _) (by intro u hu; simp at hu; subst hu; rfl) (by unfold maxLen; omega) (by omega) (by simp; omega) ?_; intro v5 w5 hown hgrow hnil hat; obtain ⟨KA, kc, rfl⟩ := own_form hown; obtain ⟨⟨p0, p1, p2, p3, p4⟩, q0, q1, q2, q3, q4⟩ := box_of (G4.out.varK hgrow))))
          have g6 := G4.out.key kt hown hgrow hat
          obtain ⟨w6, hw6⟩ : ∃ w6, w6 = w5.setCell ⟨R + 1, 4, none⟩ (.slice KA (ks.length + 1) kc) := ⟨_, rfl⟩
          rw [← hw6] at g6 ⊢
          clear hw6 e0 e1 e2 e3 e4 f0 f1 f2' f3 f4 p0 p1 p2 p3 p4 q0 q1 q2 q3 q4 hown hgrow hnil hat hzw
          rw [HEX.out]
          have hR := HR.out
          have hval := HVS.out w6 (HK.out.below (g6.low.mono (by omega))) (by have := g6.size; omega)
          have hsz6 := g6.size
          have hG := HG0.out
          have GS6 := Lib.hid g6
          clear g6 hR HVS HG0 HQN HHP HEX
          have hkz6 : Hid (∀ z ∈ ks ++ [kt], z.length ≤ 4096) := Lib.hid (fun z hz => by
            rcases List.mem_append.1 hz with h | h
            · exact HKZ.out z h
            · simp at h; subst h; omega)
          cases hv : valueC f2 r1 with
          | none =>
            rw [hv] at hG hval
            have e : GA = none := hG.symm
            subst e
            have HV := Lib.hid hval; clear hG hval hv
            refine (HV.out).mono ?_
            rintro e2 w2 ⟨⟨k, n, t, A, a, b, A', a', b', rest, ok, rfl, hok⟩, hb2⟩
            subst hok
            dsimp only
            have hb3 := hb2.alloc hb2.size (.cells #[.int .i64 k, .int .i64 n, .string t, .slice A a b, .slice A' a' b'] 34)
            have g2 := GS6.out.later hb3
            obtain ⟨⟨e0, e1, e2, e3, e4⟩, f0, f1, f2', f3, f4⟩ := box_of g2.res
            have G2 := Lib.hid g2; clear g2 hb3
            go_wp2_with fail
            have g2 := G2.out
            obtain ⟨wf, hwf⟩ : ∃ wf, wf = set5 (w2.alloc (.cells #[.int .i64 k, .int .i64 n, .string t, .slice A a b, .slice A' a' b'] 34)) R 0 (.int .i64 0) (.int .i64 0) (.string ⟨#[]⟩) (.slice none 0 0) (.slice none 0 0) := ⟨_, rfl⟩
            change bodyPost _ _ _ _ _ (set5 (w2.alloc (.cells #[.int .i64 k, .int .i64 n, .string t, .slice A a b, .slice A' a' b'] 34)) R 0 (.int .i64 0) (.int .i64 0) (.string ⟨#[]⟩) (.slice none 0 0) (.slice none 0 0))
            rw [← hwf]
            have hx : wf.heap[R]? = some (.cells #[.int .i64 0, .int .i64 0, .string ⟨#[]⟩, .slice none 0 0, .slice none 0 0] 34 (0, 0)) := by rw [hwf]; exact set5_here g2.res
            have hbf : Below R w wf := by rw [hwf]; exact g2.low.trans (set5_below (Nat.le_refl _))
            obtain ⟨⟨x0, x1, x2, x3, x4⟩, -⟩ := box_of hx
            have HBF := Lib.hid hbf
            clear hbf hwf hx e0 e1 e2 e3 e4 f0 f1 f2' f3 f4 g2
            refine bodyPost_ret (v := .tuple #[.agg #[.int .i64 0, .int .i64 0, .string ⟨#[]⟩, .slice none 0 0, .slice none 0 0], .string ⟨#[]⟩, .bool false]) (by simp [results, Tryd.results45, go_sem, x0, x1, x2, x3, x4]) rfl ?_
            exact ⟨⟨_, _, _, _, _, _, _, _, _, [], _, rfl, rfl⟩, by rw [HR.out]; exact HBF.out⟩
          | some y =>
            obtain ⟨x, r⟩ := y
            have hlen := valueC_len hv
            rw [hv] at hval
            have hG2 : (if beginsB r [44] then groupC f2 true (r.drop 1) (ks ++ [kt]) (l ++ [x]) else if beginsB r [125] then some (.mk 6 0 [] (l ++ [x]) (ks ++ [kt]), r.drop 1) else none) = GA := by rw [hv] at hG; exact hG
            have hc44 : ∀ w, Calls Tryd.prog 58 #[.string ⟨r.toArray⟩, .string ⟨#[44]⟩] w fun e w' => e = .returned (.tuple #[.string ⟨(if beginsB r [44] then r.drop 1 else r).toArray⟩, .bool (beginsB r [44])]) ∧ w' = w := fun w => cutPrefix_any r [44] w
            have hc93 : ∀ w, Calls Tryd.prog 58 #[.string ⟨r.toArray⟩, .string ⟨#[125]⟩] w fun e w' => e = .returned (.tuple #[.string ⟨(if beginsB r [125] then r.drop 1 else r).toArray⟩, .bool (beginsB r [125])]) ∧ w' = w := fun w => cutPrefix_any r [125] w
            obtain ⟨z44, hz44⟩ : ∃ z, beginsB r [44] = z := ⟨_, rfl⟩
            rw [hz44] at hc44 hG2
            have HG := Lib.hid hG2; have HC44 := Lib.hid hc44; have HC93 := Lib.hid hc93; have HV := Lib.hid hval; have HLEN := Lib.hid hlen; have HZ44 := Lib.hid hz44
            clear hG2 hc44 hc93 hval hG hlen hv hz44
            refine (HV.out).mono ?_
            rintro e2 w2 ⟨⟨k, n, t, A, a, b, A', a', b', rest, ok, rfl, hok, hrest, hx⟩, hb2⟩
            subst hok; subst hrest
            dsimp only
            obtain ⟨IT, hIT⟩ : ∃ IT, IT = Obj.cells #[.int .i64 k, .int .i64 n, .string t, .slice A a b, .slice A' a' b'] 34 := ⟨_, rfl⟩
            have hb3 := hb2.alloc hb2.size IT
            have g3 := GS6.out.later hb3
            have g4 := GS6.out.later (hb3.alloc hb3.size IT)
            have hx4 := hx.below (((Below.refl w2.heap.size w2).alloc (Nat.le_refl _) IT).alloc (by simp) IT)
            have hzw := hb2.size
            rw [hIT] at g3 g4 hx4 hb3
            obtain ⟨⟨e0, e1, e2, e3, e4⟩, f0, f1, f2', f3, f4⟩ := box_of g3.var
            obtain ⟨-, y0, y1, y2, y3, y4⟩ := box_of g4.var
            have G4 := Lib.hid g4; have HX4 := Lib.hid hx4; have HB3 := Lib.hid hb3
            clear g3 g4 hx4 hb3 hx hIT
            go_wp2_with (at_builtin; go_loud (refine wpList_append_own_at _ rfl (.tmp 63) (.tmp 65) 31 rfl (R + 2) 34 i0 _ 5 80 Tryd.underlying31 hi hz0 hz1 hz2 rfl (by decide) _ _ _ rfl G4.out.rowL ⟨_, 0, none⟩ 1 1 [.int .i64 k, .int .i64 n, .string t, .slice A a b, .slice A' a' b'] rfl rfl (new_cells1 _ _ #[_, _, _, _, _] _) (by intro u hu; simp at hu; rcases hu with rfl | rfl | rfl | rfl | rfl <;> rfl) (by unfold maxLen; omega) (by omega) (by simp; omega) ?_; intro v5 w5 hown hgrow hnil hat; obtain ⟨A5, c5, rfl⟩ := own_form hown; obtain ⟨⟨p0, p1, p2, p3, p4⟩, q0, q1, q2, q3, q4⟩ := box_of (G4.out.varL hgrow)))
            have g6 := G4.out.item x HX4.out hsz6 (by simp; omega) (fun g hg => by
              have h1 := GS6.out.rowL.lt g; have h2 := GS6.out.rowK.lt g
              rcases hg with hg | hg
              · have := (h1 hg).2; omega
              · have := (h2 hg).2; omega) hown hgrow hat
            obtain ⟨w6, hw6⟩ : ∃ w6, w6 = w5.setCell ⟨R + 1, 3, none⟩ (.slice A5 (l.length + 1) c5) := ⟨_, rfl⟩
            rw [← hw6] at g6 ⊢
            have G6 := Lib.hid g6
            clear g6 hw6 e0 e1 e2 e3 e4 f0 f1 f2' f3 f4 y0 y1 y2 y3 y4 p0 p1 p2 p3 p4 q0 q1 q2 q3 q4 hown hgrow hnil hat
            cases z44 with
            | true =>
              refine (HC44.out _).mono ?_
              rintro e7 w7 ⟨rfl, rfl⟩
              dsimp only
              go_wp2_with fail
              have hl7 := HLEN.out
              have hkl7 := HKL.out
              refine ⟨⟨_, ⟨rest.tail, rfl, l ++ [x], by simp; omega, _, _, ks ++ [kt], by simp; omega, hkz6.out, _, f2, by omega, by simp; omega, ?_, G6.out⟩, rfl, HR.out.symm⟩, ?_⟩
              · have h := HG.out
                rw [if_pos trivial, List.drop_one] at h
                exact h
              · show ByteArray.size ⟨rest.tail.toArray⟩ < ByteArray.size ⟨s1.toArray⟩
                rw [str_sizeL, str_sizeL, List.length_tail]; omega
            | false =>
              obtain ⟨z125, hz125⟩ : ∃ z, beginsB rest [125] = z := ⟨_, rfl⟩
              have hc93 := HC93.out
              rw [hz125] at hc93
              have HZ93 := Lib.hid hz125; have HC93' := Lib.hid hc93
              clear hz125 hc93 HC93
              obtain ⟨⟨e0, e1, e2, e3, e4⟩, f0, f1, f2', f3, f4⟩ := box_of G6.out.var
              obtain ⟨⟨p0, p1, p2, p3, p4⟩, q0, q1, q2, q3, q4⟩ := box_of G6.out.res
              obtain ⟨rs, hrs⟩ : ∃ rs, (if z125 = true then rest.drop 1 else rest) = rs := ⟨_, rfl⟩
              rw [hrs] at HC93'
              have HRS := Lib.hid hrs
              clear hrs
              cases z125
              all_goals
                refine (HC44.out _).mono ?_
                rintro e7 w7 ⟨rfl, rfl⟩
                dsimp only
                go_wp2_with (go_at_call 58; refine (HC93'.out _).mono ?_; rintro e8 w8 ⟨rfl, rfl⟩)
                obtain ⟨wf, hwf⟩ : ∃ wf, wf = set5 w8 R 0 (.int .i64 6) (.int .i64 0) (.string ⟨#[]⟩) (.slice A5 (l.length + 1) c5) (.slice KA (ks.length + 1) kc) := ⟨_, rfl⟩
                change bodyPost _ _ _ _ _ (set5 w8 R 0 (.int .i64 6) (.int .i64 0) (.string ⟨#[]⟩) (.slice A5 (l.length + 1) c5) (.slice KA (ks.length + 1) kc))
                rw [← hwf]
                have hx : wf.heap[R]? = some (.cells #[.int .i64 6, .int .i64 0, .string ⟨#[]⟩, .slice A5 (l.length + 1) c5, .slice KA (ks.length + 1) kc] 34 (0, 0)) := by rw [hwf]; exact set5_here G6.out.res
                have hbf : Below R w wf := by rw [hwf]; exact G6.out.low.trans (set5_below (Nat.le_refl _))
                have hvf : VIs wf R wf.heap.size (.mk 6 0 [] (l ++ [x]) (ks ++ [kt])) [.int .i64 6, .int .i64 0, .string ⟨#[]⟩, .slice A5 (l.length + 1) c5, .slice KA (ks.length + 1) kc] :=
                  G6.out.done (by simp; omega) (by simp; omega) (fun z hz => by have := hkz6.out z hz; omega) (fun b hb => by rw [hwf]; exact set5_there hb) (by rw [hwf, set5_size])
                obtain ⟨⟨x0, x1, x2, x3, x4⟩, -⟩ := box_of hx
                have HBF := Lib.hid hbf; have HVF := Lib.hid hvf
                clear hbf hvf hwf hx e0 e1 e2 e3 e4 f0 f1 f2' f3 f4 p0 p1 p2 p3 p4 q0 q1 q2 q3 q4
              · have e : GA = none := HG.out.symm.trans (by simp [HZ93.out])
                subst e
                refine bodyPost_ret (v := .tuple #[.agg #[.int .i64 6, .int .i64 0, .string ⟨#[]⟩, .slice A5 (l.length + 1) c5, .slice KA (ks.length + 1) kc], .string ⟨rs.toArray⟩, .bool false]) (by simp [results, Tryd.results45, go_sem, x0, x1, x2, x3, x4]) rfl ?_
                exact ⟨⟨_, _, _, _, _, _, _, _, _, _, _, rfl, rfl⟩, by rw [HR.out]; exact HBF.out⟩
              · have e : GA = some (.mk 6 0 [] (l ++ [x]) (ks ++ [kt]), rs) := HG.out.symm.trans (by rw [← HRS.out]; simp [HZ93.out])
                subst e
                refine bodyPost_ret (v := .tuple #[.agg #[.int .i64 6, .int .i64 0, .string ⟨#[]⟩, .slice A5 (l.length + 1) c5, .slice KA (ks.length + 1) kc], .string ⟨rs.toArray⟩, .bool true]) (by simp [results, Tryd.results45, go_sem, x0, x1, x2, x3, x4]) rfl ?_
                exact ⟨⟨_, _, _, _, _, _, _, _, _, _, _, rfl, rfl, rfl, by rw [HR.out]; exact HVF.out⟩, by rw [HR.out]; exact HBF.out⟩
end Go.Proofs.YtjgjajnpbcghmaaDoor
namespace Go.Proofs.YtjgjajnpbcghmaaDoor
open Go.RowKit

theorem extP (s : ByteArray) (k : Nat) : s.extract 0 k = ⟨(s.data.toList.take k).toArray⟩ := by
  apply ByteArray.ext
  rw [ByteArray.data_extract]
  apply Array.ext'
  rw [Array.toList_extract, List.extract]
  simp
theorem drew_heap (w : World) : w.drew.heap = w.heap := rfl
theorem numL_take (s : List UInt8) (k : Nat) (h1 : ∀ c ∈ s.take k, numC c = true) (h2 : ∀ (h : k < s.length), numC s[k] = false) : numL s = s.take k := by
  have := takeWhile_all (p := numC) (s.take k) (s.drop k) h1 (by
    cases hd : s.drop k with
    | nil => rfl
    | cons c r =>
      have hk : k < s.length := by
        rcases Nat.lt_or_ge k s.length with h | h
        · exact h
        · rw [List.drop_of_length_le h] at hd; cases hd
      rw [List.drop_eq_getElem_cons hk] at hd
      injection hd with hd _
      have := h2 hk
      rw [hd] at this
      simp [this])
  rw [List.take_append_drop] at this
  exact this
theorem numC_is (c : UInt8) : numC c = (decide (c.toNat = 45) || decide (48 ≤ c.toNat ∧ c.toNat ≤ 57)) := by
  unfold numC isDigit
  congr 1
  rw [Bool.eq_iff_iff]; simp
  exact ⟨fun h => by rw [h]; rfl, fun h => UInt8.toNat_inj.1 h⟩
def zeroA : Value := .agg #[.int .i64 0, .int .i64 0, .string ⟨#[]⟩, .slice none 0 0, .slice none 0 0]
/-- what number answers -/
def numberA (s : List UInt8) : Value := match numberC s with
  | some (n, r) => .tuple #[.agg #[.int .i64 3, .int .i64 n, .string ⟨#[]⟩, .slice none 0 0, .slice none 0 0], .string ⟨r.toArray⟩, .bool true]
  | none => .tuple #[zeroA, .string ⟨#[]⟩, .bool false]
theorem below_bytes (w : World) (t : TypeId) (s : ByteArray) : Below w.heap.size w (Lib.bytesWorld w t s) := by
  exact Go.Joins.below_bytesWorld _ _ _ _ (Nat.le_refl _)
set_option maxRecDepth 100000 in
set_option maxHeartbeats 20000000 in
theorem number_any (s : ByteArray) (hs : s.size ≤ 1000000) (w : World) (hk : KitIn w.heap.size w) :
    Calls Tryd.prog 46 #[.string s] w fun e w' => e = .returned (numberA s.data.toList) ∧ Below w.heap.size w w' := by
  have hsl : s.data.toList.length = s.size := rfl
  obtain ⟨R, hR⟩ : ∃ R, w.heap.size = R := ⟨_, rfl⟩
  obtain ⟨W1, hW1⟩ : ∃ W1, W1 = w.alloc (.cells #[.int .i64 0, .int .i64 0, .string ⟨#[]⟩, .slice none 0 0, .slice none 0 0] 34) := ⟨_, rfl⟩
  have b1 : Below R w W1 := by rw [hW1, ← hR]; exact (Below.refl _ _).alloc (Nat.le_refl _) _
  have z1 : W1.heap.size = R + 1 := by rw [hW1, ← hR]; simp
  have r1 : W1.heap[R]? = some (.cells #[.int .i64 0, .int .i64 0, .string ⟨#[]⟩, .slice none 0 0, .slice none 0 0] 34 (0, 0)) := by
    rw [hW1, ← hR]; exact heap_alloc_last w _
  obtain ⟨NA, hNA⟩ : ∃ NA, numberA s.data.toList = NA := ⟨_, rfl⟩
  rw [hNA]
  have HNA0 := Lib.hid hNA; clear hNA
  rw [hR] at hk
  have k1 : KitIn R W1 := hk.below b1
  have KitW := Lib.hid hk
  have HR := Lib.hid hR; have HW1 := Lib.hid hW1; have B1 := Lib.hid b1; have Z1 := Lib.hid z1; have R1 := Lib.hid r1; have K1 := Lib.hid k1
  clear hR hW1 b1 z1 r1 k1 hk
  go_enter Tryd.func46, Tryd.ntmps46
  go_wp2_with fail
  go_loop [5] (fun i => ∃ k : Nat, k ≤ s.size ∧ i = .int .i64 k ∧ ∀ c ∈ s.data.toList.take k, numC c = true) (fun i => s.size - (intOf i).toNat)
  case atStart => exact ⟨0, Nat.zero_le _, rfl, by simp⟩
  case round =>
    obtain ⟨k, hk, rfl, hall⟩ := hrel
    have HA := Lib.hid hall; clear hall
    by_cases hlt : k < s.size ∧ ∀ h : k < s.size, numC s[k] = true
    · obtain ⟨hlt, hc⟩ := hlt
      have hc := hc hlt
      have hsn := take_snoc s k hlt
      have hn2 : ∀ c ∈ s.data.toList.take (k + 1), numC c = true := by
        rw [hsn]; intro c hcm
        rcases List.mem_append.1 hcm with h | h
        · exact HA.out c h
        · rw [List.mem_singleton] at h; rw [h]; exact hc
      have HN := Lib.hid hn2
      rw [numC_is, Bool.or_eq_true, decide_eq_true_eq, decide_eq_true_eq] at hc
      have hu := s[k].toNat_lt
      clear hsn hn2 HA
      by_cases h45 : s[k].toNat = 45
      · have t1 : ((s[k].toNat : Int) == 45) = true := by rw [h45]; rfl
        clear hc
        go_wp2
        go_round
        case rel => exact ⟨k + 1, by omega, by go_num, HN.out⟩
        case measure => simp [intOf]; omega
      · have hc2 : 48 ≤ s[k].toNat ∧ s[k].toNat ≤ 57 := by rcases hc with h | h; exact absurd h h45; exact h
        have t1 : ((s[k].toNat : Int) == 45) = false := by simp; omega
        have t2 : decide ((48 : Int) ≤ (s[k].toNat : Int)) = true := by simp; omega
        have t3 : decide ((s[k].toNat : Int) ≤ 57) = true := by simp; omega
        clear hc
        go_wp2
        go_round
        case rel => exact ⟨k + 1, by omega, by go_num, HN.out⟩
        case measure => simp [intOf]; omega
    · have hnl : numL s.data.toList = s.data.toList.take k := numL_take _ k HA.out (fun h => by
        have h' : k < s.size := h
        cases hx : numC s.data.toList[k] with
        | false => rfl
        | true => exact absurd ⟨h', fun _ => hx⟩ hlt)
      have hP : (s.extract 0 k).data.toList = numL s.data.toList := by rw [extP, toListS, hnl]
      have hPs : (s.extract 0 k).size = k := by
        rw [extP]; show (s.data.toList.take k).toArray.size = k
        rw [List.size_toArray, List.length_take, hsl]; omega
      have hnum : numberA s.data.toList = match Lib.parseIntB 64 (numL s.data.toList) with
        | .ok n => if decI n = numL s.data.toList then .tuple #[.agg #[.int .i64 3, .int .i64 n, .string ⟨#[]⟩, .slice none 0 0, .slice none 0 0], .string ⟨(s.data.toList.drop k).toArray⟩, .bool true] else .tuple #[zeroA, .string ⟨#[]⟩, .bool false]
        | _ => .tuple #[zeroA, .string ⟨#[]⟩, .bool false] := by
        have hk' : (numL s.data.toList).length = k := by rw [hnl, List.length_take, hsl]; omega
        unfold numberA numberC
        rw [hk']
        rcases Lib.parseIntB 64 (numL s.data.toList) with n | _ | _
        ·
          dsimp only
          by_cases e : decI n = numL s.data.toList
          · rw [if_pos e, if_pos e]
          · rw [if_neg e, if_neg e]
        · rfl
        · rfl
      rw [HNA0.out] at hnum
      have HNA := Lib.hid hnum
      have hxs : s.extract k s.size = ⟨(s.data.toList.drop k).toArray⟩ := extS s k
      have HXS := Lib.hid hxs
      obtain ⟨PR, hPR⟩ : ∃ PR, Lib.parseIntB 64 (numL s.data.toList) = PR := ⟨_, rfl⟩
      have hPR2 : Lib.parseIntB 64 (s.extract 0 k).data.toList = PR := by rw [hP]; exact hPR
      rw [hPR] at HNA
      have HPR := Lib.hid hPR2; have HPD := Lib.hid hP
      clear hxs hnum hnl HA hPR hPR2 hP
      by_cases hke : k = s.size
      · subst hke
        clear hlt
        have hsl2 := hsl
        have hss : s.extract 0 s.size = s := by rw [extP, ← hsl, List.take_length]
        rw [hss] at HPR HPD hPs
        rcases PR with n | _ | _
        rotate_left 1
        ·
          have hNAz : NA = .tuple #[zeroA, .string ⟨#[]⟩, .bool false] := HNA.out
          subst hNAz
          obtain ⟨ev, hev, hev'⟩ := K1.out.syn
          have hpi := Tryd.strconv_ParseInt_10_at64_bad s (by omega) (by rw [HPR.out]; rfl) ev W1 hev hev'
          have HPI := Lib.hid hpi; clear hpi hPs hsl hev hev'
          go_wp2_with fail
          rw [← HW1.out]
          refine (HPI.out).mono ?_
          rintro e3 w3 ⟨N, rfl, hN1, hN2, hb3⟩
          dsimp only
          have z1 := Z1.out
          have hr3 := (hb3.block R (by omega)).trans R1.out
          obtain ⟨⟨e0, e1, e2, e3, e4⟩, f0, f1, f2, f3, f4⟩ := box_of hr3
          rw [HR.out]
          go_wp2_with fail
          go_region
          all_goals
            go_wp2
            obtain ⟨wf, hwf⟩ : ∃ wf, wf = (set5 w3 R 0 (.int .i64 0) (.int .i64 0) (.string ⟨#[]⟩) (.slice none 0 0) (.slice none 0 0)).drew := ⟨_, rfl⟩
            change bodyPost _ _ _ _ _ (set5 w3 R 0 (.int .i64 0) (.int .i64 0) (.string ⟨#[]⟩) (.slice none 0 0) (.slice none 0 0)).drew
            rw [← hwf]
            have hx : wf.heap[R]? = some (.cells #[.int .i64 0, .int .i64 0, .string ⟨#[]⟩, .slice none 0 0, .slice none 0 0] 34 (0, 0)) := by rw [hwf, drew_heap]; exact set5_here hr3
            have hbf : Below w.heap.size w wf := by
              rw [hwf, HR.out]; exact ((B1.out.trans (hb3.mono (by omega))).trans (set5_below (Nat.le_refl _))).drew
            obtain ⟨⟨x0, x1, x2, x3, x4⟩, -⟩ := box_of hx
            have HBF := Lib.hid hbf
            clear hbf hwf hx e0 e1 e2 e3 e4 f0 f1 f2 f3 f4
            refine bodyPost_ret (v := .tuple #[zeroA, .string ⟨#[]⟩, .bool false]) (by simp [results, Tryd.results46, go_sem, zeroA, x0, x1, x2, x3, x4]) rfl ?_
            exact ⟨rfl, HBF.out⟩
        ·
          have hNAz : NA = .tuple #[zeroA, .string ⟨#[]⟩, .bool false] := HNA.out
          subst hNAz
          obtain ⟨ev, hev, hev'⟩ := K1.out.rng
          have hpi := Tryd.strconv_ParseInt_10_at64_range s (by omega) HPR.out ev W1 hev hev'
          have HPI := Lib.hid hpi; clear hpi hPs hsl hev hev'
          go_wp2_with fail
          rw [← HW1.out]
          refine (HPI.out).mono ?_
          rintro e3 w3 ⟨N, rfl, hN1, hN2, hb3⟩
          dsimp only
          have z1 := Z1.out
          have hr3 := (hb3.block R (by omega)).trans R1.out
          obtain ⟨⟨e0, e1, e2, e3, e4⟩, f0, f1, f2, f3, f4⟩ := box_of hr3
          rw [HR.out]
          go_wp2_with fail
          go_region
          all_goals
            go_wp2
            obtain ⟨wf, hwf⟩ : ∃ wf, wf = (set5 w3 R 0 (.int .i64 0) (.int .i64 0) (.string ⟨#[]⟩) (.slice none 0 0) (.slice none 0 0)).drew := ⟨_, rfl⟩
            change bodyPost _ _ _ _ _ (set5 w3 R 0 (.int .i64 0) (.int .i64 0) (.string ⟨#[]⟩) (.slice none 0 0) (.slice none 0 0)).drew
            rw [← hwf]
            have hx : wf.heap[R]? = some (.cells #[.int .i64 0, .int .i64 0, .string ⟨#[]⟩, .slice none 0 0, .slice none 0 0] 34 (0, 0)) := by rw [hwf, drew_heap]; exact set5_here hr3
            have hbf : Below w.heap.size w wf := by
              rw [hwf, HR.out]; exact ((B1.out.trans (hb3.mono (by omega))).trans (set5_below (Nat.le_refl _))).drew
            obtain ⟨⟨x0, x1, x2, x3, x4⟩, -⟩ := box_of hx
            have HBF := Lib.hid hbf
            clear hbf hwf hx e0 e1 e2 e3 e4 f0 f1 f2 f3 f4
            refine bodyPost_ret (v := .tuple #[zeroA, .string ⟨#[]⟩, .bool false]) (by simp [results, Tryd.results46, go_sem, zeroA, x0, x1, x2, x3, x4]) rfl ?_
            exact ⟨rfl, HBF.out⟩
        ·
          have hin := parseI_in HPR.out
          have hpi : Calls Tryd.prog 59 #[.string s, .int .i64 10, .int .i64 64] W1 fun e w' => e = .returned (.tuple #[.int .i64 n, .nilIface]) ∧ Below W1.heap.size W1 w' := (Tryd.strconv_ParseInt_10_at64_ok s (by omega) n HPR.out W1).mono (fun e w' ⟨h1, h2⟩ => ⟨h1, by
            rcases h2 with rfl | ⟨t, rfl⟩
            · exact Below.refl _ _
            · exact below_bytes _ _ _⟩)
          have hfi := fun wq (hb : Below R w wq) => formatInt_any n hin.1 hin.2 wq R (KitW.out.below hb).toTab
          have hd : (decI n == s.toList) = decide (decI n = numL s.data.toList) := by
            have hd0 : s.toList = numL s.data.toList := (ByteArray.toList_eq s).trans HPD.out
            rw [hd0, Bool.eq_iff_iff]; simp
          by_cases e : decI n = numL s.data.toList
          · rw [decide_eq_true e] at hd
            have hNAy : NA = .tuple #[.agg #[.int .i64 3, .int .i64 n, .string ⟨#[]⟩, .slice none 0 0, .slice none 0 0], .string ⟨(s.data.toList.drop s.size).toArray⟩, .bool true] := HNA.out.trans (if_pos e)
            subst hNAy
            clear e HNA HPD
            have HPI := Lib.hid hpi; have HFI := Lib.hid hfi; clear hpi hPs hsl hfi
            go_wp2_with fail
            rw [← HW1.out]
            refine (HPI.out).mono ?_
            rintro e3 w3 ⟨rfl, hb3⟩
            dsimp only
            have z1 := Z1.out
            have hb30 := B1.out.trans (hb3.mono (by omega))
            rw [HR.out]
            go_wp2_with fail
            go_region_held3 (fun _ => True) (exact trivial) (first | (go_at_call 39; with_reducible refine (HFI.out _ hb30.drew).mono ?_; rintro e4 w4 ⟨rfl, hb4⟩))
            have z3 := hb3.size
            have z4 := hb4.size
            have hb40 : Below R w w4 := hb30.trans ((below_drew2 _ _ hb4).mono (by omega))
            have hr4 := ((below_drew2 _ _ hb4).block R (by omega)).trans ((hb3.block R (by omega)).trans R1.out)
            obtain ⟨⟨e0, e1, e2, e3, e4⟩, f0, f1, f2, f3, f4⟩ := box_of hr4
            clear hb3 hb4 hb30 z1 z3 z4
            go_wp2_with fail
            go_region
            all_goals
              go_wp2
              obtain ⟨wf, hwf⟩ : ∃ wf, wf = (set5 w4 R 0 (.int .i64 3) (.int .i64 n) (.string ⟨#[]⟩) (.slice none 0 0) (.slice none 0 0)).drew := ⟨_, rfl⟩
              change bodyPost _ _ _ _ _ (set5 w4 R 0 (.int .i64 3) (.int .i64 n) (.string ⟨#[]⟩) (.slice none 0 0) (.slice none 0 0)).drew
              rw [← hwf]
              have hx : wf.heap[R]? = some (.cells #[.int .i64 3, .int .i64 n, .string ⟨#[]⟩, .slice none 0 0, .slice none 0 0] 34 (0, 0)) := by rw [hwf, drew_heap]; exact set5_here hr4
              have hbf : Below w.heap.size w wf := by
                rw [hwf, HR.out]; exact (hb40.trans (set5_below (Nat.le_refl _))).drew
              obtain ⟨⟨x0, x1, x2, x3, x4⟩, -⟩ := box_of hx
              have HBF := Lib.hid hbf
              clear hbf hwf hx e0 e1 e2 e3 e4 f0 f1 f2 f3 f4
              refine bodyPost_ret (v := .tuple #[.agg #[.int .i64 3, .int .i64 n, .string ⟨#[]⟩, .slice none 0 0, .slice none 0 0], .string ByteArray.empty, .bool true]) (by simp [results, Tryd.results46, go_sem, x0, x1, x2, x3, x4]) rfl ?_
              exact ⟨by rw [← hsl2, List.drop_length]; rfl, HBF.out⟩
          · rw [decide_eq_false e] at hd
            have hNAz : NA = .tuple #[zeroA, .string ⟨#[]⟩, .bool false] := HNA.out.trans (if_neg e)
            subst hNAz
            clear e HNA HPD
            have HPI := Lib.hid hpi; have HFI := Lib.hid hfi; clear hpi hPs hsl hfi
            go_wp2_with fail
            rw [← HW1.out]
            refine (HPI.out).mono ?_
            rintro e3 w3 ⟨rfl, hb3⟩
            dsimp only
            have z1 := Z1.out
            have hb30 := B1.out.trans (hb3.mono (by omega))
            rw [HR.out]
            go_wp2_with fail
            go_region_held3 (fun _ => True) (exact trivial) (first | (go_at_call 39; with_reducible refine (HFI.out _ hb30.drew).mono ?_; rintro e4 w4 ⟨rfl, hb4⟩))
            have z3 := hb3.size
            have z4 := hb4.size
            have hb40 : Below R w w4 := hb30.trans ((below_drew2 _ _ hb4).mono (by omega))
            have hr4 := ((below_drew2 _ _ hb4).block R (by omega)).trans ((hb3.block R (by omega)).trans R1.out)
            obtain ⟨⟨e0, e1, e2, e3, e4⟩, f0, f1, f2, f3, f4⟩ := box_of hr4
            clear hb3 hb4 hb30 z1 z3 z4
            go_wp2
            obtain ⟨wf, hwf⟩ : ∃ wf, wf = set5 w4 R 0 (.int .i64 0) (.int .i64 0) (.string ⟨#[]⟩) (.slice none 0 0) (.slice none 0 0) := ⟨_, rfl⟩
            change bodyPost _ _ _ _ _ (set5 w4 R 0 (.int .i64 0) (.int .i64 0) (.string ⟨#[]⟩) (.slice none 0 0) (.slice none 0 0))
            rw [← hwf]
            have hx : wf.heap[R]? = some (.cells #[.int .i64 0, .int .i64 0, .string ⟨#[]⟩, .slice none 0 0, .slice none 0 0] 34 (0, 0)) := by rw [hwf]; exact set5_here hr4
            have hbf : Below w.heap.size w wf := by
              rw [hwf, HR.out]; exact hb40.trans (set5_below (Nat.le_refl _))
            obtain ⟨⟨x0, x1, x2, x3, x4⟩, -⟩ := box_of hx
            have HBF := Lib.hid hbf
            clear hbf hwf hx e0 e1 e2 e3 e4 f0 f1 f2 f3 f4
            refine bodyPost_ret (v := .tuple #[zeroA, .string ⟨#[]⟩, .bool false]) (by simp [results, Tryd.results46, go_sem, zeroA, x0, x1, x2, x3, x4]) rfl ?_
            exact ⟨rfl, HBF.out⟩
      · have hks : k < s.size := by omega
        have hnc : numC s[k] = false := by
          cases hx : numC s[k] with
          | false => rfl
          | true => exact absurd ⟨hks, fun _ => hx⟩ hlt
        rw [numC_is, Bool.or_eq_false_iff, decide_eq_false_iff_not, decide_eq_false_iff_not] at hnc
        obtain ⟨n45, n09⟩ := hnc
        have hu := s[k].toNat_lt
        have t1 : ((s[k].toNat : Int) == 45) = false := by simp; omega
        clear hlt hke
        by_cases h48 : 48 ≤ s[k].toNat
        · have t2 : decide ((48 : Int) ≤ (s[k].toNat : Int)) = true := by simp; omega
          have t3 : decide ((s[k].toNat : Int) ≤ 57) = false := by simp; omega
          clear n45 n09 h48
          rcases PR with n | _ | _
          rotate_left 1
          ·
            have hNAz : NA = .tuple #[zeroA, .string ⟨#[]⟩, .bool false] := HNA.out
            subst hNAz
            obtain ⟨ev, hev, hev'⟩ := K1.out.syn
            have hpi := Tryd.strconv_ParseInt_10_at64_bad (s.extract 0 k) (by omega) (by rw [HPR.out]; rfl) ev W1 hev hev'
            have HPI := Lib.hid hpi; clear hpi hPs hsl hev hev'
            go_wp2_with fail
            rw [← HW1.out]
            refine (HPI.out).mono ?_
            rintro e3 w3 ⟨N, rfl, hN1, hN2, hb3⟩
            dsimp only
            have z1 := Z1.out
            have hr3 := (hb3.block R (by omega)).trans R1.out
            obtain ⟨⟨e0, e1, e2, e3, e4⟩, f0, f1, f2, f3, f4⟩ := box_of hr3
            rw [HR.out]
            go_wp2_with fail
            go_region
            all_goals
              go_wp2
              obtain ⟨wf, hwf⟩ : ∃ wf, wf = (set5 w3 R 0 (.int .i64 0) (.int .i64 0) (.string ⟨#[]⟩) (.slice none 0 0) (.slice none 0 0)).drew := ⟨_, rfl⟩
              change bodyPost _ _ _ _ _ (set5 w3 R 0 (.int .i64 0) (.int .i64 0) (.string ⟨#[]⟩) (.slice none 0 0) (.slice none 0 0)).drew
              rw [← hwf]
              have hx : wf.heap[R]? = some (.cells #[.int .i64 0, .int .i64 0, .string ⟨#[]⟩, .slice none 0 0, .slice none 0 0] 34 (0, 0)) := by rw [hwf, drew_heap]; exact set5_here hr3
              have hbf : Below w.heap.size w wf := by
                rw [hwf, HR.out]; exact ((B1.out.trans (hb3.mono (by omega))).trans (set5_below (Nat.le_refl _))).drew
              obtain ⟨⟨x0, x1, x2, x3, x4⟩, -⟩ := box_of hx
              have HBF := Lib.hid hbf
              clear hbf hwf hx e0 e1 e2 e3 e4 f0 f1 f2 f3 f4
              refine bodyPost_ret (v := .tuple #[zeroA, .string ⟨#[]⟩, .bool false]) (by simp [results, Tryd.results46, go_sem, zeroA, x0, x1, x2, x3, x4]) rfl ?_
              exact ⟨rfl, HBF.out⟩
          ·
            have hNAz : NA = .tuple #[zeroA, .string ⟨#[]⟩, .bool false] := HNA.out
            subst hNAz
            obtain ⟨ev, hev, hev'⟩ := K1.out.rng
            have hpi := Tryd.strconv_ParseInt_10_at64_range (s.extract 0 k) (by omega) HPR.out ev W1 hev hev'
            have HPI := Lib.hid hpi; clear hpi hPs hsl hev hev'
            go_wp2_with fail
            rw [← HW1.out]
            refine (HPI.out).mono ?_
            rintro e3 w3 ⟨N, rfl, hN1, hN2, hb3⟩
            dsimp only
            have z1 := Z1.out
            have hr3 := (hb3.block R (by omega)).trans R1.out
            obtain ⟨⟨e0, e1, e2, e3, e4⟩, f0, f1, f2, f3, f4⟩ := box_of hr3
            rw [HR.out]
            go_wp2_with fail
            go_region
            all_goals
              go_wp2
              obtain ⟨wf, hwf⟩ : ∃ wf, wf = (set5 w3 R 0 (.int .i64 0) (.int .i64 0) (.string ⟨#[]⟩) (.slice none 0 0) (.slice none 0 0)).drew := ⟨_, rfl⟩
              change bodyPost _ _ _ _ _ (set5 w3 R 0 (.int .i64 0) (.int .i64 0) (.string ⟨#[]⟩) (.slice none 0 0) (.slice none 0 0)).drew
              rw [← hwf]
              have hx : wf.heap[R]? = some (.cells #[.int .i64 0, .int .i64 0, .string ⟨#[]⟩, .slice none 0 0, .slice none 0 0] 34 (0, 0)) := by rw [hwf, drew_heap]; exact set5_here hr3
              have hbf : Below w.heap.size w wf := by
                rw [hwf, HR.out]; exact ((B1.out.trans (hb3.mono (by omega))).trans (set5_below (Nat.le_refl _))).drew
              obtain ⟨⟨x0, x1, x2, x3, x4⟩, -⟩ := box_of hx
              have HBF := Lib.hid hbf
              clear hbf hwf hx e0 e1 e2 e3 e4 f0 f1 f2 f3 f4
              refine bodyPost_ret (v := .tuple #[zeroA, .string ⟨#[]⟩, .bool false]) (by simp [results, Tryd.results46, go_sem, zeroA, x0, x1, x2, x3, x4]) rfl ?_
              exact ⟨rfl, HBF.out⟩
          ·
            have hin := parseI_in HPR.out
            have hpi : Calls Tryd.prog 59 #[.string (s.extract 0 k), .int .i64 10, .int .i64 64] W1 fun e w' => e = .returned (.tuple #[.int .i64 n, .nilIface]) ∧ Below W1.heap.size W1 w' := (Tryd.strconv_ParseInt_10_at64_ok (s.extract 0 k) (by omega) n HPR.out W1).mono (fun e w' ⟨h1, h2⟩ => ⟨h1, by
              rcases h2 with rfl | ⟨t, rfl⟩
              · exact Below.refl _ _
              · exact below_bytes _ _ _⟩)
            have hfi := fun wq (hb : Below R w wq) => formatInt_any n hin.1 hin.2 wq R (KitW.out.below hb).toTab
            have hd : (decI n == (s.extract 0 k).toList) = decide (decI n = numL s.data.toList) := by
              have hd0 : (s.extract 0 k).toList = numL s.data.toList := (ByteArray.toList_eq (s.extract 0 k)).trans HPD.out
              rw [hd0, Bool.eq_iff_iff]; simp
            by_cases e : decI n = numL s.data.toList
            · rw [decide_eq_true e] at hd
              have hNAy : NA = .tuple #[.agg #[.int .i64 3, .int .i64 n, .string ⟨#[]⟩, .slice none 0 0, .slice none 0 0], .string ⟨(s.data.toList.drop k).toArray⟩, .bool true] := HNA.out.trans (if_pos e)
              subst hNAy
              clear e HNA HPD
              have HPI := Lib.hid hpi; have HFI := Lib.hid hfi; clear hpi hPs hsl hfi
              go_wp2_with fail
              rw [← HW1.out]
              refine (HPI.out).mono ?_
              rintro e3 w3 ⟨rfl, hb3⟩
              dsimp only
              have z1 := Z1.out
              have hb30 := B1.out.trans (hb3.mono (by omega))
              rw [HR.out]
              go_wp2_with fail
              go_region_held3 (fun _ => True) (exact trivial) (first | (go_at_call 39; with_reducible refine (HFI.out _ hb30.drew).mono ?_; rintro e4 w4 ⟨rfl, hb4⟩))
              have z3 := hb3.size
              have z4 := hb4.size
              have hb40 : Below R w w4 := hb30.trans ((below_drew2 _ _ hb4).mono (by omega))
              have hr4 := ((below_drew2 _ _ hb4).block R (by omega)).trans ((hb3.block R (by omega)).trans R1.out)
              obtain ⟨⟨e0, e1, e2, e3, e4⟩, f0, f1, f2, f3, f4⟩ := box_of hr4
              clear hb3 hb4 hb30 z1 z3 z4
              go_wp2_with fail
              go_region
              all_goals
                go_wp2
                obtain ⟨wf, hwf⟩ : ∃ wf, wf = (set5 w4 R 0 (.int .i64 3) (.int .i64 n) (.string ⟨#[]⟩) (.slice none 0 0) (.slice none 0 0)).drew := ⟨_, rfl⟩
                change bodyPost _ _ _ _ _ (set5 w4 R 0 (.int .i64 3) (.int .i64 n) (.string ⟨#[]⟩) (.slice none 0 0) (.slice none 0 0)).drew
                rw [← hwf]
                have hx : wf.heap[R]? = some (.cells #[.int .i64 3, .int .i64 n, .string ⟨#[]⟩, .slice none 0 0, .slice none 0 0] 34 (0, 0)) := by rw [hwf, drew_heap]; exact set5_here hr4
                have hbf : Below w.heap.size w wf := by
                  rw [hwf, HR.out]; exact (hb40.trans (set5_below (Nat.le_refl _))).drew
                obtain ⟨⟨x0, x1, x2, x3, x4⟩, -⟩ := box_of hx
                have HBF := Lib.hid hbf
                clear hbf hwf hx e0 e1 e2 e3 e4 f0 f1 f2 f3 f4
                refine bodyPost_ret (v := .tuple #[.agg #[.int .i64 3, .int .i64 n, .string ⟨#[]⟩, .slice none 0 0, .slice none 0 0], .string (s.extract k s.size), .bool true]) (by simp [results, Tryd.results46, go_sem, x0, x1, x2, x3, x4]) rfl ?_
                exact ⟨by rw [HXS.out], HBF.out⟩
            · rw [decide_eq_false e] at hd
              have hNAz : NA = .tuple #[zeroA, .string ⟨#[]⟩, .bool false] := HNA.out.trans (if_neg e)
              subst hNAz
              clear e HNA HPD
              have HPI := Lib.hid hpi; have HFI := Lib.hid hfi; clear hpi hPs hsl hfi
              go_wp2_with fail
              rw [← HW1.out]
              refine (HPI.out).mono ?_
              rintro e3 w3 ⟨rfl, hb3⟩
              dsimp only
              have z1 := Z1.out
              have hb30 := B1.out.trans (hb3.mono (by omega))
              rw [HR.out]
              go_wp2_with fail
              go_region_held3 (fun _ => True) (exact trivial) (first | (go_at_call 39; with_reducible refine (HFI.out _ hb30.drew).mono ?_; rintro e4 w4 ⟨rfl, hb4⟩))
              have z3 := hb3.size
              have z4 := hb4.size
              have hb40 : Below R w w4 := hb30.trans ((below_drew2 _ _ hb4).mono (by omega))
              have hr4 := ((below_drew2 _ _ hb4).block R (by omega)).trans ((hb3.block R (by omega)).trans R1.out)
              obtain ⟨⟨e0, e1, e2, e3, e4⟩, f0, f1, f2, f3, f4⟩ := box_of hr4
              clear hb3 hb4 hb30 z1 z3 z4
              go_wp2
              obtain ⟨wf, hwf⟩ : ∃ wf, wf = set5 w4 R 0 (.int .i64 0) (.int .i64 0) (.string ⟨#[]⟩) (.slice none 0 0) (.slice none 0 0) := ⟨_, rfl⟩
              change bodyPost _ _ _ _ _ (set5 w4 R 0 (.int .i64 0) (.int .i64 0) (.string ⟨#[]⟩) (.slice none 0 0) (.slice none 0 0))
              rw [← hwf]
              have hx : wf.heap[R]? = some (.cells #[.int .i64 0, .int .i64 0, .string ⟨#[]⟩, .slice none 0 0, .slice none 0 0] 34 (0, 0)) := by rw [hwf]; exact set5_here hr4
              have hbf : Below w.heap.size w wf := by
                rw [hwf, HR.out]; exact hb40.trans (set5_below (Nat.le_refl _))
              obtain ⟨⟨x0, x1, x2, x3, x4⟩, -⟩ := box_of hx
              have HBF := Lib.hid hbf
              clear hbf hwf hx e0 e1 e2 e3 e4 f0 f1 f2 f3 f4
              refine bodyPost_ret (v := .tuple #[zeroA, .string ⟨#[]⟩, .bool false]) (by simp [results, Tryd.results46, go_sem, zeroA, x0, x1, x2, x3, x4]) rfl ?_
              exact ⟨rfl, HBF.out⟩
        · have t2 : decide ((48 : Int) ≤ (s[k].toNat : Int)) = false := by simp; omega
          clear n45 n09 h48
          rcases PR with n | _ | _
          rotate_left 1
          ·
            have hNAz : NA = .tuple #[zeroA, .string ⟨#[]⟩, .bool false] := HNA.out
            subst hNAz
            obtain ⟨ev, hev, hev'⟩ := K1.out.syn
            have hpi := Tryd.strconv_ParseInt_10_at64_bad (s.extract 0 k) (by omega) (by rw [HPR.out]; rfl) ev W1 hev hev'
            have HPI := Lib.hid hpi; clear hpi hPs hsl hev hev'
            go_wp2_with fail
            rw [← HW1.out]
            refine (HPI.out).mono ?_
            rintro e3 w3 ⟨N, rfl, hN1, hN2, hb3⟩
            dsimp only
            have z1 := Z1.out
            have hr3 := (hb3.block R (by omega)).trans R1.out
            obtain ⟨⟨e0, e1, e2, e3, e4⟩, f0, f1, f2, f3, f4⟩ := box_of hr3
            rw [HR.out]
            go_wp2_with fail
            go_region
            all_goals
              go_wp2
              obtain ⟨wf, hwf⟩ : ∃ wf, wf = (set5 w3 R 0 (.int .i64 0) (.int .i64 0) (.string ⟨#[]⟩) (.slice none 0 0) (.slice none 0 0)).drew := ⟨_, rfl⟩
              change bodyPost _ _ _ _ _ (set5 w3 R 0 (.int .i64 0) (.int .i64 0) (.string ⟨#[]⟩) (.slice none 0 0) (.slice none 0 0)).drew
              rw [← hwf]
              have hx : wf.heap[R]? = some (.cells #[.int .i64 0, .int .i64 0, .string ⟨#[]⟩, .slice none 0 0, .slice none 0 0] 34 (0, 0)) := by rw [hwf, drew_heap]; exact set5_here hr3
              have hbf : Below w.heap.size w wf := by
                rw [hwf, HR.out]; exact ((B1.out.trans (hb3.mono (by omega))).trans (set5_below (Nat.le_refl _))).drew
              obtain ⟨⟨x0, x1, x2, x3, x4⟩, -⟩ := box_of hx
              have HBF := Lib.hid hbf
              clear hbf hwf hx e0 e1 e2 e3 e4 f0 f1 f2 f3 f4
              refine bodyPost_ret (v := .tuple #[zeroA, .string ⟨#[]⟩, .bool false]) (by simp [results, Tryd.results46, go_sem, zeroA, x0, x1, x2, x3, x4]) rfl ?_
              exact ⟨rfl, HBF.out⟩
          ·
            have hNAz : NA = .tuple #[zeroA, .string ⟨#[]⟩, .bool false] := HNA.out
            subst hNAz
            obtain ⟨ev, hev, hev'⟩ := K1.out.rng
            have hpi := Tryd.strconv_ParseInt_10_at64_range (s.extract 0 k) (by omega) HPR.out ev W1 hev hev'
            have HPI := Lib.hid hpi; clear hpi hPs hsl hev hev'
            go_wp2_with fail
            rw [← HW1.out]
            refine (HPI.out).mono ?_
            rintro e3 w3 ⟨N, rfl, hN1, hN2, hb3⟩
            dsimp only
            have z1 := Z1.out
            have hr3 := (hb3.block R (by omega)).trans R1.out
            obtain ⟨⟨e0, e1, e2, e3, e4⟩, f0, f1, f2, f3, f4⟩ := box_of hr3
            rw [HR.out]
            go_wp2_with fail
            go_region
            all_goals
              go_wp2
              obtain ⟨wf, hwf⟩ : ∃ wf, wf = (set5 w3 R 0 (.int .i64 0) (.int .i64 0) (.string ⟨#[]⟩) (.slice none 0 0) (.slice none 0 0)).drew := ⟨_, rfl⟩
              change bodyPost _ _ _ _ _ (set5 w3 R 0 (.int .i64 0) (.int .i64 0) (.string ⟨#[]⟩) (.slice none 0 0) (.slice none 0 0)).drew
              rw [← hwf]
              have hx : wf.heap[R]? = some (.cells #[.int .i64 0, .int .i64 0, .string ⟨#[]⟩, .slice none 0 0, .slice none 0 0] 34 (0, 0)) := by rw [hwf, drew_heap]; exact set5_here hr3
              have hbf : Below w.heap.size w wf := by
                rw [hwf, HR.out]; exact ((B1.out.trans (hb3.mono (by omega))).trans (set5_below (Nat.le_refl _))).drew
              obtain ⟨⟨x0, x1, x2, x3, x4⟩, -⟩ := box_of hx
              have HBF := Lib.hid hbf
              clear hbf hwf hx e0 e1 e2 e3 e4 f0 f1 f2 f3 f4
              refine bodyPost_ret (v := .tuple #[zeroA, .string ⟨#[]⟩, .bool false]) (by simp [results, Tryd.results46, go_sem, zeroA, x0, x1, x2, x3, x4]) rfl ?_
              exact ⟨rfl, HBF.out⟩
          ·
            have hin := parseI_in HPR.out
            have hpi : Calls Tryd.prog 59 #[.string (s.extract 0 k), .int .i64 10, .int .i64 64] W1 fun e w' => e = .returned (.tuple #[.int .i64 n, .nilIface]) ∧ Below W1.heap.size W1 w' := (Tryd.strconv_ParseInt_10_at64_ok (s.extract 0 k) (by omega) n HPR.out W1).mono (fun e w' ⟨h1, h2⟩ => ⟨h1, by
              rcases h2 with rfl | ⟨t, rfl⟩
              · exact Below.refl _ _
              · exact below_bytes _ _ _⟩)
            have hfi := fun wq (hb : Below R w wq) => formatInt_any n hin.1 hin.2 wq R (KitW.out.below hb).toTab
            have hd : (decI n == (s.extract 0 k).toList) = decide (decI n = numL s.data.toList) := by
              have hd0 : (s.extract 0 k).toList = numL s.data.toList := (ByteArray.toList_eq (s.extract 0 k)).trans HPD.out
              rw [hd0, Bool.eq_iff_iff]; simp
            by_cases e : decI n = numL s.data.toList
            · rw [decide_eq_true e] at hd
              have hNAy : NA = .tuple #[.agg #[.int .i64 3, .int .i64 n, .string ⟨#[]⟩, .slice none 0 0, .slice none 0 0], .string ⟨(s.data.toList.drop k).toArray⟩, .bool true] := HNA.out.trans (if_pos e)
              subst hNAy
              clear e HNA HPD
              have HPI := Lib.hid hpi; have HFI := Lib.hid hfi; clear hpi hPs hsl hfi
              go_wp2_with fail
              rw [← HW1.out]
              refine (HPI.out).mono ?_
              rintro e3 w3 ⟨rfl, hb3⟩
              dsimp only
              have z1 := Z1.out
              have hb30 := B1.out.trans (hb3.mono (by omega))
              rw [HR.out]
              go_wp2_with fail
              go_region_held3 (fun _ => True) (exact trivial) (first | (go_at_call 39; with_reducible refine (HFI.out _ hb30.drew).mono ?_; rintro e4 w4 ⟨rfl, hb4⟩))
              have z3 := hb3.size
              have z4 := hb4.size
              have hb40 : Below R w w4 := hb30.trans ((below_drew2 _ _ hb4).mono (by omega))
              have hr4 := ((below_drew2 _ _ hb4).block R (by omega)).trans ((hb3.block R (by omega)).trans R1.out)
              obtain ⟨⟨e0, e1, e2, e3, e4⟩, f0, f1, f2, f3, f4⟩ := box_of hr4
              clear hb3 hb4 hb30 z1 z3 z4
              go_wp2_with fail
              go_region
              all_goals
                go_wp2
                obtain ⟨wf, hwf⟩ : ∃ wf, wf = (set5 w4 R 0 (.int .i64 3) (.int .i64 n) (.string ⟨#[]⟩) (.slice none 0 0) (.slice none 0 0)).drew := ⟨_, rfl⟩
                change bodyPost _ _ _ _ _ (set5 w4 R 0 (.int .i64 3) (.int .i64 n) (.string ⟨#[]⟩) (.slice none 0 0) (.slice none 0 0)).drew
                rw [← hwf]
                have hx : wf.heap[R]? = some (.cells #[.int .i64 3, .int .i64 n, .string ⟨#[]⟩, .slice none 0 0, .slice none 0 0] 34 (0, 0)) := by rw [hwf, drew_heap]; exact set5_here hr4
                have hbf : Below w.heap.size w wf := by
                  rw [hwf, HR.out]; exact (hb40.trans (set5_below (Nat.le_refl _))).drew
                obtain ⟨⟨x0, x1, x2, x3, x4⟩, -⟩ := box_of hx
                have HBF := Lib.hid hbf
                clear hbf hwf hx e0 e1 e2 e3 e4 f0 f1 f2 f3 f4
                refine bodyPost_ret (v := .tuple #[.agg #[.int .i64 3, .int .i64 n, .string ⟨#[]⟩, .slice none 0 0, .slice none 0 0], .string (s.extract k s.size), .bool true]) (by simp [results, Tryd.results46, go_sem, x0, x1, x2, x3, x4]) rfl ?_
                exact ⟨by rw [HXS.out], HBF.out⟩
            · rw [decide_eq_false e] at hd
              have hNAz : NA = .tuple #[zeroA, .string ⟨#[]⟩, .bool false] := HNA.out.trans (if_neg e)
              subst hNAz
              clear e HNA HPD
              have HPI := Lib.hid hpi; have HFI := Lib.hid hfi; clear hpi hPs hsl hfi
              go_wp2_with fail
              rw [← HW1.out]
              refine (HPI.out).mono ?_
              rintro e3 w3 ⟨rfl, hb3⟩
              dsimp only
              have z1 := Z1.out
              have hb30 := B1.out.trans (hb3.mono (by omega))
              rw [HR.out]
              go_wp2_with fail
              go_region_held3 (fun _ => True) (exact trivial) (first | (go_at_call 39; with_reducible refine (HFI.out _ hb30.drew).mono ?_; rintro e4 w4 ⟨rfl, hb4⟩))
              have z3 := hb3.size
              have z4 := hb4.size
              have hb40 : Below R w w4 := hb30.trans ((below_drew2 _ _ hb4).mono (by omega))
              have hr4 := ((below_drew2 _ _ hb4).block R (by omega)).trans ((hb3.block R (by omega)).trans R1.out)
              obtain ⟨⟨e0, e1, e2, e3, e4⟩, f0, f1, f2, f3, f4⟩ := box_of hr4
              clear hb3 hb4 hb30 z1 z3 z4
              go_wp2
              obtain ⟨wf, hwf⟩ : ∃ wf, wf = set5 w4 R 0 (.int .i64 0) (.int .i64 0) (.string ⟨#[]⟩) (.slice none 0 0) (.slice none 0 0) := ⟨_, rfl⟩
              change bodyPost _ _ _ _ _ (set5 w4 R 0 (.int .i64 0) (.int .i64 0) (.string ⟨#[]⟩) (.slice none 0 0) (.slice none 0 0))
              rw [← hwf]
              have hx : wf.heap[R]? = some (.cells #[.int .i64 0, .int .i64 0, .string ⟨#[]⟩, .slice none 0 0, .slice none 0 0] 34 (0, 0)) := by rw [hwf]; exact set5_here hr4
              have hbf : Below w.heap.size w wf := by
                rw [hwf, HR.out]; exact hb40.trans (set5_below (Nat.le_refl _))
              obtain ⟨⟨x0, x1, x2, x3, x4⟩, -⟩ := box_of hx
              have HBF := Lib.hid hbf
              clear hbf hwf hx e0 e1 e2 e3 e4 f0 f1 f2 f3 f4
              refine bodyPost_ret (v := .tuple #[zeroA, .string ⟨#[]⟩, .bool false]) (by simp [results, Tryd.results46, go_sem, zeroA, x0, x1, x2, x3, x4]) rfl ?_
              exact ⟨rfl, HBF.out⟩
end Go.Proofs.YtjgjajnpbcghmaaDoor
