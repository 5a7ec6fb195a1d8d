/- JSON: the reference's many: a list. -/
import Derived.Test.YtoijjcbcmjdggaaDoorJsonGroup
import Derived.Test.YtoijjcbcmjdggaaDoorJsonRRead
import Derived.Test.YtoijjcbcmjdggaaDoorJsonWord
namespace Go.Proofs.YtoijjcbcmjdggaaDoor
open Go.RowKit
set_option linter.unusedVariables false
set_option linter.unusedSimpArgs false

theorem loopT_list (f : Nat) (s : List UInt8) (n : Nat) (ks : List (List UInt8)) (l : List V) : loopT (f + 1) false s n ks l = (match valueT f s with
      | (x, k) =>
        if k = 0 then (.mk 5 0 [] l ks, 0)
        else if beginsB (s.drop k) [93] then (.mk 5 0 [] (l ++ [x]) ks, n + k + 1)
        else if beginsB (s.drop k) [44] then loopT f false (s.drop (k + 1)) (n + k + 1) ks (l ++ [x])
        else (.mk 5 0 [] (l ++ [x]) ks, 0)) := by
  rw [loopT_succ]
  unfold keyT
  simp only [Bool.false_eq_true, if_false, List.drop_zero, Nat.zero_add, Nat.add_zero]
/-- what value answers -/
def ValT (f : Nat) (s : List UInt8) : Prop := ∀ w : World, Calls Tryd.prog 30 #[.string ⟨s.toArray⟩] w fun e w' =>
  (∃ k n t A a b A' a' b', e = .returned (.tuple #[.agg #[.int .i64 k, .int .i64 n, .string t, .slice A a b, .slice A' a' b'], .int .i64 ((valueT f s).2 : Int)]) ∧
    VIs w' w.heap.size w'.heap.size (valueT f s).1 [.int .i64 k, .int .i64 n, .string t, .slice A a b, .slice A' a' b']) ∧ Below w.heap.size w w'
/-- what a list's, or an object's, text is read as -/
def manyR (f : Nat) (obj : Bool) (s : List UInt8) : V × Nat :=
  if beginsB (s.drop 1) [if obj then 125 else 93] then (.mk (if obj then 6 else 5) 0 [] [] [], 2) else loopT f obj (s.drop 1) 1 [] []
def ManyT (f : Nat) (obj : Bool) (s : List UInt8) : Prop := ∀ w : World, Calls Tryd.prog 51 #[.string ⟨s.toArray⟩] w fun e w' =>
  (∃ k n t A a b A' a' b', e = .returned (.tuple #[.agg #[.int .i64 k, .int .i64 n, .string t, .slice A a b, .slice A' a' b'], .int .i64 ((manyR f obj s).2 : Int)]) ∧
    VIs w' w.heap.size w'.heap.size (manyR f obj s).1 [.int .i64 k, .int .i64 n, .string t, .slice A a b, .slice A' a' b']) ∧ Below w.heap.size w w'
theorem ext_drop (s : List UInt8) (n : Nat) : (⟨s.toArray⟩ : ByteArray).extract n (⟨s.toArray⟩ : ByteArray).size = ⟨(s.drop n).toArray⟩ := extS ⟨s.toArray⟩ n
/-- no key is longer than a length may be -/
def ShortK (ks : List (List UInt8)) : Prop := ∀ x ∈ ks, x.length ≤ 9223372036854775807
theorem begins_at (s t : List UInt8) (w : World) : Calls Tryd.prog 49 #[.string ⟨s.toArray⟩, .string ⟨t.toArray⟩] w fun e w' => e = .returned (.bool (beginsB s t)) ∧ w = w' := refBegins_any ⟨s.toArray⟩ ⟨t.toArray⟩ w
set_option maxRecDepth 100000 in
set_option maxHeartbeats 40000000 in
theorem manyList (m : Nat) (ih : ∀ f s, f ≤ m → s.length ≤ 4096 → 2 * s.length + 1 ≤ f → ValT f s) (f : Nat) (r0 : List UInt8) (hf : f ≤ m + 1) (hs : (91 :: r0).length ≤ 4096) (hfs : 2 * r0.length + 2 ≤ f) : ManyT f false (91 :: r0) := by
  intro w
  obtain ⟨s, hss⟩ : ∃ s : List UInt8, 91 :: r0 = s := ⟨_, rfl⟩
  obtain ⟨S, hS⟩ : ∃ S : ByteArray, S = ⟨s.toArray⟩ := ⟨_, rfl⟩
  have hsz : S.size = s.length := by rw [hS]; show s.toArray.size = _; simp
  have hsl : s.length = r0.length + 1 := by rw [← hss]; simp
  have hpos : 0 < S.size := by omega
  have h0 : S[0] = 91 := by subst hS; subst hss; rfl
  have t0 : ((S[0].toNat : Int) == 123) = false := by rw [h0]; rfl
  have hext : ∀ n, S.extract n S.size = ⟨(s.drop n).toArray⟩ := fun n => by rw [hS]; exact ext_drop s n
  have hbg : ∀ (n : Nat) (t : List UInt8) wq, Calls Tryd.prog 49 #[.string (S.extract n S.size), .string ⟨t.toArray⟩] wq fun e w' => e = .returned (.bool (beginsB (s.drop n) t)) ∧ wq = w' := fun n t wq => by rw [hext]; exact begins_at _ _ wq
  rw [hss] at hs ⊢
  rw [← hS]
  obtain ⟨RES, hRES⟩ : ∃ RES, manyR f false s = RES := ⟨_, rfl⟩
  rw [hRES]
  obtain ⟨R, hR⟩ : ∃ R, w.heap.size = R := ⟨_, rfl⟩
  obtain ⟨W2, hW2⟩ : ∃ W2, W2 = ((w.alloc (.cells #[.int .i64 0, .int .i64 0, .string ⟨#[]⟩, .slice none 0 0, .slice none 0 0] 25)).alloc (.cells #[.int .i64 5, .int .i64 0, .string ⟨#[]⟩, .slice none 0 0, .slice none 0 0] 25)) := ⟨_, rfl⟩
  have gst : GSt R 5 w W2 (.slice none 0 0) (.slice none 0 0) [] [] [] := by
    refine ⟨?_, ?_, ⟨rfl, .inl ⟨rfl, rfl⟩⟩, ⟨rfl, .inl ⟨rfl, rfl⟩⟩, fun i hi => absurd hi (Nat.not_lt_zero _), ?_, ?_⟩
    · rw [hW2, ← hR]
      have := heap_alloc_last (w.alloc (.cells #[.int .i64 0, .int .i64 0, .string ⟨#[]⟩, .slice none 0 0, .slice none 0 0] 25)) (.cells #[.int .i64 5, .int .i64 0, .string ⟨#[]⟩, .slice none 0 0, .slice none 0 0] 25)
      simpa using this
    · rw [hW2, ← hR, Below.heap_alloc _ _ _ (by simp)]; exact heap_alloc_last w _
    · rw [hW2, ← hR]; exact ((Below.refl _ _).alloc (Nat.le_refl _) _).alloc (by simp) _
    · rw [hW2, ← hR]; simp
  obtain ⟨z1, hz1⟩ : ∃ z, beginsB (s.drop 1) [93] = z := ⟨_, rfl⟩
  have hb1 := fun wq => hbg 1 [93] wq
  rw [hz1] at hb1
  have hR1 : RES = if z1 then (.mk 5 0 [] [] [], 2) else loopT f false (s.drop 1) 1 [] [] := by
    rw [← hRES, ← hz1]; unfold manyR; simp
  have HB1 := Lib.hid hb1; have GST := Lib.hid gst; have HR := Lib.hid hR; have HW2 := Lib.hid hW2; have IH := Lib.hid ih; have HBG := Lib.hid hbg; have HEXT := Lib.hid hext; have HSZ := Lib.hid hsz; have HSS := Lib.hid hsl; have HRR := Lib.hid hR1; have HS := Lib.hid hS
  clear hb1 gst hR hW2 ih hbg hext hRES hz1 h0 hss hS hsl hR1 hsz
  cases z1 with
  | true =>
    have e : RES = (.mk 5 0 [] [] [], 2) := HRR.out
    subst e
    obtain ⟨⟨e0, e1, e2, e3, e4⟩, f0, f1, f2, f3, f4⟩ := box_of GST.out.var
    obtain ⟨⟨p0, p1, p2, p3, p4⟩, q0, q1, q2, q3, q4⟩ := box_of GST.out.res
    rw [HW2.out, ← HR.out] at e0 e1 e2 e3 e4 f0 f1 f2 f3 f4 p0 p1 p2 p3 p4 q0 q1 q2 q3 q4
    go_enter Tryd.func51, Tryd.ntmps51
    go_wp2_with (go_at_call 49; refine (HB1.out _).mono ?_; rintro e1 w1 ⟨rfl, rfl⟩)
    refine bodyPost_ret (v := .tuple #[.agg #[.int .i64 5, .int .i64 0, .string ⟨#[]⟩, .slice none 0 0, .slice none 0 0], .int .i64 2]) (by simp [results, Tryd.results51, go_sem]) rfl ?_
    refine ⟨⟨_, _, _, _, _, _, _, _, _, rfl, VIs.mk (t := []) (l := []) (ks := []) ⟨by simp, by simp, by simp, by simp⟩ (.inl rfl) (.inl rfl)⟩, ((Below.refl _ _).alloc (Nat.le_refl _) _).alloc (by simp) _⟩
  | false =>
    have e : RES = loopT f false (s.drop 1) 1 [] [] := HRR.out
    have ER := Lib.hid e
    clear e HRR
    obtain ⟨i0, hi, hz0, hz1, hz2⟩ := info_parts Tryd.infoVal
    go_enter Tryd.func51, Tryd.ntmps51
    go_wp2_with (go_at_call 49; refine (HB1.out _).mono ?_; rintro e1 w1 ⟨rfl, rfl⟩)
    rw [← HW2.out, HR.out]
    go_loopw [6] (fun iv wr => ∃ (n f1 : Nat) (l : List V) (lv : Value) (xs : List Value), iv = .int .i64 n ∧ 1 ≤ n ∧ n ≤ S.size ∧ l.length ≤ n ∧ f1 ≤ m + 1 ∧ 2 * (S.size - n) + 2 ≤ f1 ∧ loopT f1 false (s.drop n) n [] l = RES ∧ GSt R 5 w wr lv (.slice none 0 0) l [] xs) (fun iv _ => S.size - (intOf iv).toNat)
    case atStart => exact ⟨1, f, [], _, [], rfl, Nat.le_refl _, by omega, Nat.zero_le _, hf, by have := HSZ.out; have := HSS.out; omega, ER.out.symm, GST.out⟩
    case round =>
      obtain ⟨n, f1, l, lv, xs, rfl, hn1, hn2, hln, hf1, hf2, hG, gst⟩ := hrel
      obtain ⟨f2, rfl⟩ : ∃ f2, f1 = f2 + 1 := ⟨f1 - 1, by omega⟩
      rw [loopT_list] at hG
      obtain ⟨LA, lc, rfl⟩ := own_form gst.rowL
      have hval := IH.out f2 (s.drop n) (by omega) (by rw [List.length_drop]; omega) (by rw [List.length_drop]; have := HSZ.out; omega) wr
      have hrd := (read_all f2).1 (s.drop n)
      obtain ⟨⟨x, k⟩, hv⟩ : ∃ y, valueT f2 (s.drop n) = y := ⟨_, rfl⟩
      rw [hv] at hG hval hrd
      dsimp only at hG hval hrd
      rw [← HEXT.out n] at hval
      have hkl : n + k ≤ S.size := by have := hrd.1; rw [List.length_drop] at this; have := HSZ.out; omega
      have hS4 : S.size ≤ 4096 := by have := HSZ.out; omega
      have hn3 : n ≤ 4096 := by omega
      have hsz := gst.size
      have v0 := (box_of gst.var).1.1
      have GS := Lib.hid gst; have HV := Lib.hid hval
      clear hrd hval hv
      by_cases hk0 : k = 0
      · subst hk0
        have e : RES = (.mk 5 0 [] l [], 0) := hG.symm
        subst e
        clear hG gst
        go_wp2_with fail
        refine (HV.out).mono ?_
        rintro e2 w3 ⟨⟨k', n', tt, A, a, b, A', a', b', rfl, hx⟩, hb2⟩
        dsimp only
        have hb3 := hb2.alloc hb2.size (.cells #[.int .i64 k', .int .i64 n', .string tt, .slice A a b, .slice A' a' b'] 25)
        have g2 := GS.out.later hb3
        obtain ⟨⟨e0, e1, e2, e3, e4⟩, f0, f1, f2', f3, f4⟩ := box_of g2.var
        obtain ⟨⟨p0, p1, p2, p3, p4⟩, q0, q1, q2, q3, q4⟩ := box_of g2.res
        have G2 := Lib.hid g2; clear g2 hb3 hx hb2
        go_wp2_with fail
        obtain ⟨wf, hwf⟩ : ∃ wf, wf = set5 (w3.alloc (.cells #[.int .i64 k', .int .i64 n', .string tt, .slice A a b, .slice A' a' b'] 25)) R 0 (.int .i64 5) (.int .i64 0) (.string ⟨#[]⟩) (.slice LA l.length lc) (.slice none 0 0) := ⟨_, rfl⟩
        change bodyPost _ _ _ _ _ (set5 (w3.alloc (.cells #[.int .i64 k', .int .i64 n', .string tt, .slice A a b, .slice A' a' b'] 25)) R 0 (.int .i64 5) (.int .i64 0) (.string ⟨#[]⟩) (.slice LA l.length lc) (.slice none 0 0))
        rw [← hwf]
        have hx : wf.heap[R]? = some (.cells #[.int .i64 5, .int .i64 0, .string ⟨#[]⟩, .slice LA l.length lc, .slice none 0 0] 25 (0, 0)) := by rw [hwf]; exact set5_here G2.out.res
        have hbf : Below R w wf := by rw [hwf]; exact G2.out.low.trans (set5_below (Nat.le_refl _))
        have hvf : VIs wf R wf.heap.size (.mk 5 0 [] l []) [.int .i64 5, .int .i64 0, .string ⟨#[]⟩, .slice LA l.length lc, .slice none 0 0] := G2.out.done (by omega) (by simp) (by simp) (fun b hb => by rw [hwf]; exact set5_there hb) (by rw [hwf, set5_size])
        obtain ⟨⟨x0, x1, x2, x3, x4⟩, -⟩ := box_of hx
        have HBF := Lib.hid hbf; have HVF := Lib.hid hvf
        clear hbf hvf hwf hx e0 e1 e2 e3 e4 f0 f1 f2' f3 f4 p0 p1 p2 p3 p4 q0 q1 q2 q3 q4
        refine bodyPost_ret (v := .tuple #[.agg #[.int .i64 5, .int .i64 0, .string ⟨#[]⟩, .slice LA l.length lc, .slice none 0 0], .int .i64 0]) (by simp [results, Tryd.results51, go_sem, x0, x1, x2, x3, x4]) rfl ?_
        rw [HR.out]
        exact ⟨⟨_, _, _, _, _, _, _, _, _, rfl, HVF.out⟩, HBF.out⟩
      · rw [if_neg hk0, List.drop_drop, List.drop_drop] at hG
        have hE1 := fun wq => HBG.out (n + k) [93] wq
        have hE2 := fun wq => HBG.out (n + k) [44] wq
        obtain ⟨zE, hzE⟩ : ∃ z, beginsB (s.drop (n + k)) [93] = z := ⟨_, rfl⟩
        obtain ⟨zC, hzC⟩ : ∃ z, beginsB (s.drop (n + k)) [44] = z := ⟨_, rfl⟩
        rw [hzE] at hE1 hG
        rw [hzC] at hE2 hG
        have hcl : zC = true → n + k + 1 ≤ S.size := fun h => by
          rw [h] at hzC
          have := begins_len hzC
          rw [List.length_drop, List.length_singleton] at this
          have := HSZ.out; omega
        have HG := Lib.hid hG; have HE1 := Lib.hid hE1; have HE2 := Lib.hid hE2; have HCL := Lib.hid hcl
        have d0 : ((k : Int) == 0) = false := by simp; omega
        clear hG hE1 hE2 hzE hzC hcl gst
        go_wp2_with fail
        refine (HV.out).mono ?_
        rintro e2 w3 ⟨⟨k', n', tt, A, a, b, A', a', b', rfl, hx⟩, hb2⟩
        dsimp only
        obtain ⟨IT, hIT⟩ : ∃ IT, IT = Obj.cells #[.int .i64 k', .int .i64 n', .string tt, .slice A a b, .slice A' a' b'] 25 := ⟨_, rfl⟩
        have hb3 := hb2.alloc hb2.size IT
        have g3 := GS.out.later hb3
        have g4 := GS.out.later (hb3.alloc hb3.size IT)
        have hx4 := hx.below (((Below.refl w3.heap.size w3).alloc (Nat.le_refl _) IT).alloc (by simp) IT)
        have hzw := hb2.size
        rw [hIT] at g3 g4 hx4 hb3
        obtain ⟨⟨e0, e1, e2, e3, e4⟩, f0, f1, f2', f3, f4⟩ := box_of g3.var
        obtain ⟨-, y0, y1, y2, y3, y4⟩ := box_of g4.var
        have G4 := Lib.hid g4; have HX4 := Lib.hid hx4; have HB3 := Lib.hid hb3
        clear g3 g4 hx4 hb3 hx hIT
        have hRlt : R + 1 < w3.heap.size := by have := GS.out.size; omega
        go_wp2_with (at_builtin; go_loud (refine wpList_append_own_at _ rfl (.tmp 67) (.tmp 69) 22 rfl (R + 2) 25 i0 _ 5 80 Tryd.underlying22 hi hz0 hz1 hz2 rfl (by decide) _ _ _ rfl G4.out.rowL ⟨_, 0, none⟩ 1 1 [.int .i64 k', .int .i64 n', .string tt, .slice A a b, .slice A' a' b'] rfl rfl (new_cells1 _ _ #[_, _, _, _, _] _) (by intro u hu; simp at hu; rcases hu with rfl | rfl | rfl | rfl | rfl <;> rfl) (by unfold maxLen; omega) (by omega) (by simp; omega) ?_; intro v5 w5 hown hgrow hnil hat; obtain ⟨A5, c5, rfl⟩ := own_form hown; obtain ⟨⟨p0, p1, p2, p3, p4⟩, q0, q1, q2, q3, q4⟩ := box_of (G4.out.varL hgrow)))
        have g6 := G4.out.item x HX4.out hsz (by simp; omega) (fun g hg => by
          have h1 := GS.out.rowL.lt g; have h2 := GS.out.rowK.lt g
          rcases hg with hg | hg
          · have := (h1 hg).2; omega
          · have := (h2 hg).2; omega) hown hgrow hat
        obtain ⟨w6, hw6⟩ : ∃ w6, w6 = w5.setCell ⟨R + 1, 3, none⟩ (.slice A5 (l.length + 1) c5) := ⟨_, rfl⟩
        rw [← hw6] at g6 ⊢
        have G6 := Lib.hid g6
        clear hw6 e0 e1 e2 e3 e4 f0 f1 f2' f3 f4 y0 y1 y2 y3 y4 p0 p1 p2 p3 p4 q0 q1 q2 q3 q4 hown hgrow hnil hat
        obtain ⟨⟨e0, e1, e2, e3, e4⟩, f0, f1, f2', f3, f4⟩ := box_of g6.var
        obtain ⟨⟨p0, p1, p2, p3, p4⟩, q0, q1, q2, q3, q4⟩ := box_of g6.res
        clear g6
        cases zE with
        | true =>
          have e : RES = (.mk 5 0 [] (l ++ [x]) [], n + k + 1) := HG.out.symm.trans (if_pos rfl)
          subst e
          refine (HE1.out _).mono ?_
          rintro e7 w7 ⟨rfl, rfl⟩
          dsimp only
          go_wp2_with fail
          obtain ⟨wf, hwf⟩ : ∃ wf, wf = set5 w6 R 0 (.int .i64 5) (.int .i64 0) (.string ⟨#[]⟩) (.slice A5 (l.length + 1) c5) (.slice none 0 0) := ⟨_, rfl⟩
          change bodyPost _ _ _ _ _ (set5 w6 R 0 (.int .i64 5) (.int .i64 0) (.string ⟨#[]⟩) (.slice A5 (l.length + 1) c5) (.slice none 0 0))
          rw [← hwf]
          have hx : wf.heap[R]? = some (.cells #[.int .i64 5, .int .i64 0, .string ⟨#[]⟩, .slice A5 (l.length + 1) c5, .slice none 0 0] 25 (0, 0)) := by rw [hwf]; exact set5_here G6.out.res
          have hbf : Below R w wf := by rw [hwf]; exact G6.out.low.trans (set5_below (Nat.le_refl _))
          have hvf : VIs wf R wf.heap.size (.mk 5 0 [] (l ++ [x]) []) [.int .i64 5, .int .i64 0, .string ⟨#[]⟩, .slice A5 (l.length + 1) c5, .slice none 0 0] := G6.out.done (by simp; omega) (by simp) (by simp) (fun b hb => by rw [hwf]; exact set5_there hb) (by rw [hwf, set5_size])
          obtain ⟨⟨x0, x1, x2, x3, x4⟩, -⟩ := box_of hx
          have HBF := Lib.hid hbf; have HVF := Lib.hid hvf
          clear hbf hvf hwf hx e0 e1 e2 e3 e4 f0 f1 f2' f3 f4 p0 p1 p2 p3 p4 q0 q1 q2 q3 q4
          refine bodyPost_ret (v := .tuple #[.agg #[.int .i64 5, .int .i64 0, .string ⟨#[]⟩, .slice A5 (l.length + 1) c5, .slice none 0 0], .int .i64 ((n : Int) + k + 1)]) (by simp [results, Tryd.results51, go_sem, x0, x1, x2, x3, x4]) rfl ?_
          rw [HR.out]
          exact ⟨⟨_, _, _, _, _, _, _, _, _, rfl, HVF.out⟩, HBF.out⟩
        | false =>
          cases zC with
          | true =>
            have e : loopT f2 false (s.drop (n + (k + 1))) (n + k + 1) [] (l ++ [x]) = RES := by
              have h := HG.out
              simp only [Bool.false_eq_true, if_false, if_true] at h
              exact h
            have EE := Lib.hid e
            have hcl := HCL.out rfl
            clear e
            refine (HE1.out _).mono ?_
            rintro e7 w7 ⟨rfl, rfl⟩
            dsimp only
            go_wp2_with (go_at_call 49; refine (HE2.out _).mono ?_; rintro e8 w8 ⟨rfl, rfl⟩)
            clear e0 e1 e2 e3 e4 f0 f1 f2' f3 f4 p0 p1 p2 p3 p4 q0 q1 q2 q3 q4
            have hsz9 := HSZ.out
            exact ⟨⟨n + k + 1, f2, l ++ [x], _, _, by go_num, by omega, by omega, by simp; omega, by omega, by omega, EE.out, G6.out⟩, by simp [intOf]; omega⟩
          | false =>
            have e : RES = (.mk 5 0 [] (l ++ [x]) [], 0) := HG.out.symm.trans (by simp)
            subst e
            refine (HE1.out _).mono ?_
            rintro e7 w7 ⟨rfl, rfl⟩
            dsimp only
            go_wp2_with (go_at_call 49; refine (HE2.out _).mono ?_; rintro e8 w8 ⟨rfl, rfl⟩)
            obtain ⟨wf, hwf⟩ : ∃ wf, wf = set5 w6 R 0 (.int .i64 5) (.int .i64 0) (.string ⟨#[]⟩) (.slice A5 (l.length + 1) c5) (.slice none 0 0) := ⟨_, rfl⟩
            change bodyPost _ _ _ _ _ (set5 w6 R 0 (.int .i64 5) (.int .i64 0) (.string ⟨#[]⟩) (.slice A5 (l.length + 1) c5) (.slice none 0 0))
            rw [← hwf]
            have hx : wf.heap[R]? = some (.cells #[.int .i64 5, .int .i64 0, .string ⟨#[]⟩, .slice A5 (l.length + 1) c5, .slice none 0 0] 25 (0, 0)) := by rw [hwf]; exact set5_here G6.out.res
            have hbf : Below R w wf := by rw [hwf]; exact G6.out.low.trans (set5_below (Nat.le_refl _))
            have hvf : VIs wf R wf.heap.size (.mk 5 0 [] (l ++ [x]) []) [.int .i64 5, .int .i64 0, .string ⟨#[]⟩, .slice A5 (l.length + 1) c5, .slice none 0 0] := G6.out.done (by simp; omega) (by simp) (by simp) (fun b hb => by rw [hwf]; exact set5_there hb) (by rw [hwf, set5_size])
            obtain ⟨⟨x0, x1, x2, x3, x4⟩, -⟩ := box_of hx
            have HBF := Lib.hid hbf; have HVF := Lib.hid hvf
            clear hbf hvf hwf hx e0 e1 e2 e3 e4 f0 f1 f2' f3 f4 p0 p1 p2 p3 p4 q0 q1 q2 q3 q4
            refine bodyPost_ret (v := .tuple #[.agg #[.int .i64 5, .int .i64 0, .string ⟨#[]⟩, .slice A5 (l.length + 1) c5, .slice none 0 0], .int .i64 0]) (by simp [results, Tryd.results51, go_sem, x0, x1, x2, x3, x4]) rfl ?_
            rw [HR.out]
            exact ⟨⟨_, _, _, _, _, _, _, _, _, rfl, HVF.out⟩, HBF.out⟩
end Go.Proofs.YtoijjcbcmjdggaaDoor
