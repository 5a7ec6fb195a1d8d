/- JSON: the code's group: a list's items, an object's keys and items. -/
import Derived.Test.YtoijjcbcmjdggaaDoorJsonGroup0
import Derived.Test.YtoijjcbcmjdggaaDoorJsonQuoted
import Derived.Test.YtoijjcbcmjdggaaDoorJsonKit
import Derived.Deep.RegionWith
namespace Go.Proofs.YtoijjcbcmjdggaaDoor
open Go.RowKit
set_option linter.unusedVariables false
set_option linter.unusedSimpArgs false

theorem Tryd.infoStr : (Tryd.prog.info? 9).map (fun i => (i.zero, i.size, i.bytes)) = some (some (.string ⟨#[]⟩), 1, 16) := by kernel_rfl
theorem Tryd.infoVal : (Tryd.prog.info? 25).map (fun i => (i.zero, i.size, i.bytes)) = some (some (.agg #[.int .i64 0, .int .i64 0, .string ⟨#[]⟩, .slice none 0 0, .slice none 0 0]), 5, 80) := by kernel_rfl
/-- what a reader of one value answers: five cells, the text behind it, and whether there is one -/
def Outs (o : Option (V × List UInt8)) (w : World) (e : Ending) (w' : World) : Prop :=
  (∃ k n t A a b A' a' b' rest ok, e = .returned (.tuple #[.agg #[.int .i64 k, .int .i64 n, .string t, .slice A a b, .slice A' a' b'], .string ⟨List.toArray rest⟩, .bool ok]) ∧ (match o with
    | some (x, r) => ok = true ∧ rest = r ∧ VIs w' w.heap.size w'.heap.size x [.int .i64 k, .int .i64 n, .string t, .slice A a b, .slice A' a' b']
    | none => ok = false)) ∧ Below w.heap.size w w'
/-- what the code's value does of a text, at so much fuel -/
def ValueSays (B f : Nat) (s : List UInt8) : Prop := ∀ w : World, KitIn B w → B ≤ w.heap.size → Calls Tryd.prog 28 #[.string ⟨s.toArray⟩] w fun e w' => Outs (valueC f s) w e w'
def groupA (f : Nat) (obj : Bool) (s : List UInt8) : Option (V × List UInt8) := if beginsB s [if obj then 125 else 93] then some (.mk (if obj then 6 else 5) 0 [] [] [], s.drop 1) else groupC f obj s [] []
/-- what the code's group does -/
def GroupSays (B f : Nat) (obj : Bool) (s : List UInt8) : Prop := ∀ w : World, KitIn B w → B ≤ w.heap.size → Calls Tryd.prog 46 #[.string ⟨s.toArray⟩, .int .i64 (if obj then 6 else 5), .string ⟨#[if obj then 125 else 93]⟩] w fun e w' => Outs (groupA f obj s) w e w'
theorem cutPrefix_any (s t : List UInt8) (w : World) :
    Calls Tryd.prog 61 #[.string ⟨s.toArray⟩, .string ⟨t.toArray⟩] w fun e w' => e = .returned (.tuple #[.string ⟨(if beginsB s t then s.drop t.length else s).toArray⟩, .bool (beginsB s t)]) ∧ w' = w :=
  (Tryd.strings_CutPrefix ⟨s.toArray⟩ ⟨t.toArray⟩ w).mono fun e w' ⟨h1, h2⟩ => ⟨by
    rw [h1]
    simp only [toListS, hasPrefix_begins]
    cases hb : beginsB s t with
    | true => rw [trimPrefix_yes hb]; rfl
    | false => rw [trimPrefix_no hb]; rfl, h2⟩
theorem groupC_list (f : Nat) (s : List UInt8) (l : List V) : groupC (f + 1) false s [] l = (match valueC f s with
    | none => none
    | some (x, r) => if beginsB r [44] then groupC f false (r.drop 1) [] (l ++ [x]) else if beginsB r [93] then some (.mk 5 0 [] (l ++ [x]) [], r.drop 1) else none) := by
  conv => lhs; unfold groupC
  simp only [Bool.false_eq_true, if_false]
  rfl
theorem five_one {w : World} {L N : Nat} {x : V} {cs : List Value} (h : VIs w L N x cs) : ∀ u ∈ cs, u.oneCell' = true := by
  obtain ⟨A, c, A', c', rfl⟩ := h.form
  intro u hu
  simp at hu; rcases hu with rfl | rfl | rfl | rfl | rfl <;> rfl
theorem str_sizeL (t : List UInt8) : (⟨t.toArray⟩ : ByteArray).size = t.length := by show t.toArray.size = _; simp
theorem new_cells1 (w : World) (o : Obj) (cs : Array Value) (e : TypeId) : ∀ j u, cs.toList[j]? = some u → ((w.alloc o).alloc (.cells cs e)).cell? ((⟨w.heap.size + 1, 0, none⟩ : Addr).add j) = some u := by
  intro j u h
  have := new_cells (w.alloc o) cs e j u h
  rwa [World.size_alloc] at this
theorem own_form {w : World} {B size n : Nat} {e : TypeId} {v : Value} {xs : List Value} (h : w.ownsRow B e size v n xs) : ∃ A c, v = .slice A n c := by
  rcases h.2 with ⟨hv, h0⟩ | ⟨g, cap, cur, hv, _⟩
  · exact ⟨none, 0, by rw [hv, h0]⟩
  · exact ⟨_, _, hv⟩
theorem GSt.varL {R : Nat} {kind : Int} {w wr w2 : World} {lv kv : Value} {l : List V} {ks : List (List UInt8)} {xs : List Value} (h : GSt R kind w wr lv kv l ks xs) (hg : wr.grownBy w2 lv.ownBlock) :
    w2.heap[R + 1]? = some (.cells #[.int .i64 kind, .int .i64 0, .string ⟨#[]⟩, lv, kv] 25 (0, 0)) :=
  (hg.block _ (by have := h.size; omega) (fun e => by have := (h.rowL.lt _ e.symm).1; omega)).trans h.var
theorem GSt.varK {R : Nat} {kind : Int} {w wr w2 : World} {lv kv : Value} {l : List V} {ks : List (List UInt8)} {xs : List Value} (h : GSt R kind w wr lv kv l ks xs) (hg : wr.grownBy w2 kv.ownBlock) :
    w2.heap[R + 1]? = some (.cells #[.int .i64 kind, .int .i64 0, .string ⟨#[]⟩, lv, kv] 25 (0, 0)) :=
  (hg.block _ (by have := h.size; omega) (fun e => by have := (h.rowK.lt _ e.symm).1; omega)).trans h.var
def strLen : Value → Nat
  | .string s => s.size
  | _ => 0
theorem valueC_len {f : Nat} {s r : List UInt8} {v : V} (h : valueC f s = some (v, r)) : r.length < s.length := by
  have e := (only_all f).1 s v r h
  have := show_pos v
  rw [e, List.length_append]; omega
set_option maxRecDepth 100000 in
set_option maxHeartbeats 20000000 in
theorem groupList (B m : Nat) (ih : ∀ f s, f ≤ m → s.length ≤ 4096 → 2 * s.length + 1 ≤ f → ValueSays B f s) (f : Nat) (s : List UInt8) (hf : f ≤ m + 1) (hs : s.length ≤ 4096) (hfs : 2 * s.length + 2 ≤ f) : GroupSays B f false s := by
  intro w hk hB
  show Calls Tryd.prog 46 #[.string ⟨s.toArray⟩, .int .i64 5, .string ⟨#[93]⟩] w _
  have hcp : ∀ w, Calls Tryd.prog 61 #[.string ⟨s.toArray⟩, .string ⟨#[93]⟩] w fun e w' => e = .returned (.tuple #[.string ⟨(if beginsB s [93] then s.drop 1 else s).toArray⟩, .bool (beginsB s [93])]) ∧ w' = w := fun w => cutPrefix_any s [93] w
  obtain ⟨GA, hGA⟩ : ∃ GA, groupA f false s = GA := ⟨_, rfl⟩
  rw [hGA]
  cases hb : beginsB s [93] with
  | true =>
    rw [hb] at hcp
    have e : GA = some (.mk 5 0 [] [] [], s.drop 1) := hGA.symm.trans (by unfold groupA; exact if_pos hb)
    subst e
    have HCP := Lib.hid hcp; clear hcp hGA hb ih hk
    go_enter Tryd.func46, Tryd.ntmps46
    go_wp2_with (go_at_call 61; refine (HCP.out _).mono ?_; rintro e1 w1 ⟨rfl, rfl⟩)
    refine bodyPost_ret (v := .tuple #[.agg #[.int .i64 5, .int .i64 0, .string ⟨#[]⟩, .slice none 0 0, .slice none 0 0], .string ⟨(s.drop 1).toArray⟩, .bool true]) (by simp [results, Tryd.results46, go_sem]) rfl ?_
    refine ⟨⟨_, _, _, _, _, _, _, _, _, _, _, rfl, rfl, rfl, ?_⟩, ((Below.refl _ _).alloc (Nat.le_refl _) _).alloc (by simp) _⟩
    exact VIs.mk (t := []) (l := []) (ks := []) ⟨by simp, by simp, by simp, by simp⟩ (.inl rfl) (.inl rfl)
  | false =>
    rw [hb] at hcp
    obtain ⟨i0, hi, hz0, hz1, hz2⟩ := info_parts Tryd.infoVal
    have e : GA = groupC f false s [] [] := hGA.symm.trans (by unfold groupA; exact if_neg (by rw [if_neg (by decide)]; simp [hb]))
    have EG := Lib.hid e
    obtain ⟨R, hR⟩ : ∃ R, w.heap.size = R := ⟨_, rfl⟩
    obtain ⟨W2, hW2⟩ : ∃ W2, W2 = ((w.alloc (.cells #[.int .i64 0, .int .i64 0, .string ⟨#[]⟩, .slice none 0 0, .slice none 0 0] 25)).alloc (.cells #[.int .i64 5, .int .i64 0, .string ⟨#[]⟩, .slice none 0 0, .slice none 0 0] 25)) := ⟨_, rfl⟩
    have gst : GSt R 5 w W2 (.slice none 0 0) (.slice none 0 0) [] [] [] := by
      refine ⟨?_, ?_, ⟨rfl, .inl ⟨rfl, rfl⟩⟩, ⟨rfl, .inl ⟨rfl, rfl⟩⟩, fun i hi => absurd hi (Nat.not_lt_zero _), ?_, ?_⟩
      · rw [hW2, ← hR]
        have := heap_alloc_last (w.alloc (.cells #[.int .i64 0, .int .i64 0, .string ⟨#[]⟩, .slice none 0 0, .slice none 0 0] 25)) (.cells #[.int .i64 5, .int .i64 0, .string ⟨#[]⟩, .slice none 0 0, .slice none 0 0] 25)
        simpa using this
      · rw [hW2, ← hR, Below.heap_alloc _ _ _ (by simp)]; exact heap_alloc_last w _
      · rw [hW2, ← hR]; exact ((Below.refl _ _).alloc (Nat.le_refl _) _).alloc (by simp) _
      · rw [hW2, ← hR]; simp
    have HCP := Lib.hid hcp; have GST := Lib.hid gst; have HR := Lib.hid hR; have HW2 := Lib.hid hW2; have HK := Lib.hid hk; have IH := Lib.hid ih
    clear hcp hGA hb ih hk gst hR hW2 e
    go_enter Tryd.func46, Tryd.ntmps46
    go_wp2_with (go_at_call 61; refine (HCP.out _).mono ?_; rintro e1 w1 ⟨rfl, rfl⟩)
    rw [← HW2.out]
    go_loopw [0] (fun sv wr => ∃ (s1 : List UInt8) (l : List V) (lv : Value) (xs : List Value) (f1 : Nat), sv = .string ⟨s1.toArray⟩ ∧ s1.length + l.length ≤ 4096 ∧ f1 ≤ f ∧ 2 * s1.length + 2 ≤ f1 ∧ groupC f1 false s1 [] l = GA ∧ GSt R 5 w wr lv (.slice none 0 0) l [] xs) (fun sv _ => strLen sv)
    case atStart => exact ⟨s, [], _, [], f, rfl, by simp; omega, Nat.le_refl _, hfs, EG.out.symm, GST.out⟩
    case round =>
      obtain ⟨s1, l, lv, xs, f1, rfl, hsl, hf1, hf2, hG, gst⟩ := hrel
      obtain ⟨f2, rfl⟩ : ∃ f2, f1 = f2 + 1 := ⟨f1 - 1, by omega⟩
      rw [groupC_list] at hG
      have hR := HR.out
      have hval := IH.out f2 s1 (by omega) (by omega) (by omega) wr (HK.out.below (gst.low.mono (by omega))) (by have := gst.size; omega)
      have hsz := gst.size
      have GS := Lib.hid gst
      cases hv : valueC f2 s1 with
      | none =>
        rw [hv] at hG hval
        have e : GA = none := hG.symm
        subst e
        have HV := Lib.hid hval; clear hG hval hv hR gst
        go_wp2_with fail
        refine (HV.out).mono ?_
        rintro e2 w2 ⟨⟨k, n, t, A, a, b, A', a', b', rest, ok, rfl, hok⟩, hb2⟩
        subst hok
        dsimp only
        have hb3 := hb2.alloc hb2.size (.cells #[.int .i64 k, .int .i64 n, .string t, .slice A a b, .slice A' a' b'] 25)
        have g2 := GS.out.later hb3
        obtain ⟨⟨e0, e1, e2, e3, e4⟩, f0, f1, f2', f3, f4⟩ := box_of g2.res
        have G2 := Lib.hid g2; clear g2 hb3
        rw [HR.out]
        go_wp2_with fail
        have g2 := G2.out
        obtain ⟨wf, hwf⟩ : ∃ wf, wf = set5 (w2.alloc (.cells #[.int .i64 k, .int .i64 n, .string t, .slice A a b, .slice A' a' b'] 25)) R 0 (.int .i64 0) (.int .i64 0) (.string ⟨#[]⟩) (.slice none 0 0) (.slice none 0 0) := ⟨_, rfl⟩
        change bodyPost _ _ _ _ _ (set5 (w2.alloc (.cells #[.int .i64 k, .int .i64 n, .string t, .slice A a b, .slice A' a' b'] 25)) R 0 (.int .i64 0) (.int .i64 0) (.string ⟨#[]⟩) (.slice none 0 0) (.slice none 0 0))
        rw [← hwf]
        have hx : wf.heap[R]? = some (.cells #[.int .i64 0, .int .i64 0, .string ⟨#[]⟩, .slice none 0 0, .slice none 0 0] 25 (0, 0)) := by rw [hwf]; exact set5_here g2.res
        have hbf : Below R w wf := by rw [hwf]; exact g2.low.trans (set5_below (Nat.le_refl _))
        obtain ⟨⟨x0, x1, x2, x3, x4⟩, -⟩ := box_of hx
        have HBF := Lib.hid hbf
        clear hbf hwf hx e0 e1 e2 e3 e4 f0 f1 f2' f3 f4 g2
        refine bodyPost_ret (v := .tuple #[.agg #[.int .i64 0, .int .i64 0, .string ⟨#[]⟩, .slice none 0 0, .slice none 0 0], .string ⟨#[]⟩, .bool false]) (by simp [results, Tryd.results46, go_sem, x0, x1, x2, x3, x4]) rfl ?_
        exact ⟨⟨_, _, _, _, _, _, _, _, _, [], _, rfl, rfl⟩, by rw [HR.out]; exact HBF.out⟩
      | some y =>
        obtain ⟨x, r⟩ := y
        have hlen := valueC_len hv
        rw [hv] at hval
        have hG2 : (if beginsB r [44] then groupC f2 false (r.drop 1) [] (l ++ [x]) else if beginsB r [93] then some (.mk 5 0 [] (l ++ [x]) [], r.drop 1) else none) = GA := by rw [hv] at hG; exact hG
        have hc44 : ∀ w, Calls Tryd.prog 61 #[.string ⟨r.toArray⟩, .string ⟨#[44]⟩] w fun e w' => e = .returned (.tuple #[.string ⟨(if beginsB r [44] then r.drop 1 else r).toArray⟩, .bool (beginsB r [44])]) ∧ w' = w := fun w => cutPrefix_any r [44] w
        have hc93 : ∀ w, Calls Tryd.prog 61 #[.string ⟨r.toArray⟩, .string ⟨#[93]⟩] w fun e w' => e = .returned (.tuple #[.string ⟨(if beginsB r [93] then r.drop 1 else r).toArray⟩, .bool (beginsB r [93])]) ∧ w' = w := fun w => cutPrefix_any r [93] w
        obtain ⟨z44, hz44⟩ : ∃ z, beginsB r [44] = z := ⟨_, rfl⟩
        rw [hz44] at hc44 hG2
        have HG := Lib.hid hG2; have HC44 := Lib.hid hc44; have HC93 := Lib.hid hc93; have HV := Lib.hid hval; have HLEN := Lib.hid hlen; have HZ44 := Lib.hid hz44
        clear hG2 hc44 hc93 hval hG hlen hv gst hR hz44
        go_wp2_with fail
        refine (HV.out).mono ?_
        rintro e2 w2 ⟨⟨k, n, t, A, a, b, A', a', b', rest, ok, rfl, hok, hrest, hx⟩, hb2⟩
        subst hok; subst hrest
        dsimp only
        obtain ⟨IT, hIT⟩ : ∃ IT, IT = Obj.cells #[.int .i64 k, .int .i64 n, .string t, .slice A a b, .slice A' a' b'] 25 := ⟨_, rfl⟩
        have hb3 := hb2.alloc hb2.size IT
        have g3 := GS.out.later hb3
        have g4 := GS.out.later (hb3.alloc hb3.size IT)
        have hx4 := hx.below (((Below.refl w2.heap.size w2).alloc (Nat.le_refl _) IT).alloc (by simp) IT)
        have hzw := hb2.size
        rw [hIT] at g3 g4 hx4 hb3
        obtain ⟨⟨e0, e1, e2, e3, e4⟩, f0, f1, f2', f3, f4⟩ := box_of g3.var
        obtain ⟨-, y0, y1, y2, y3, y4⟩ := box_of g4.var
        have G4 := Lib.hid g4; have HX4 := Lib.hid hx4; have HB3 := Lib.hid hb3
        clear g3 g4 hx4 hb3 hx hIT
        rw [HR.out]
        go_wp2_with (at_builtin; go_loud (refine wpList_append_own_at _ rfl (.tmp 63) (.tmp 65) 22 rfl (R + 2) 25 i0 _ 5 80 Tryd.underlying22 hi hz0 hz1 hz2 rfl (by decide) _ _ _ rfl G4.out.rowL ⟨_, 0, none⟩ 1 1 [.int .i64 k, .int .i64 n, .string t, .slice A a b, .slice A' a' b'] rfl rfl (new_cells1 _ _ #[_, _, _, _, _] _) (by intro u hu; simp at hu; rcases hu with rfl | rfl | rfl | rfl | rfl <;> rfl) (by unfold maxLen; omega) (by omega) (by simp; omega) ?_; intro v5 w5 hown hgrow hnil hat; obtain ⟨A5, c5, rfl⟩ := own_form hown; obtain ⟨⟨p0, p1, p2, p3, p4⟩, q0, q1, q2, q3, q4⟩ := box_of (G4.out.varL hgrow)))
        have g6 := G4.out.item x HX4.out hsz (by simp; omega) (fun g hg => by
          have h1 := GS.out.rowL.lt g; have h2 := GS.out.rowK.lt g
          rcases hg with hg | hg
          · have := (h1 hg).2; omega
          · have := (h2 hg).2; omega) hown hgrow hat
        obtain ⟨w6, hw6⟩ : ∃ w6, w6 = w5.setCell ⟨R + 1, 3, none⟩ (.slice A5 (l.length + 1) c5) := ⟨_, rfl⟩
        rw [← hw6] at g6 ⊢
        have G6 := Lib.hid g6
        clear g6 hw6 e0 e1 e2 e3 e4 f0 f1 f2' f3 f4 y0 y1 y2 y3 y4 p0 p1 p2 p3 p4 q0 q1 q2 q3 q4 hown hgrow hnil hat
        cases z44 with
        | true =>
          refine (HC44.out _).mono ?_
          rintro e7 w7 ⟨rfl, rfl⟩
          dsimp only
          go_wp2_with fail
          have hl7 := HLEN.out
          refine ⟨⟨_, ⟨rest.tail, rfl, l ++ [x], by simp; omega, _, _, f2, by omega, by simp; omega, ?_, G6.out⟩, rfl, HR.out.symm⟩, ?_⟩
          · have h := HG.out
            rw [if_pos trivial, List.drop_one] at h
            exact h
          · show ByteArray.size ⟨rest.tail.toArray⟩ < ByteArray.size ⟨s1.toArray⟩
            rw [str_sizeL, str_sizeL, List.length_tail]; omega
        | false =>
          obtain ⟨z93, hz93⟩ : ∃ z, beginsB rest [93] = z := ⟨_, rfl⟩
          have hc93 := HC93.out
          rw [hz93] at hc93
          have HZ93 := Lib.hid hz93; have HC93' := Lib.hid hc93
          clear hz93 hc93 HC93
          obtain ⟨⟨e0, e1, e2, e3, e4⟩, f0, f1, f2', f3, f4⟩ := box_of G6.out.var
          obtain ⟨⟨p0, p1, p2, p3, p4⟩, q0, q1, q2, q3, q4⟩ := box_of G6.out.res
          obtain ⟨rs, hrs⟩ : ∃ rs, (if z93 = true then rest.drop 1 else rest) = rs := ⟨_, rfl⟩
          rw [hrs] at HC93'
          have HRS := Lib.hid hrs
          clear hrs
          cases z93
          all_goals
            refine (HC44.out _).mono ?_
            rintro e7 w7 ⟨rfl, rfl⟩
            dsimp only
            go_wp2_with (go_at_call 61; refine (HC93'.out _).mono ?_; rintro e8 w8 ⟨rfl, rfl⟩)
            obtain ⟨wf, hwf⟩ : ∃ wf, wf = set5 w8 R 0 (.int .i64 5) (.int .i64 0) (.string ⟨#[]⟩) (.slice A5 (l.length + 1) c5) (.slice none 0 0) := ⟨_, rfl⟩
            change bodyPost _ _ _ _ _ (set5 w8 R 0 (.int .i64 5) (.int .i64 0) (.string ⟨#[]⟩) (.slice A5 (l.length + 1) c5) (.slice none 0 0))
            rw [← hwf]
            have hx : wf.heap[R]? = some (.cells #[.int .i64 5, .int .i64 0, .string ⟨#[]⟩, .slice A5 (l.length + 1) c5, .slice none 0 0] 25 (0, 0)) := by rw [hwf]; exact set5_here G6.out.res
            have hbf : Below R w wf := by rw [hwf]; exact G6.out.low.trans (set5_below (Nat.le_refl _))
            have hvf : VIs wf R wf.heap.size (.mk 5 0 [] (l ++ [x]) []) [.int .i64 5, .int .i64 0, .string ⟨#[]⟩, .slice A5 (l.length + 1) c5, .slice none 0 0] :=
              G6.out.done (by simp; omega) (by simp) (by simp) (fun b hb => by rw [hwf]; exact set5_there hb) (by rw [hwf, set5_size])
            obtain ⟨⟨x0, x1, x2, x3, x4⟩, -⟩ := box_of hx
            have HBF := Lib.hid hbf; have HVF := Lib.hid hvf
            clear hbf hvf hwf hx e0 e1 e2 e3 e4 f0 f1 f2' f3 f4 p0 p1 p2 p3 p4 q0 q1 q2 q3 q4
          · have e : GA = none := HG.out.symm.trans (by simp [HZ93.out])
            subst e
            refine bodyPost_ret (v := .tuple #[.agg #[.int .i64 5, .int .i64 0, .string ⟨#[]⟩, .slice A5 (l.length + 1) c5, .slice none 0 0], .string ⟨rs.toArray⟩, .bool false]) (by simp [results, Tryd.results46, go_sem, x0, x1, x2, x3, x4]) rfl ?_
            exact ⟨⟨_, _, _, _, _, _, _, _, _, _, _, rfl, rfl⟩, by rw [HR.out]; exact HBF.out⟩
          · have e : GA = some (.mk 5 0 [] (l ++ [x]) [], rs) := HG.out.symm.trans (by rw [← HRS.out]; simp [HZ93.out])
            subst e
            refine bodyPost_ret (v := .tuple #[.agg #[.int .i64 5, .int .i64 0, .string ⟨#[]⟩, .slice A5 (l.length + 1) c5, .slice none 0 0], .string ⟨rs.toArray⟩, .bool true]) (by simp [results, Tryd.results46, go_sem, x0, x1, x2, x3, x4]) rfl ?_
            exact ⟨⟨_, _, _, _, _, _, _, _, _, _, _, rfl, rfl, rfl, by rw [HR.out]; exact HVF.out⟩, by rw [HR.out]; exact HBF.out⟩
end Go.Proofs.YtoijjcbcmjdggaaDoor
