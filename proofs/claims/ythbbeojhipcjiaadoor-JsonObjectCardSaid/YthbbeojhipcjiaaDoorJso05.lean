/- Texts merged by program, in build order: JsonGroup, B64, Leaf, Parts, Cut, Split. -/
import Derived.Test.YthbbeojhipcjiaaDoorJso02
import Derived.Test.YthbbeojhipcjiaaDoorJso04
import Derived.Test.YthbbeojhipcjiaaDoorJso03
import Derived.Deep.RegionWith
import Derived.Lib.Bytealg
import Derived.Test.YthbbeojhipcjiaaDoorJso01
namespace Go.Proofs.YthbbeojhipcjiaaDoor
open Go.RowKit
set_option linter.unusedVariables false
set_option linter.unusedSimpArgs false

theorem Tryd.infoStrG : (Tryd.prog.info? 9).map (fun i => (i.zero, i.size, i.bytes)) = some (some (.string ⟨#[]⟩), 1, 16) := by kernel_rfl
theorem Tryd.infoVal : (Tryd.prog.info? 28).map (fun i => (i.zero, i.size, i.bytes)) = some (some (.agg #[.int .i64 0, .int .i64 0, .string ⟨#[]⟩, .slice none 0 0, .slice none 0 0]), 5, 80) := by kernel_rfl
/-- what a reader of one value answers: five cells, the text behind it, and whether there is one -/
def Outs (o : Option (V × List UInt8)) (w : World) (e : Ending) (w' : World) : Prop :=
  (∃ k n t A a b A' a' b' rest ok, e = .returned (.tuple #[.agg #[.int .i64 k, .int .i64 n, .string t, .slice A a b, .slice A' a' b'], .string ⟨List.toArray rest⟩, .bool ok]) ∧ (match o with
    | some (x, r) => ok = true ∧ rest = r ∧ VIs w' w.heap.size w'.heap.size x [.int .i64 k, .int .i64 n, .string t, .slice A a b, .slice A' a' b']
    | none => ok = false)) ∧ Below w.heap.size w w'
/-- what the code's value does of a text, at so much fuel -/
def ValueSays (B f : Nat) (s : List UInt8) : Prop := ∀ w : World, KitIn B w → B ≤ w.heap.size → Calls Tryd.prog 38 #[.string ⟨s.toArray⟩] w fun e w' => Outs (valueC f s) w e w'
def groupA (f : Nat) (obj : Bool) (s : List UInt8) : Option (V × List UInt8) := if beginsB s [if obj then 125 else 93] then some (.mk (if obj then 6 else 5) 0 [] [] [], s.drop 1) else groupC f obj s [] []
/-- what the code's group does -/
def GroupSays (B f : Nat) (obj : Bool) (s : List UInt8) : Prop := ∀ w : World, KitIn B w → B ≤ w.heap.size → Calls Tryd.prog 53 #[.string ⟨s.toArray⟩, .int .i64 (if obj then 6 else 5), .string ⟨#[if obj then 125 else 93]⟩] w fun e w' => Outs (groupA f obj s) w e w'
theorem cutPrefix_any (s t : List UInt8) (w : World) :
    Calls Tryd.prog 73 #[.string ⟨s.toArray⟩, .string ⟨t.toArray⟩] w fun e w' => e = .returned (.tuple #[.string ⟨(if beginsB s t then s.drop t.length else s).toArray⟩, .bool (beginsB s t)]) ∧ w' = w :=
  (Tryd.strings_CutPrefix ⟨s.toArray⟩ ⟨t.toArray⟩ w).mono fun e w' ⟨h1, h2⟩ => ⟨by
    rw [h1]
    simp only [toListS, hasPrefix_begins]
    cases hb : beginsB s t with
    | true => rw [trimPrefix_yes hb]; rfl
    | false => rw [trimPrefix_no hb]; rfl, h2⟩
theorem groupC_list (f : Nat) (s : List UInt8) (l : List V) : groupC (f + 1) false s [] l = (match valueC f s with
    | none => none
    | some (x, r) => if beginsB r [44] then groupC f false (r.drop 1) [] (l ++ [x]) else if beginsB r [93] then some (.mk 5 0 [] (l ++ [x]) [], r.drop 1) else none) := by
  conv => lhs; unfold groupC
  simp only [Bool.false_eq_true, if_false]
  rfl
theorem five_one {w : World} {L N : Nat} {x : V} {cs : List Value} (h : VIs w L N x cs) : ∀ u ∈ cs, u.oneCell' = true := by
  obtain ⟨A, c, A', c', rfl⟩ := h.form
  intro u hu
  simp at hu; rcases hu with rfl | rfl | rfl | rfl | rfl <;> rfl
theorem str_sizeL (t : List UInt8) : (⟨t.toArray⟩ : ByteArray).size = t.length := by show t.toArray.size = _; simp
theorem new_cells1 (w : World) (o : Obj) (cs : Array Value) (e : TypeId) : ∀ j u, cs.toList[j]? = some u → ((w.alloc o).alloc (.cells cs e)).cell? ((⟨w.heap.size + 1, 0, none⟩ : Addr).add j) = some u := by
  intro j u h
  have := new_cells (w.alloc o) cs e j u h
  rwa [World.size_alloc] at this
theorem own_form {w : World} {B size n : Nat} {e : TypeId} {v : Value} {xs : List Value} (h : w.ownsRow B e size v n xs) : ∃ A c, v = .slice A n c := by
  rcases h.2 with ⟨hv, h0⟩ | ⟨g, cap, cur, hv, _⟩
  · exact ⟨none, 0, by rw [hv, h0]⟩
  · exact ⟨_, _, hv⟩
theorem GSt.varL {R : Nat} {kind : Int} {w wr w2 : World} {lv kv : Value} {l : List V} {ks : List (List UInt8)} {xs : List Value} (h : GSt R kind w wr lv kv l ks xs) (hg : wr.grownBy w2 lv.ownBlock) :
    w2.heap[R + 1]? = some (.cells #[.int .i64 kind, .int .i64 0, .string ⟨#[]⟩, lv, kv] 28 (0, 0)) :=
  (hg.block _ (by have := h.size; omega) (fun e => by have := (h.rowL.lt _ e.symm).1; omega)).trans h.var
theorem GSt.varK {R : Nat} {kind : Int} {w wr w2 : World} {lv kv : Value} {l : List V} {ks : List (List UInt8)} {xs : List Value} (h : GSt R kind w wr lv kv l ks xs) (hg : wr.grownBy w2 kv.ownBlock) :
    w2.heap[R + 1]? = some (.cells #[.int .i64 kind, .int .i64 0, .string ⟨#[]⟩, lv, kv] 28 (0, 0)) :=
  (hg.block _ (by have := h.size; omega) (fun e => by have := (h.rowK.lt _ e.symm).1; omega)).trans h.var
def strLen : Value → Nat
  | .string s => s.size
  | _ => 0
theorem valueC_len {f : Nat} {s r : List UInt8} {v : V} (h : valueC f s = some (v, r)) : r.length < s.length := by
  have e := (only_all f).1 s v r h
  have := show_pos v
  rw [e, List.length_append]; omega
set_option maxRecDepth 100000 in
set_option maxHeartbeats 20000000 in
theorem groupList (B m : Nat) (ih : ∀ f s, f ≤ m → s.length ≤ 4096 → 2 * s.length + 1 ≤ f → ValueSays B f s) (f : Nat) (s : List UInt8) (hf : f ≤ m + 1) (hs : s.length ≤ 4096) (hfs : 2 * s.length + 2 ≤ f) : GroupSays B f false s := by
  intro w hk hB
  show Calls Tryd.prog 53 #[.string ⟨s.toArray⟩, .int .i64 5, .string ⟨#[93]⟩] w _
  have hcp : ∀ w, Calls Tryd.prog 73 #[.string ⟨s.toArray⟩, .string ⟨#[93]⟩] w fun e w' => e = .returned (.tuple #[.string ⟨(if beginsB s [93] then s.drop 1 else s).toArray⟩, .bool (beginsB s [93])]) ∧ w' = w := fun w => cutPrefix_any s [93] w
  obtain ⟨GA, hGA⟩ : ∃ GA, groupA f false s = GA := ⟨_, rfl⟩
  rw [hGA]
  cases hb : beginsB s [93] with
  | true =>
    rw [hb] at hcp
    have e : GA = some (.mk 5 0 [] [] [], s.drop 1) := hGA.symm.trans (by unfold groupA; exact if_pos hb)
    subst e
    have HCP := Lib.hid hcp; clear hcp hGA hb ih hk
    go_enter Tryd.func53, Tryd.ntmps53
    go_wp2_with (go_at_call 73; refine (HCP.out _).mono ?_; rintro e1 w1 ⟨rfl, rfl⟩)
    refine bodyPost_ret (v := .tuple #[.agg #[.int .i64 5, .int .i64 0, .string ⟨#[]⟩, .slice none 0 0, .slice none 0 0], .string ⟨(s.drop 1).toArray⟩, .bool true]) (by simp [results, Tryd.results53, go_sem]) rfl ?_
    refine ⟨⟨_, _, _, _, _, _, _, _, _, _, _, rfl, rfl, rfl, ?_⟩, ((Below.refl _ _).alloc (Nat.le_refl _) _).alloc (by simp) _⟩
    exact VIs.mk (t := []) (l := []) (ks := []) ⟨by simp, by simp, by simp, by simp⟩ (.inl rfl) (.inl rfl)
  | false =>
    rw [hb] at hcp
    obtain ⟨i0, hi, hz0, hz1, hz2⟩ := info_parts Tryd.infoVal
    have e : GA = groupC f false s [] [] := hGA.symm.trans (by unfold groupA; exact if_neg (by rw [if_neg (by decide)]; simp [hb]))
    have EG := Lib.hid e
    obtain ⟨R, hR⟩ : ∃ R, w.heap.size = R := ⟨_, rfl⟩
    obtain ⟨W2, hW2⟩ : ∃ W2, W2 = ((w.alloc (.cells #[.int .i64 0, .int .i64 0, .string ⟨#[]⟩, .slice none 0 0, .slice none 0 0] 28)).alloc (.cells #[.int .i64 5, .int .i64 0, .string ⟨#[]⟩, .slice none 0 0, .slice none 0 0] 28)) := ⟨_, rfl⟩
    have gst : GSt R 5 w W2 (.slice none 0 0) (.slice none 0 0) [] [] [] := by
      refine ⟨?_, ?_, ⟨rfl, .inl ⟨rfl, rfl⟩⟩, ⟨rfl, .inl ⟨rfl, rfl⟩⟩, fun i hi => absurd hi (Nat.not_lt_zero _), ?_, ?_⟩
      · rw [hW2, ← hR]
        have := heap_alloc_last (w.alloc (.cells #[.int .i64 0, .int .i64 0, .string ⟨#[]⟩, .slice none 0 0, .slice none 0 0] 28)) (.cells #[.int .i64 5, .int .i64 0, .string ⟨#[]⟩, .slice none 0 0, .slice none 0 0] 28)
        simpa using this
      · rw [hW2, ← hR, Below.heap_alloc _ _ _ (by simp)]; exact heap_alloc_last w _
      · rw [hW2, ← hR]; exact ((Below.refl _ _).alloc (Nat.le_refl _) _).alloc (by simp) _
      · rw [hW2, ← hR]; simp
    have HCP := Lib.hid hcp; have GST := Lib.hid gst; have HR := Lib.hid hR; have HW2 := Lib.hid hW2; have HK := Lib.hid hk; have IH := Lib.hid ih
    clear hcp hGA hb ih hk gst hR hW2 e
    go_enter Tryd.func53, Tryd.ntmps53
    go_wp2_with (go_at_call 73; refine (HCP.out _).mono ?_; rintro e1 w1 ⟨rfl, rfl⟩)
    rw [← HW2.out]
    go_loopw [0] (fun sv wr => ∃ (s1 : List UInt8) (l : List V) (lv : Value) (xs : List Value) (f1 : Nat), sv = .string ⟨s1.toArray⟩ ∧ s1.length + l.length ≤ 4096 ∧ f1 ≤ f ∧ 2 * s1.length + 2 ≤ f1 ∧ groupC f1 false s1 [] l = GA ∧ GSt R 5 w wr lv (.slice none 0 0) l [] xs) (fun sv _ => strLen sv)
    case atStart => exact ⟨s, [], _, [], f, rfl, by simp; omega, Nat.le_refl _, hfs, EG.out.symm, GST.out⟩
    case round =>
      obtain ⟨s1, l, lv, xs, f1, rfl, hsl, hf1, hf2, hG, gst⟩ := hrel
      obtain ⟨f2, rfl⟩ : ∃ f2, f1 = f2 + 1 := ⟨f1 - 1, by omega⟩
      rw [groupC_list] at hG
      have hR := HR.out
      have hval := IH.out f2 s1 (by omega) (by omega) (by omega) wr (HK.out.below (gst.low.mono (by omega))) (by have := gst.size; omega)
      have hsz := gst.size
      have GS := Lib.hid gst
      cases hv : valueC f2 s1 with
      | none =>
        rw [hv] at hG hval
        have e : GA = none := hG.symm
        subst e
        have HV := Lib.hid hval; clear hG hval hv hR gst
        go_wp2_with fail
        refine (HV.out).mono ?_
        rintro e2 w2 ⟨⟨k, n, t, A, a, b, A', a', b', rest, ok, rfl, hok⟩, hb2⟩
        subst hok
        dsimp only
        have hb3 := hb2.alloc hb2.size (.cells #[.int .i64 k, .int .i64 n, .string t, .slice A a b, .slice A' a' b'] 28)
        have g2 := GS.out.later hb3
        obtain ⟨⟨e0, e1, e2, e3, e4⟩, f0, f1, f2', f3, f4⟩ := box_of g2.res
        have G2 := Lib.hid g2; clear g2 hb3
        rw [HR.out]
        go_wp2_with fail
        have g2 := G2.out
        obtain ⟨wf, hwf⟩ : ∃ wf, wf = set5 (w2.alloc (.cells #[.int .i64 k, .int .i64 n, .string t, .slice A a b, .slice A' a' b'] 28)) R 0 (.int .i64 0) (.int .i64 0) (.string ⟨#[]⟩) (.slice none 0 0) (.slice none 0 0) := ⟨_, rfl⟩
        change bodyPost _ _ _ _ _ (set5 (w2.alloc (.cells #[.int .i64 k, .int .i64 n, .string t, .slice A a b, .slice A' a' b'] 28)) R 0 (.int .i64 0) (.int .i64 0) (.string ⟨#[]⟩) (.slice none 0 0) (.slice none 0 0))
        rw [← hwf]
        have hx : wf.heap[R]? = some (.cells #[.int .i64 0, .int .i64 0, .string ⟨#[]⟩, .slice none 0 0, .slice none 0 0] 28 (0, 0)) := by rw [hwf]; exact set5_here g2.res
        have hbf : Below R w wf := by rw [hwf]; exact g2.low.trans (set5_below (Nat.le_refl _))
        obtain ⟨⟨x0, x1, x2, x3, x4⟩, -⟩ := box_of hx
        have HBF := Lib.hid hbf
        clear hbf hwf hx e0 e1 e2 e3 e4 f0 f1 f2' f3 f4 g2
        refine bodyPost_ret (v := .tuple #[.agg #[.int .i64 0, .int .i64 0, .string ⟨#[]⟩, .slice none 0 0, .slice none 0 0], .string ⟨#[]⟩, .bool false]) (by simp [results, Tryd.results53, go_sem, x0, x1, x2, x3, x4]) rfl ?_
        exact ⟨⟨_, _, _, _, _, _, _, _, _, [], _, rfl, rfl⟩, by rw [HR.out]; exact HBF.out⟩
      | some y =>
        obtain ⟨x, r⟩ := y
        have hlen := valueC_len hv
        rw [hv] at hval
        have hG2 : (if beginsB r [44] then groupC f2 false (r.drop 1) [] (l ++ [x]) else if beginsB r [93] then some (.mk 5 0 [] (l ++ [x]) [], r.drop 1) else none) = GA := by rw [hv] at hG; exact hG
        have hc44 : ∀ w, Calls Tryd.prog 73 #[.string ⟨r.toArray⟩, .string ⟨#[44]⟩] w fun e w' => e = .returned (.tuple #[.string ⟨(if beginsB r [44] then r.drop 1 else r).toArray⟩, .bool (beginsB r [44])]) ∧ w' = w := fun w => cutPrefix_any r [44] w
        have hc93 : ∀ w, Calls Tryd.prog 73 #[.string ⟨r.toArray⟩, .string ⟨#[93]⟩] w fun e w' => e = .returned (.tuple #[.string ⟨(if beginsB r [93] then r.drop 1 else r).toArray⟩, .bool (beginsB r [93])]) ∧ w' = w := fun w => cutPrefix_any r [93] w
        obtain ⟨z44, hz44⟩ : ∃ z, beginsB r [44] = z := ⟨_, rfl⟩
        rw [hz44] at hc44 hG2
        have HG := Lib.hid hG2; have HC44 := Lib.hid hc44; have HC93 := Lib.hid hc93; have HV := Lib.hid hval; have HLEN := Lib.hid hlen; have HZ44 := Lib.hid hz44
        clear hG2 hc44 hc93 hval hG hlen hv gst hR hz44
        go_wp2_with fail
        refine (HV.out).mono ?_
        rintro e2 w2 ⟨⟨k, n, t, A, a, b, A', a', b', rest, ok, rfl, hok, hrest, hx⟩, hb2⟩
        subst hok; subst hrest
        dsimp only
        obtain ⟨IT, hIT⟩ : ∃ IT, IT = Obj.cells #[.int .i64 k, .int .i64 n, .string t, .slice A a b, .slice A' a' b'] 28 := ⟨_, rfl⟩
        have hb3 := hb2.alloc hb2.size IT
        have g3 := GS.out.later hb3
        have g4 := GS.out.later (hb3.alloc hb3.size IT)
        have hx4 := hx.below (((Below.refl w2.heap.size w2).alloc (Nat.le_refl _) IT).alloc (by simp) IT)
        have hzw := hb2.size
        rw [hIT] at g3 g4 hx4 hb3
        obtain ⟨⟨e0, e1, e2, e3, e4⟩, f0, f1, f2', f3, f4⟩ := box_of g3.var
        obtain ⟨-, y0, y1, y2, y3, y4⟩ := box_of g4.var
        have G4 := Lib.hid g4; have HX4 := Lib.hid hx4; have HB3 := Lib.hid hb3
        clear g3 g4 hx4 hb3 hx hIT
        rw [HR.out]
        go_wp2_with (at_builtin; go_loud (refine wpList_append_own_at _ rfl (.tmp 63) (.tmp 65) 25 rfl (R + 2) 28 i0 _ 5 80 Tryd.underlying25 hi hz0 hz1 hz2 rfl (by decide) _ _ _ rfl G4.out.rowL ⟨_, 0, none⟩ 1 1 [.int .i64 k, .int .i64 n, .string t, .slice A a b, .slice A' a' b'] rfl rfl (new_cells1 _ _ #[_, _, _, _, _] _) (by intro u hu; simp at hu; rcases hu with rfl | rfl | rfl | rfl | rfl <;> rfl) (by unfold maxLen; omega) (by omega) (by simp; omega) ?_; intro v5 w5 hown hgrow hnil hat; obtain ⟨A5, c5, rfl⟩ := own_form hown; obtain ⟨⟨p0, p1, p2, p3, p4⟩, q0, q1, q2, q3, q4⟩ := box_of (G4.out.varL hgrow)))
        have g6 := G4.out.item x HX4.out hsz (by simp; omega) (fun g hg => by
          have h1 := GS.out.rowL.lt g; have h2 := GS.out.rowK.lt g
          rcases hg with hg | hg
          · have := (h1 hg).2; omega
          · have := (h2 hg).2; omega) hown hgrow hat
        obtain ⟨w6, hw6⟩ : ∃ w6, w6 = w5.setCell ⟨R + 1, 3, none⟩ (.slice A5 (l.length + 1) c5) := ⟨_, rfl⟩
        rw [← hw6] at g6 ⊢
        have G6 := Lib.hid g6
        clear g6 hw6 e0 e1 e2 e3 e4 f0 f1 f2' f3 f4 y0 y1 y2 y3 y4 p0 p1 p2 p3 p4 q0 q1 q2 q3 q4 hown hgrow hnil hat
        cases z44 with
        | true =>
          refine (HC44.out _).mono ?_
          rintro e7 w7 ⟨rfl, rfl⟩
          dsimp only
          go_wp2_with fail
          have hl7 := HLEN.out
          refine ⟨⟨_, ⟨rest.tail, rfl, l ++ [x], by simp; omega, _, _, f2, by omega, by simp; omega, ?_, G6.out⟩, rfl, HR.out.symm⟩, ?_⟩
          · have h := HG.out
            rw [if_pos trivial, List.drop_one] at h
            exact h
          · show ByteArray.size ⟨rest.tail.toArray⟩ < ByteArray.size ⟨s1.toArray⟩
            rw [str_sizeL, str_sizeL, List.length_tail]; omega
        | false =>
          obtain ⟨z93, hz93⟩ : ∃ z, beginsB rest [93] = z := ⟨_, rfl⟩
          have hc93 := HC93.out
          rw [hz93] at hc93
          have HZ93 := Lib.hid hz93; have HC93' := Lib.hid hc93
          clear hz93 hc93 HC93
          obtain ⟨⟨e0, e1, e2, e3, e4⟩, f0, f1, f2', f3, f4⟩ := box_of G6.out.var
          obtain ⟨⟨p0, p1, p2, p3, p4⟩, q0, q1, q2, q3, q4⟩ := box_of G6.out.res
          obtain ⟨rs, hrs⟩ : ∃ rs, (if z93 = true then rest.drop 1 else rest) = rs := ⟨_, rfl⟩
          rw [hrs] at HC93'
          have HRS := Lib.hid hrs
          clear hrs
          cases z93
          all_goals
            refine (HC44.out _).mono ?_
            rintro e7 w7 ⟨rfl, rfl⟩
            dsimp only
            go_wp2_with (go_at_call 73; refine (HC93'.out _).mono ?_; rintro e8 w8 ⟨rfl, rfl⟩)
            obtain ⟨wf, hwf⟩ : ∃ wf, wf = set5 w8 R 0 (.int .i64 5) (.int .i64 0) (.string ⟨#[]⟩) (.slice A5 (l.length + 1) c5) (.slice none 0 0) := ⟨_, rfl⟩
            change bodyPost _ _ _ _ _ (set5 w8 R 0 (.int .i64 5) (.int .i64 0) (.string ⟨#[]⟩) (.slice A5 (l.length + 1) c5) (.slice none 0 0))
            rw [← hwf]
            have hx : wf.heap[R]? = some (.cells #[.int .i64 5, .int .i64 0, .string ⟨#[]⟩, .slice A5 (l.length + 1) c5, .slice none 0 0] 28 (0, 0)) := by rw [hwf]; exact set5_here G6.out.res
            have hbf : Below R w wf := by rw [hwf]; exact G6.out.low.trans (set5_below (Nat.le_refl _))
            have hvf : VIs wf R wf.heap.size (.mk 5 0 [] (l ++ [x]) []) [.int .i64 5, .int .i64 0, .string ⟨#[]⟩, .slice A5 (l.length + 1) c5, .slice none 0 0] :=
              G6.out.done (by simp; omega) (by simp) (by simp) (fun b hb => by rw [hwf]; exact set5_there hb) (by rw [hwf, set5_size])
            obtain ⟨⟨x0, x1, x2, x3, x4⟩, -⟩ := box_of hx
            have HBF := Lib.hid hbf; have HVF := Lib.hid hvf
            clear hbf hvf hwf hx e0 e1 e2 e3 e4 f0 f1 f2' f3 f4 p0 p1 p2 p3 p4 q0 q1 q2 q3 q4
          · have e : GA = none := HG.out.symm.trans (by simp [HZ93.out])
            subst e
            refine bodyPost_ret (v := .tuple #[.agg #[.int .i64 5, .int .i64 0, .string ⟨#[]⟩, .slice A5 (l.length + 1) c5, .slice none 0 0], .string ⟨rs.toArray⟩, .bool false]) (by simp [results, Tryd.results53, go_sem, x0, x1, x2, x3, x4]) rfl ?_
            exact ⟨⟨_, _, _, _, _, _, _, _, _, _, _, rfl, rfl⟩, by rw [HR.out]; exact HBF.out⟩
          · have e : GA = some (.mk 5 0 [] (l ++ [x]) [], rs) := HG.out.symm.trans (by rw [← HRS.out]; simp [HZ93.out])
            subst e
            refine bodyPost_ret (v := .tuple #[.agg #[.int .i64 5, .int .i64 0, .string ⟨#[]⟩, .slice A5 (l.length + 1) c5, .slice none 0 0], .string ⟨rs.toArray⟩, .bool true]) (by simp [results, Tryd.results53, go_sem, x0, x1, x2, x3, x4]) rfl ?_
            exact ⟨⟨_, _, _, _, _, _, _, _, _, _, _, rfl, rfl, rfl, by rw [HR.out]; exact HVF.out⟩, by rw [HR.out]; exact HBF.out⟩
end Go.Proofs.YthbbeojhipcjiaaDoor
namespace Go.Proofs.YthbbeojhipcjiaaDoor

def ltrs : Array UInt8 := #[65, 66, 67, 68, 69, 70, 71, 72, 73, 74, 75, 76, 77, 78, 79, 80, 81, 82, 83, 84, 85, 86, 87, 88, 89, 90, 97, 98, 99, 100, 101, 102, 103, 104, 105, 106, 107, 108, 109, 110, 111, 112, 113, 114, 115, 116, 117, 118, 119, 120, 121, 122, 48, 49, 50, 51, 52, 53, 54, 55, 56, 57, 45, 95]
def ltr (n : Nat) : UInt8 := ltrs.getD n 0
theorem ltr_at {n : Nat} (h : n < (ByteArray.mk ltrs).size) : (ByteArray.mk ltrs)[n] = ltr n := by
  have h' : n < ltrs.size := h
  simp [ltr, h']; rfl

/-- the letter's number; -1: none -/
def ix (c : UInt8) : Int := Lib.indexByte ltrs.toList c

theorem ix_all : ∀ n : Nat, n < 256 → (ix (UInt8.ofNat n) = -1 ∨ (0 ≤ ix (UInt8.ofNat n) ∧ ix (UInt8.ofNat n) < 64 ∧ ltr (ix (UInt8.ofNat n)).toNat = UInt8.ofNat n)) := by decide +kernel
theorem ix_cases (c : UInt8) : ix c = -1 ∨ (0 ≤ ix c ∧ ix c < 64 ∧ ltr (ix c).toNat = c) := by
  have := ix_all c.toNat c.toNat_lt
  rwa [UInt8.ofNat_toNat] at this
theorem ix_ltr : ∀ n : Nat, n < 64 → ix (ltr n) = n := by decide +kernel
theorem ltr_inj {a b : Nat} (ha : a < 64) (hb : b < 64) (h : ltr a = ltr b) : a = b := by
  have h1 := ix_ltr a ha
  have h2 := ix_ltr b hb
  rw [h, h2] at h1; omega

/-- the last of the first k letters that is c -/
def ixTo (c : UInt8) : Nat → Int
  | 0 => -1
  | k + 1 => if (ltr k).toNat = c.toNat then k else ixTo c k
theorem ixTo_all : ∀ n : Nat, n < 256 → ixTo (UInt8.ofNat n) 64 = ix (UInt8.ofNat n) := by decide +kernel
theorem ixTo_ix (c : UInt8) : ixTo c 64 = ix c := by
  have := ixTo_all c.toNat c.toNat_lt
  rwa [UInt8.ofNat_toNat] at this

def chunk (v : Nat) : List UInt8 := [ltr (v / 262144), ltr (v / 4096 % 64), ltr (v / 64 % 64), ltr (v % 64)]
/-- base64url -/
def enc : List UInt8 → List UInt8
  | [] => []
  | [a] => (chunk (a.toNat * 65536)).take 2
  | [a, b] => (chunk (a.toNat * 65536 + b.toNat * 256)).take 3
  | a :: b :: c :: r => chunk (a.toNat * 65536 + b.toNat * 256 + c.toNat) ++ enc r

theorem enc_len : ∀ l : List UInt8, (enc l).length = (4 * l.length + 2) / 3
  | [] => rfl
  | [a] => by simp [enc, chunk]
  | [a, b] => by simp [enc, chunk]
  | a :: b :: c :: r => by
    have := enc_len r
    simp [enc, chunk]; omega

/-! ## the program's way: bit by bit, in a word of 32 bits -/
def push8 (H : Nat) (b : UInt8) : Nat := H * 256 % 4294967296 + b.toNat
def encS : Nat → Nat → List UInt8 → List UInt8
  | H, bits, [] => if bits = 0 then [] else if bits = 2 then [ltr (H * 16 % 4294967296 % 64)] else [ltr (H * 4 % 4294967296 % 64)]
  | H, bits, b :: r => if bits = 0 then ltr (push8 H b / 4 % 64) :: encS (push8 H b) 2 r else if bits = 2 then ltr (push8 H b / 16 % 64) :: encS (push8 H b) 4 r
    else ltr (push8 H b / 64 % 64) :: ltr (push8 H b % 64) :: encS (push8 H b) 0 r

theorem cons_ltr {a b : Nat} {r r' : List UInt8} (h : a = b) (h' : r = r') : ltr a :: r = ltr b :: r' := by rw [h, h']

theorem encS_0 (H : Nat) (b : UInt8) (r : List UInt8) : encS H 0 (b :: r) = ltr (push8 H b / 4 % 64) :: encS (push8 H b) 2 r := rfl
theorem encS_2 (H : Nat) (b : UInt8) (r : List UInt8) : encS H 2 (b :: r) = ltr (push8 H b / 16 % 64) :: encS (push8 H b) 4 r := rfl
theorem encS_4 (H : Nat) (b : UInt8) (r : List UInt8) : encS H 4 (b :: r) = ltr (push8 H b / 64 % 64) :: ltr (push8 H b % 64) :: encS (push8 H b) 0 r := rfl
theorem encS_end2 (H : Nat) : encS H 2 [] = [ltr (H * 16 % 4294967296 % 64)] := rfl
theorem encS_end4 (H : Nat) : encS H 4 [] = [ltr (H * 4 % 4294967296 % 64)] := rfl

theorem encS_enc : ∀ (l : List UInt8) (H : Nat), encS H 0 l = enc l
  | [], H => rfl
  | [a], H => by
    have ha := a.toNat_lt
    rw [encS_0, encS_end2]
    show _ = [ltr (a.toNat * 65536 / 262144), ltr (a.toNat * 65536 / 4096 % 64)]
    unfold push8
    exact cons_ltr (by omega) (cons_ltr (by omega) rfl)
  | [a, b], H => by
    have ha := a.toNat_lt
    have hb := b.toNat_lt
    rw [encS_0, encS_2, encS_end4]
    show _ = [ltr ((a.toNat * 65536 + b.toNat * 256) / 262144), ltr ((a.toNat * 65536 + b.toNat * 256) / 4096 % 64), ltr ((a.toNat * 65536 + b.toNat * 256) / 64 % 64)]
    unfold push8
    exact cons_ltr (by omega) (cons_ltr (by omega) (cons_ltr (by omega) rfl))
  | a :: b :: c :: r, H => by
    have ha := a.toNat_lt
    have hb := b.toNat_lt
    have hc := c.toNat_lt
    rw [encS_0, encS_2, encS_4, encS_enc r]
    show _ = ltr ((a.toNat * 65536 + b.toNat * 256 + c.toNat) / 262144) :: ltr ((a.toNat * 65536 + b.toNat * 256 + c.toNat) / 4096 % 64) :: ltr ((a.toNat * 65536 + b.toNat * 256 + c.toNat) / 64 % 64) :: ltr ((a.toNat * 65536 + b.toNat * 256 + c.toNat) % 64) :: enc r
    unfold push8
    exact cons_ltr (by omega) (cons_ltr (by omega) (cons_ltr (by omega) (cons_ltr (by omega) rfl)))

/-! ## reading -/
def push6 (H : Nat) (d : Nat) : Nat := H * 64 % 4294967296 + d
/-- the program's way -/
def decS : Nat → Nat → List UInt8 → Option (List UInt8)
  | H, bits, [] => if bits < 6 ∧ H % 2 ^ bits = 0 then some [] else none
  | H, bits, c :: r => if ix c < 0 then none else
    if bits < 2 then decS (push6 H (ix c).toNat) (bits + 6) r
    else (decS (push6 H (ix c).toNat) (bits - 2) r).map (UInt8.ofNat (push6 H (ix c).toNat / 2 ^ (bits - 2)) :: ·)
/-- the reference's way -/
def unS : Nat → Nat → List UInt8 → Option (List UInt8)
  | _, _, [] => some []
  | v, n, c :: r => if ix c < 0 then none else
    if n < 2 then unS (v * 64 + (ix c).toNat) (n + 6) r
    else (unS ((v * 64 + (ix c).toNat) % 2 ^ (n - 2)) (n - 2) r).map (UInt8.ofNat ((v * 64 + (ix c).toNat) / 2 ^ (n - 2)) :: ·)
/-- what a text is of -/
def dec (l : List UInt8) : Option (List UInt8) := (unS 0 0 l).bind fun o => if enc o = l then some o else none

/-- a text of letters is its numbers' -/
def ds (l : List Nat) : List UInt8 := l.map ltr
theorem letters (l : List UInt8) : (∃ l' : List Nat, l = ds l' ∧ ∀ d ∈ l', d < 64) ∨ ∃ p c r, l = ds p ++ c :: r ∧ (∀ d ∈ p, d < 64) ∧ ix c = -1 := by
  induction l with
  | nil => exact .inl ⟨[], rfl, by simp⟩
  | cons c l ih =>
    rcases ix_cases c with h | ⟨h0, h1, h2⟩
    · exact .inr ⟨[], c, l, rfl, by simp, h⟩
    · rcases ih with ⟨l', e, hl⟩ | ⟨p, c', r, e, hp, hc⟩
      · exact .inl ⟨(ix c).toNat :: l', by rw [e]; simp [ds, h2], by intro d hd; rcases List.mem_cons.1 hd with rfl | hd; omega; exact hl d hd⟩
      · exact .inr ⟨(ix c).toNat :: p, c', r, by rw [e]; simp [ds, h2], by intro d hd; rcases List.mem_cons.1 hd with rfl | hd; omega; exact hp d hd, hc⟩

theorem unS_none (p : List Nat) (c : UInt8) (r : List UInt8) (hp : ∀ d ∈ p, d < 64) (hc : ix c = -1) : ∀ v n, unS v n (ds p ++ c :: r) = none := by
  induction p with
  | nil => intro v n; show unS v n (c :: r) = none; rw [unS, if_pos (by omega)]
  | cons d p ih =>
    intro v n
    have ih' := ih fun d hd => hp d (List.mem_cons_of_mem _ hd)
    show unS v n (ltr d :: (ds p ++ c :: r)) = none
    rw [unS, ih', ih']; simp
theorem decS_none (p : List Nat) (c : UInt8) (r : List UInt8) (hp : ∀ d ∈ p, d < 64) (hc : ix c = -1) : ∀ v n, decS v n (ds p ++ c :: r) = none := by
  induction p with
  | nil => intro v n; show decS v n (c :: r) = none; rw [decS, if_pos (by omega)]
  | cons d p ih =>
    intro v n
    have ih' := ih fun d hd => hp d (List.mem_cons_of_mem _ hd)
    show decS v n (ltr d :: (ds p ++ c :: r)) = none
    rw [decS, ih', ih']; simp

theorem decS_ltr (H bits d : Nat) (hd : d < 64) (r : List UInt8) : decS H bits (ltr d :: r) = if bits < 2 then decS (push6 H d) (bits + 6) r else (decS (push6 H d) (bits - 2) r).map (UInt8.ofNat (push6 H d / 2 ^ (bits - 2)) :: ·) := by
  rw [decS, ix_ltr d hd, if_neg (by omega)]; rfl
theorem unS_ltr (v n d : Nat) (hd : d < 64) (r : List UInt8) : unS v n (ltr d :: r) = if n < 2 then unS (v * 64 + d) (n + 6) r else (unS ((v * 64 + d) % 2 ^ (n - 2)) (n - 2) r).map (UInt8.ofNat ((v * 64 + d) / 2 ^ (n - 2)) :: ·) := by
  rw [unS, ix_ltr d hd, if_neg (by omega)]; rfl
theorem byte_eq {a b : Nat} (h : a % 256 = b % 256) : UInt8.ofNat a = UInt8.ofNat b := by
  apply UInt8.toNat_inj.1; rw [UInt8.toNat_ofNat', UInt8.toNat_ofNat']; exact h

theorem toNat_byte (a : Nat) : (UInt8.ofNat a).toNat = a % 256 := UInt8.toNat_ofNat'

theorem dec_ds : ∀ (l : List Nat), (∀ d ∈ l, d < 64) → ∀ H, decS H 0 (ds l) = dec (ds l)
  | [], _, H => by simp [ds, decS, dec, unS, enc]; omega
  | [a], h, H => by
    have ha := h a (by simp)
    show decS H 0 [ltr a] = dec [ltr a]
    rw [decS_ltr _ _ _ ha, dec, unS_ltr _ _ _ ha]
    simp [decS, unS, enc]
  | [a, b], h, H => by
    have ha := h a (by simp)
    have hb := h b (by simp)
    show decS H 0 [ltr a, ltr b] = dec [ltr a, ltr b]
    have e1 : decS H 0 [ltr a, ltr b] = if b % 16 = 0 then some [UInt8.ofNat ((a * 64 + b) / 16)] else none := by
      rw [decS_ltr _ _ _ ha, if_pos (by decide), decS_ltr _ _ _ hb, if_neg (by decide), decS]
      have : push6 (push6 H a) b % 2 ^ (0 + 6 - 2) = b % 16 := by unfold push6; omega
      rw [this]
      have hy : UInt8.ofNat (push6 (push6 H a) b / 2 ^ (0 + 6 - 2)) = UInt8.ofNat ((a * 64 + b) / 16) := byte_eq (by unfold push6; omega)
      rw [hy]
      by_cases hz : b % 16 = 0 <;> simp [hz]
    have e2 : unS 0 0 [ltr a, ltr b] = some [UInt8.ofNat ((a * 64 + b) / 16)] := by
      rw [unS_ltr _ _ _ ha, if_pos (by decide), unS_ltr _ _ _ hb, if_neg (by decide), unS]; simp
    rw [e1, dec, e2, Option.bind_some]
    have e3 : enc [UInt8.ofNat ((a * 64 + b) / 16)] = [ltr a, ltr (b / 16 * 16)] := by
      show [ltr ((UInt8.ofNat ((a * 64 + b) / 16)).toNat * 65536 / 262144), ltr ((UInt8.ofNat ((a * 64 + b) / 16)).toNat * 65536 / 4096 % 64)] = _
      rw [toNat_byte]
      exact cons_ltr (by omega) (cons_ltr (by omega) rfl)
    rw [e3]
    by_cases hz : b % 16 = 0
    · rw [if_pos hz, if_pos (cons_ltr rfl (cons_ltr (by omega) rfl))]
    · rw [if_neg hz, if_neg]
      intro he; injection he with _ he; injection he with he _
      have := ltr_inj (by omega) hb he; omega
  | [a, b, c], h, H => by
    have ha := h a (by simp)
    have hb := h b (by simp)
    have hc := h c (by simp)
    show decS H 0 [ltr a, ltr b, ltr c] = dec [ltr a, ltr b, ltr c]
    have e1 : decS H 0 [ltr a, ltr b, ltr c] = if c % 4 = 0 then some [UInt8.ofNat ((a * 64 + b) / 16), UInt8.ofNat ((b * 64 + c) / 4)] else none := by
      rw [decS_ltr _ _ _ ha, if_pos (by decide), decS_ltr _ _ _ hb, if_neg (by decide), decS_ltr _ _ _ hc, if_neg (by decide), decS]
      have : push6 (push6 (push6 H a) b) c % 2 ^ (0 + 6 - 2 - 2) = c % 4 := by unfold push6; omega
      rw [this]
      have hy : UInt8.ofNat (push6 (push6 H a) b / 2 ^ (0 + 6 - 2)) = UInt8.ofNat ((a * 64 + b) / 16) := byte_eq (by unfold push6; omega)
      have hy' : UInt8.ofNat (push6 (push6 (push6 H a) b) c / 2 ^ (0 + 6 - 2 - 2)) = UInt8.ofNat ((b * 64 + c) / 4) := byte_eq (by unfold push6; omega)
      rw [hy, hy']
      by_cases hz : c % 4 = 0 <;> simp [hz]
    have e2 : unS 0 0 [ltr a, ltr b, ltr c] = some [UInt8.ofNat ((a * 64 + b) / 16), UInt8.ofNat ((b * 64 + c) / 4)] := by
      rw [unS_ltr _ _ _ ha, if_pos (by decide), unS_ltr _ _ _ hb, if_neg (by decide), unS_ltr _ _ _ hc, if_neg (by decide), unS]
      have hy : UInt8.ofNat (((0 * 64 + a) * 64 + b) / 2 ^ (0 + 6 - 2)) = UInt8.ofNat ((a * 64 + b) / 16) := byte_eq (by omega)
      have hy' : UInt8.ofNat ((((0 * 64 + a) * 64 + b) % 2 ^ (0 + 6 - 2) * 64 + c) / 2 ^ (0 + 6 - 2 - 2)) = UInt8.ofNat ((b * 64 + c) / 4) := byte_eq (by omega)
      rw [hy, hy']; rfl
    rw [e1, dec, e2, Option.bind_some]
    have e3 : enc [UInt8.ofNat ((a * 64 + b) / 16), UInt8.ofNat ((b * 64 + c) / 4)] = [ltr a, ltr b, ltr (c / 4 * 4)] := by
      show [ltr (((UInt8.ofNat ((a * 64 + b) / 16)).toNat * 65536 + (UInt8.ofNat ((b * 64 + c) / 4)).toNat * 256) / 262144), ltr (((UInt8.ofNat ((a * 64 + b) / 16)).toNat * 65536 + (UInt8.ofNat ((b * 64 + c) / 4)).toNat * 256) / 4096 % 64), ltr (((UInt8.ofNat ((a * 64 + b) / 16)).toNat * 65536 + (UInt8.ofNat ((b * 64 + c) / 4)).toNat * 256) / 64 % 64)] = _
      rw [toNat_byte, toNat_byte]
      exact cons_ltr (by omega) (cons_ltr (by omega) (cons_ltr (by omega) rfl))
    rw [e3]
    by_cases hz : c % 4 = 0
    · rw [if_pos hz, if_pos (cons_ltr rfl (cons_ltr rfl (cons_ltr (by omega) rfl)))]
    · rw [if_neg hz, if_neg]
      intro he; injection he with _ he; injection he with _ he; injection he with he _
      have := ltr_inj (by omega) hc he; omega
  | a :: b :: c :: d :: r, h, H => by
    have ha := h a (by simp)
    have hb := h b (by simp)
    have hc := h c (by simp)
    have hd := h d (by simp)
    have ih := dec_ds r (fun x hx => h x (by simp [hx]))
    show decS H 0 (ltr a :: ltr b :: ltr c :: ltr d :: ds r) = dec (ltr a :: ltr b :: ltr c :: ltr d :: ds r)
    have e1 : decS H 0 (ltr a :: ltr b :: ltr c :: ltr d :: ds r) = (dec (ds r)).map ([UInt8.ofNat ((a * 64 + b) / 16), UInt8.ofNat ((b * 64 + c) / 4), UInt8.ofNat (c * 64 + d)] ++ ·) := by
      rw [decS_ltr _ _ _ ha, if_pos (by decide), decS_ltr _ _ _ hb, if_neg (by decide), decS_ltr _ _ _ hc, if_neg (by decide), decS_ltr _ _ _ hd, if_neg (by decide)]
      have hy : UInt8.ofNat (push6 (push6 H a) b / 2 ^ (0 + 6 - 2)) = UInt8.ofNat ((a * 64 + b) / 16) := byte_eq (by unfold push6; omega)
      have hy' : UInt8.ofNat (push6 (push6 (push6 H a) b) c / 2 ^ (0 + 6 - 2 - 2)) = UInt8.ofNat ((b * 64 + c) / 4) := byte_eq (by unfold push6; omega)
      have hy'' : UInt8.ofNat (push6 (push6 (push6 (push6 H a) b) c) d / 2 ^ (0 + 6 - 2 - 2 - 2)) = UInt8.ofNat (c * 64 + d) := byte_eq (by unfold push6; omega)
      rw [hy, hy', hy'', show (0 + 6 - 2 - 2 - 2 : Nat) = 0 from rfl, ih, Option.map_map, Option.map_map]; rfl
    have e2 : unS 0 0 (ltr a :: ltr b :: ltr c :: ltr d :: ds r) = (unS 0 0 (ds r)).map ([UInt8.ofNat ((a * 64 + b) / 16), UInt8.ofNat ((b * 64 + c) / 4), UInt8.ofNat (c * 64 + d)] ++ ·) := by
      rw [unS_ltr _ _ _ ha, if_pos (by decide), unS_ltr _ _ _ hb, if_neg (by decide), unS_ltr _ _ _ hc, if_neg (by decide), unS_ltr _ _ _ hd, if_neg (by decide)]
      have hy : UInt8.ofNat (((0 * 64 + a) * 64 + b) / 2 ^ (0 + 6 - 2)) = UInt8.ofNat ((a * 64 + b) / 16) := byte_eq (by omega)
      have hy' : UInt8.ofNat ((((0 * 64 + a) * 64 + b) % 2 ^ (0 + 6 - 2) * 64 + c) / 2 ^ (0 + 6 - 2 - 2)) = UInt8.ofNat ((b * 64 + c) / 4) := byte_eq (by omega)
      have hy'' : UInt8.ofNat (((((0 * 64 + a) * 64 + b) % 2 ^ (0 + 6 - 2) * 64 + c) % 2 ^ (0 + 6 - 2 - 2) * 64 + d) / 2 ^ (0 + 6 - 2 - 2 - 2)) = UInt8.ofNat (c * 64 + d) := byte_eq (by omega)
      have hv : ((((0 * 64 + a) * 64 + b) % 2 ^ (0 + 6 - 2) * 64 + c) % 2 ^ (0 + 6 - 2 - 2) * 64 + d) % 2 ^ (0 + 6 - 2 - 2 - 2) = 0 := by omega
      rw [hy, hy', hy'', hv, show (0 + 6 - 2 - 2 - 2 : Nat) = 0 from rfl, Option.map_map, Option.map_map]; rfl
    rw [e1]
    unfold dec
    rw [e2]
    cases unS 0 0 (ds r) with
    | none => rfl
    | some o =>
      have e3 : enc ([UInt8.ofNat ((a * 64 + b) / 16), UInt8.ofNat ((b * 64 + c) / 4), UInt8.ofNat (c * 64 + d)] ++ o) = ltr a :: ltr b :: ltr c :: ltr d :: enc o := by
        show chunk ((UInt8.ofNat ((a * 64 + b) / 16)).toNat * 65536 + (UInt8.ofNat ((b * 64 + c) / 4)).toNat * 256 + (UInt8.ofNat (c * 64 + d)).toNat) ++ enc o = _
        rw [toNat_byte, toNat_byte, toNat_byte]
        exact cons_ltr (by omega) (cons_ltr (by omega) (cons_ltr (by omega) (cons_ltr (by omega) rfl)))
      rw [Option.map_some, Option.bind_some, Option.bind_some, e3]
      by_cases hz : enc o = ds r
      · rw [if_pos hz, hz, if_pos rfl]; rfl
      · rw [if_neg hz, if_neg]; rfl
        intro he; injection he with _ he; injection he with _ he; injection he with _ he; injection he with _ he; exact hz he

/-- the two ways agree, whatever stood in the word -/
theorem decS_dec (l : List UInt8) (H : Nat) : decS H 0 l = dec l := by
  rcases letters l with ⟨l', rfl, h⟩ | ⟨p, c, r, rfl, hp, hc⟩
  · exact dec_ds l' h H
  · rw [decS_none p c r hp hc, dec, unS_none p c r hp hc]; rfl

theorem dec_some {l o : List UInt8} (h : dec l = some o) : enc o = l ∧ unS 0 0 l = some o := by
  unfold dec at h
  cases hu : unS 0 0 l with
  | none => rw [hu] at h; cases h
  | some o' =>
    rw [hu, Option.bind_some] at h
    by_cases he : enc o' = l
    · rw [if_pos he] at h; injection h with h; rw [← h]; exact ⟨he, rfl⟩
    · rw [if_neg he] at h; cases h
theorem dec_none {l o : List UInt8} (h : dec l = none) (hu : unS 0 0 l = some o) : enc o ≠ l := by
  intro he
  unfold dec at h
  rw [hu, Option.bind_some, if_pos he] at h; cases h

theorem unS_enc : ∀ l : List UInt8, unS 0 0 (enc l) = some l
  | [] => rfl
  | [a] => by
    have ha := a.toNat_lt
    show unS 0 0 [ltr (a.toNat * 65536 / 262144), ltr (a.toNat * 65536 / 4096 % 64)] = _
    rw [unS_ltr _ _ _ (by omega), if_pos (by decide), unS_ltr _ _ _ (by omega), if_neg (by decide), unS]
    have : UInt8.ofNat (((0 * 64 + a.toNat * 65536 / 262144) * 64 + a.toNat * 65536 / 4096 % 64) / 2 ^ (0 + 6 - 2)) = a := by
      apply UInt8.toNat_inj.1; rw [toNat_byte]; omega
    rw [this]; rfl
  | [a, b] => by
    have ha := a.toNat_lt
    have hb := b.toNat_lt
    obtain ⟨v, hv⟩ : ∃ v, v = a.toNat * 65536 + b.toNat * 256 := ⟨_, rfl⟩
    show unS 0 0 [ltr ((a.toNat * 65536 + b.toNat * 256) / 262144), ltr ((a.toNat * 65536 + b.toNat * 256) / 4096 % 64), ltr ((a.toNat * 65536 + b.toNat * 256) / 64 % 64)] = _
    rw [← hv]
    rw [unS_ltr _ _ _ (by omega), if_pos (by decide), unS_ltr _ _ _ (by omega), if_neg (by decide), unS_ltr _ _ _ (by omega), if_neg (by decide), unS]
    have h1 : UInt8.ofNat (((0 * 64 + v / 262144) * 64 + v / 4096 % 64) / 2 ^ (0 + 6 - 2)) = a := by
      apply UInt8.toNat_inj.1; rw [toNat_byte]; omega
    have h2 : UInt8.ofNat ((((0 * 64 + v / 262144) * 64 + v / 4096 % 64) % 2 ^ (0 + 6 - 2) * 64 + v / 64 % 64) / 2 ^ (0 + 6 - 2 - 2)) = b := by
      apply UInt8.toNat_inj.1; rw [toNat_byte]; omega
    rw [h1, h2]; rfl
  | a :: b :: c :: r => by
    have ha := a.toNat_lt
    have hb := b.toNat_lt
    have hc := c.toNat_lt
    obtain ⟨v, hv⟩ : ∃ v, v = a.toNat * 65536 + b.toNat * 256 + c.toNat := ⟨_, rfl⟩
    show unS 0 0 (ltr ((a.toNat * 65536 + b.toNat * 256 + c.toNat) / 262144) :: ltr ((a.toNat * 65536 + b.toNat * 256 + c.toNat) / 4096 % 64) :: ltr ((a.toNat * 65536 + b.toNat * 256 + c.toNat) / 64 % 64) :: ltr ((a.toNat * 65536 + b.toNat * 256 + c.toNat) % 64) :: enc r) = _
    rw [← hv]
    rw [unS_ltr _ _ _ (by omega), if_pos (by decide), unS_ltr _ _ _ (by omega), if_neg (by decide), unS_ltr _ _ _ (by omega), if_neg (by decide), unS_ltr _ _ _ (by omega), if_neg (by decide)]
    have h1 : UInt8.ofNat (((0 * 64 + v / 262144) * 64 + v / 4096 % 64) / 2 ^ (0 + 6 - 2)) = a := by
      apply UInt8.toNat_inj.1; rw [toNat_byte]; omega
    have h2 : UInt8.ofNat ((((0 * 64 + v / 262144) * 64 + v / 4096 % 64) % 2 ^ (0 + 6 - 2) * 64 + v / 64 % 64) / 2 ^ (0 + 6 - 2 - 2)) = b := by
      apply UInt8.toNat_inj.1; rw [toNat_byte]; omega
    have h3 : UInt8.ofNat (((((0 * 64 + v / 262144) * 64 + v / 4096 % 64) % 2 ^ (0 + 6 - 2) * 64 + v / 64 % 64) % 2 ^ (0 + 6 - 2 - 2) * 64 + v % 64) / 2 ^ (0 + 6 - 2 - 2 - 2)) = c := by
      apply UInt8.toNat_inj.1; rw [toNat_byte]; omega
    have h4 : ((((0 * 64 + v / 262144) * 64 + v / 4096 % 64) % 2 ^ (0 + 6 - 2) * 64 + v / 64 % 64) % 2 ^ (0 + 6 - 2 - 2) * 64 + v % 64) % 2 ^ (0 + 6 - 2 - 2 - 2) = 0 := by omega
    rw [h1, h2, h3, h4, show (0 + 6 - 2 - 2 - 2 : Nat) = 0 from rfl, unS_enc r]; rfl
theorem dec_enc (l : List UInt8) : dec (enc l) = some l := by unfold dec; rw [unS_enc, Option.bind_some, if_pos rfl]

theorem dec_bad (l : List UInt8) (c : UInt8) (hc : ix c = -1) : dec (l ++ [c]) = none := by
  have : unS 0 0 (l ++ [c]) = none := by
    rcases letters l with ⟨l', rfl, h⟩ | ⟨p, c', r, rfl, hp, hc'⟩
    · exact unS_none l' c [] h hc 0 0
    · rw [List.append_assoc]; exact unS_none p c' (r ++ [c]) hp hc' 0 0
  unfold dec; rw [this]; rfl
theorem dec_len {l : List UInt8} (h : l.length % 4 = 1) : dec l = none := by
  cases hd : dec l with
  | none => rfl
  | some o =>
    have := (dec_some hd).1
    have hl := enc_len o
    rw [this] at hl; omega
end Go.Proofs.YthbbeojhipcjiaaDoor
namespace Go.Proofs.YthbbeojhipcjiaaDoor
open Go.RowKit

theorem sixty_any (n : Int) (h0 : 0 ≤ n) (h1 : n < 64) (w : World) :
    Calls Tryd.prog 36 #[.int .i64 n] w fun e w' => e = .returned (.int .u8 ((ltr n.toNat).toNat : Int)) ∧ w = w' := by
  go_enter Tryd.func36, Tryd.ntmps36
  go_wp2
  go_ret
  have h : n.toNat < (ByteArray.mk ltrs).size := by show n.toNat < 64; omega
  exact ⟨ret_int (congrArg (fun (x : UInt8) => (x.toNat : Int)) (ltr_at h)), rfl⟩

theorem sixty_quiet (n : Int) (h0 : 0 ≤ n) (h1 : n < 64) (w : World) :
    Calls Tryd.prog 36 #[.int .i64 n] w fun e w' => e = .returned (.int .u8 ((ltr n.toNat).toNat : Int)) ∧ w' = w := (sixty_any n h0 h1 w).mono fun _ _ h => ⟨h.1, h.2.symm⟩

/-! ## strings.IndexByte -/
set_option maxRecDepth 100000 in
theorem stringslite_any (s : ByteArray) (c : Int) (w : World) :
    Calls Tryd.prog 70 #[.string s, .int .u8 c] w fun e w' => e = .returned (.int .i64 (Lib.indexByte s.data.toList c.toNat.toUInt8)) ∧ w = w' := by
  go_enter Tryd.func70, Tryd.ntmps70
  go_wp2
  rw [run_callFunc_extern Tryd.func85 (by kernel_rfl) (by kernel_rfl) (by kernel_rfl) (e := Extern.BytealgIndexByte.indexByte) (by kernel_rfl), Lib.run_indexByteString]
  simp only [Result.andThen]
  rw [Oper.upon_value]
  go_wp2
  go_ret
  exact ⟨rfl, rfl⟩
theorem indexByte_any (s : ByteArray) (c : Int) (w : World) :
    Calls Tryd.prog 48 #[.string s, .int .u8 c] w fun e w' => e = .returned (.int .i64 (Lib.indexByte s.data.toList c.toNat.toUInt8)) ∧ w = w' := by
  go_enter Tryd.func48, Tryd.ntmps48
  go_wp2_with (go_at_call 70; refine (stringslite_any _ _ _).mono ?_; rintro e w' ⟨rfl, rfl⟩)
  go_ret
  exact ⟨rfl, rfl⟩
end Go.Proofs.YthbbeojhipcjiaaDoor
namespace Go.Proofs.YthbbeojhipcjiaaDoor

/-- where a byte stands first; the length: nowhere -/
def atL (c : UInt8) : List UInt8 → Nat
  | [] => 0
  | x :: r => if x = c then 0 else atL c r + 1
theorem atL_le (c : UInt8) (l : List UInt8) : atL c l ≤ l.length := by
  induction l with
  | nil => simp [atL]
  | cons x r ih => unfold atL; split <;> simp <;> omega
theorem atL_hit (c : UInt8) (l : List UInt8) (h : atL c l < l.length) : l[atL c l] = c := by
  induction l with
  | nil => simp at h
  | cons x r ih =>
    by_cases e : x = c
    · simp [atL, e]
    · have e' : atL c (x :: r) = atL c r + 1 := by simp [atL, e]
      simp only [e'] at h ⊢
      simp at h ⊢
      exact ih h
theorem atL_before (c : UInt8) (l : List UInt8) (k : Nat) (hk : k < atL c l) (h : k < l.length) : l[k] ≠ c := by
  induction l generalizing k with
  | nil => simp at h
  | cons x r ih =>
    by_cases e : x = c
    · simp [atL, e] at hk
    · have e' : atL c (x :: r) = atL c r + 1 := by simp [atL, e]
      cases k with
      | zero => simpa using e
      | succ k => simp at h ⊢; exact ih k (by omega) h
theorem atL_is (c : UInt8) (l : List UInt8) (k : Nat) (hk : k ≤ l.length) (hb : ∀ j (hj : j < l.length), j < k → l[j] ≠ c) (hh : ∀ h : k < l.length, l[k] = c) : atL c l = k := by
  rcases Nat.lt_trichotomy (atL c l) k with h | h | h
  · exact absurd (atL_hit c l (by omega)) (hb _ (by omega) h)
  · exact h
  · have := atL_le c l
    exact absurd (hh (by omega)) (atL_before c l k h (by omega))
theorem atL_app (c : UInt8) (a b : List UInt8) (h : c ∉ a) : atL c (a ++ b) = a.length + atL c b := by
  induction a with
  | nil => simp
  | cons x r ih =>
    simp at h
    have hx : x ≠ c := fun e => h.1 e.symm
    simp [atL, hx, ih h.2]; omega
theorem atL_none (c : UInt8) (a : List UInt8) (h : c ∉ a) : atL c a = a.length := by
  have := atL_app c a [] h; simpa [atL] using this
theorem atL_index (c : UInt8) (l : List UInt8) : Lib.indexByte l c = if atL c l < l.length then (atL c l : Int) else -1 := by
  induction l with
  | nil => simp [Lib.indexByte]
  | cons x r ih =>
    by_cases e : x = c
    · simp [Lib.indexByte, atL, e]
    · have e' : (x == c) = false := by simpa using e
      unfold Lib.indexByte atL
      rw [if_neg e, e', ih]
      by_cases h : atL c r < r.length
      · have h' : atL c r + 1 < (x :: r).length := by simp; omega
        rw [if_pos h, if_pos h']
        have : ((atL c r : Int) == -1) = false := by simp
        simp [this]
      · have h' : ¬ atL c r + 1 < (x :: r).length := by simp; omega
        rw [if_neg h, if_neg h']; simp

/-- a text's parts between a byte -/
def splitL (c : UInt8) : List UInt8 → List (List UInt8)
  | [] => [[]]
  | x :: r => if x = c then [] :: splitL c r else (match splitL c r with | [] => [[x]] | h :: t => (x :: h) :: t)
theorem splitL_cons (c x : UInt8) (r : List UInt8) : splitL c (x :: r) = if x = c then [] :: splitL c r else (match splitL c r with | [] => [[x]] | h :: t => (x :: h) :: t) := rfl
theorem splitL_at (c : UInt8) (l : List UInt8) : splitL c l = if atL c l < l.length then l.take (atL c l) :: splitL c (l.drop (atL c l + 1)) else [l] := by
  induction l with
  | nil => simp [splitL]
  | cons x r ih =>
    by_cases e : x = c
    · simp [splitL, atL, e]
    · have e' : atL c (x :: r) = atL c r + 1 := by simp [atL, e]
      rw [splitL_cons, if_neg e, e', ih]
      by_cases h : atL c r < r.length
      · have h' : atL c r + 1 < (x :: r).length := by simp; omega
        rw [if_pos h, if_pos h']; simp
      · have h' : ¬ atL c r + 1 < (x :: r).length := by simp; omega
        rw [if_neg h, if_neg h']
theorem splitL_more {c : UInt8} {l : List UInt8} (h : atL c l < l.length) : splitL c l = l.take (atL c l) :: splitL c (l.drop (atL c l + 1)) := by
  rw [splitL_at, if_pos h]
theorem splitL_last {c : UInt8} {l : List UInt8} (h : l.length ≤ atL c l) : splitL c l = [l] := by
  rw [splitL_at, if_neg (by omega)]
theorem splitL_len (c : UInt8) (l : List UInt8) : (splitL c l).length ≤ l.length + 1 := by
  induction l with
  | nil => simp [splitL]
  | cons x r ih =>
    unfold splitL
    split
    · simp; omega
    · split
      · simp
      · rename_i h t e; rw [e] at ih; simp at ih ⊢; omega
theorem splitL_each (c : UInt8) (l : List UInt8) : ∀ p ∈ splitL c l, p.length ≤ l.length := by
  induction l with
  | nil => simp [splitL]
  | cons x r ih =>
    unfold splitL
    split
    · intro p hp; simp at hp; rcases hp with rfl | hp
      · simp
      · have := ih p hp; simp; omega
    · split
      · intro p hp; simp at hp; subst hp; simp
      · rename_i h t e
        rw [e] at ih
        intro p hp; simp at hp
        rcases hp with rfl | hp
        · have := ih h (by simp); simp; omega
        · have := ih p (by simp [hp]); simp; omega

/-- the parts between & that are not empty -/
def partsL (l : List UInt8) : List (List UInt8) := (splitL 38 l).filter (fun p => !p.isEmpty)
def one1 (p : List UInt8) : List (List UInt8) := if p = [] then [] else [p]
theorem filter_one1 (p : List UInt8) (r : List (List UInt8)) : (p :: r).filter (fun p => !p.isEmpty) = one1 p ++ r.filter (fun p => !p.isEmpty) := by
  cases p <;> simp [one1]
theorem partsL_more {l : List UInt8} (h : atL 38 l < l.length) : partsL l = one1 (l.take (atL 38 l)) ++ partsL (l.drop (atL 38 l + 1)) := by
  unfold partsL; rw [splitL_more h, filter_one1]
theorem partsL_last {l : List UInt8} (h : l.length ≤ atL 38 l) : partsL l = one1 l := by
  unfold partsL; rw [splitL_last h, filter_one1]; simp
theorem partsL_app (a b : List UInt8) (h : (38 : UInt8) ∉ a) : partsL (a ++ 38 :: b) = one1 a ++ partsL b := by
  have e : atL 38 (a ++ 38 :: b) = a.length := by rw [atL_app _ _ _ h]; simp [atL]
  rw [partsL_more (by rw [e]; simp), e]
  simp
theorem partsL_one (a : List UInt8) (h : (38 : UInt8) ∉ a) : partsL a = one1 a := partsL_last (by rw [atL_none _ _ h]; exact Nat.le_refl _)
theorem partsL_amp (b : List UInt8) : partsL (38 :: b) = partsL b := by
  have := partsL_app [] b (by simp); simpa [one1] using this
theorem partsL_amps (n : Nat) (b : List UInt8) : partsL (List.replicate n 38 ++ b) = partsL b := by
  induction n with
  | zero => simp
  | succ n ih => rw [List.replicate_succ, List.cons_append, partsL_amp, ih]

/-- the pair that a part stands for -/
def pairL (p : List UInt8) : Option (List UInt8 × List UInt8) :=
  match unq (p.take (atL 61 p)), unq (p.drop (atL 61 p + 1)) with
  | some a, some b => some (a, b)
  | _, _ => none
theorem pairL_some {p a b : List UInt8} (h : unq (p.take (atL 61 p)) = some a) (h' : unq (p.drop (atL 61 p + 1)) = some b) : pairL p = some (a, b) := by
  unfold pairL; rw [h, h']
theorem pairL_key {p : List UInt8} (h : unq (p.take (atL 61 p)) = none) : pairL p = none := by
  unfold pairL; rw [h]
theorem pairL_val {p : List UInt8} (h' : unq (p.drop (atL 61 p + 1)) = none) : pairL p = none := by
  unfold pairL; rw [h']; cases unq (p.take (atL 61 p)) <;> rfl
abbrev PL := List (List UInt8 × List UInt8)
def pairsL : List (List UInt8) → Option PL
  | [] => some []
  | p :: r => match pairL p, pairsL r with
    | some x, some xs => some (x :: xs)
    | _, _ => none
theorem pairsL_cons (p : List UInt8) (r : List (List UInt8)) : pairsL (p :: r) = match pairL p, pairsL r with
    | some x, some xs => some (x :: xs)
    | _, _ => none := rfl
theorem pairsL_app_some {l : List (List UInt8)} {xs : PL} (h : pairsL l = some xs) (r : List (List UInt8)) : pairsL (l ++ r) = (pairsL r).map (xs ++ ·) := by
  induction l generalizing xs with
  | nil => simp [pairsL] at h; subst h; simp
  | cons p l ih =>
    rw [pairsL_cons] at h
    rw [List.cons_append, pairsL_cons]
    cases hp : pairL p with
    | none => rw [hp] at h; simp at h
    | some x =>
      cases hl : pairsL l with
      | none => rw [hp, hl] at h; simp at h
      | some ys =>
        rw [hp, hl] at h
        simp at h; subst h
        rw [ih hl]
        cases pairsL r <;> simp
theorem pairsL_app_none {l : List (List UInt8)} (h : pairsL l = none) (r : List (List UInt8)) : pairsL (l ++ r) = none := by
  induction l with
  | nil => simp [pairsL] at h
  | cons p l ih =>
    rw [pairsL_cons] at h
    rw [List.cons_append, pairsL_cons]
    cases hp : pairL p with
    | none => rfl
    | some x =>
      cases hl : pairsL l with
      | none => rw [ih hl]
      | some ys => rw [hp, hl] at h; simp at h
theorem pairsL_snoc {l : List (List UInt8)} {xs : PL} {p : List UInt8} {x : List UInt8 × List UInt8} (h : pairsL l = some xs) (hp : pairL p = some x) : pairsL (l ++ [p]) = some (xs ++ [x]) := by
  rw [pairsL_app_some h]; simp [pairsL, hp]
theorem pairsL_bad {l : List (List UInt8)} {p : List UInt8} (hp : pairL p = none) : pairsL (l ++ [p]) = none := by
  cases h : pairsL l with
  | none => exact pairsL_app_none h _
  | some xs => rw [pairsL_app_some h]; simp [pairsL, hp]
theorem pairsL_len {l : List (List UInt8)} {xs : PL} (h : pairsL l = some xs) : xs.length = l.length := by
  induction l generalizing xs with
  | nil => simp [pairsL] at h; subst h; rfl
  | cons p l ih =>
    rw [pairsL_cons] at h
    cases hp : pairL p with
    | none => rw [hp] at h; simp at h
    | some x =>
      cases hl : pairsL l with
      | none => rw [hp, hl] at h; simp at h
      | some ys => rw [hp, hl] at h; simp at h; subst h; simp [ih hl]

/-- what a form stands for -/
def formL (l : List UInt8) : Option PL := pairsL (partsL l)
theorem partsL_len (l : List UInt8) : (partsL l).length ≤ l.length + 1 := Nat.le_trans (List.length_filter_le _ _) (splitL_len 38 l)

/-! ## Build -/
def oneL (p : List UInt8 × List UInt8) : List UInt8 := quoteL p.1 ++ 61 :: quoteL p.2
def buildL : PL → List UInt8
  | [] => []
  | [p] => oneL p
  | p :: q :: r => oneL p ++ 38 :: buildL (q :: r)
theorem buildL_snoc (l : PL) (p : List UInt8 × List UInt8) (h : l ≠ []) : buildL (l ++ [p]) = buildL l ++ 38 :: oneL p := by
  induction l with
  | nil => exact absurd rfl h
  | cons q l ih =>
    cases l with
    | nil => simp [buildL]
    | cons q' l =>
      have := ih (by simp)
      simp only [List.cons_append] at this ⊢
      simp [buildL, this]
theorem oneL_len (p : List UInt8 × List UInt8) : (oneL p).length ≤ 3 * (p.1.length + p.2.length) + 1 := by
  have := quoteL_le p.1; have := quoteL_le p.2
  simp [oneL]; omega
theorem buildL_len (l : PL) (m : Nat) (h : ∀ p ∈ l, p.1.length + p.2.length ≤ m) : (buildL l).length ≤ l.length * (3 * m + 2) := by
  induction l with
  | nil => simp [buildL]
  | cons p l ih =>
    have h1 := h p (by simp)
    have h2 := ih (fun q hq => h q (by simp [hq]))
    have h3 := oneL_len p
    cases l with
    | nil => simp [buildL]; omega
    | cons q r =>
      simp only [buildL, List.length_append, List.length_cons] at h2 ⊢
      rw [Nat.add_mul]; omega

theorem hexU_not : ∀ n : Nat, n < 16 → hexU n ≠ 38 ∧ hexU n ≠ 61 := by decide
theorem plain_not2 : ∀ c : UInt8, plainB c = true → c ≠ 38 ∧ c ≠ 61 := by
  intro c h
  constructor <;> (rintro rfl; revert h; decide)
theorem quote1_not (c : UInt8) : ∀ x ∈ quote1 c, x ≠ 38 ∧ x ≠ 61 := by
  intro x hx
  have hc := c.toNat_lt
  unfold quote1 at hx
  split at hx
  · rename_i h; simp at hx; subst hx; exact plain_not2 x h
  · simp at hx
    rcases hx with rfl | rfl | rfl
    · decide
    · exact hexU_not _ (by omega)
    · exact hexU_not _ (by omega)
theorem quoteL_not (l : List UInt8) : (38 : UInt8) ∉ quoteL l ∧ (61 : UInt8) ∉ quoteL l := by
  unfold quoteL
  constructor
  · intro h; obtain ⟨c, _, hc⟩ := List.mem_flatMap.1 h; exact (quote1_not c _ hc).1 rfl
  · intro h; obtain ⟨c, _, hc⟩ := List.mem_flatMap.1 h; exact (quote1_not c _ hc).2 rfl
theorem oneL_amp (p : List UInt8 × List UInt8) : (38 : UInt8) ∉ oneL p := by
  have h1 := (quoteL_not p.1).1; have h2 := (quoteL_not p.2).1
  simp [oneL, h1, h2]
theorem oneL_ne (p : List UInt8 × List UInt8) : oneL p ≠ [] := by simp [oneL]
theorem pairL_oneL (p : List UInt8 × List UInt8) : pairL (oneL p) = some p := by
  have e : atL 61 (oneL p) = (quoteL p.1).length := by unfold oneL; rw [atL_app _ _ _ (quoteL_not p.1).2]; simp [atL]
  have h1 : (oneL p).take (atL 61 (oneL p)) = quoteL p.1 := by rw [e]; unfold oneL; simp
  have h2 : (oneL p).drop (atL 61 (oneL p) + 1) = quoteL p.2 := by
    rw [e]; unfold oneL
    rw [← List.drop_drop]; simp
  have := pairL_some (p := oneL p) (a := p.1) (b := p.2) (by rw [h1]; exact unq_quoteL _) (by rw [h2]; exact unq_quoteL _)
  exact this
theorem one1_oneL (p : List UInt8 × List UInt8) : one1 (oneL p) = [oneL p] := by unfold one1; rw [if_neg (oneL_ne p)]
theorem partsL_buildL (l : PL) : partsL (buildL l) = l.map oneL := by
  induction l with
  | nil => decide
  | cons p l ih =>
    cases l with
    | nil => simp only [buildL, List.map]; rw [partsL_one _ (oneL_amp p), one1_oneL]
    | cons q r =>
      simp only [buildL]
      rw [partsL_app _ _ (oneL_amp p), ih, one1_oneL]; simp
theorem pairsL_oneL (l : PL) : pairsL (l.map oneL) = some l := by
  induction l with
  | nil => rfl
  | cons p l ih => simp [pairsL, pairL_oneL, ih]
theorem formL_buildL (l : PL) : formL (buildL l) = some l := by unfold formL; rw [partsL_buildL, pairsL_oneL]

/-! ## Get, Twice -/
def getL (l : PL) (k : List UInt8) : Option (List UInt8) := (l.find? (fun p => p.1 == k)).map (·.2)
def twiceL : PL → Bool
  | [] => false
  | p :: r => (r.map (·.1)).contains p.1 || twiceL r
end Go.Proofs.YthbbeojhipcjiaaDoor
namespace Go.Proofs.YthbbeojhipcjiaaDoor
open Go.RowKit

theorem ext_pre (s : ByteArray) (k : Nat) : s.extract 0 k = ⟨(s.data.toList.take k).toArray⟩ := by
  apply ByteArray.ext; apply Array.ext'
  simp [ByteArray.data_extract, List.extract]
theorem ext_suf (s : ByteArray) (k : Nat) : s.extract k s.size = ⟨(s.data.toList.drop k).toArray⟩ := by
  apply ByteArray.ext; apply Array.ext'
  have : s.size = s.data.size := rfl
  rw [ByteArray.data_extract, Array.toList_extract, this]
  simp [List.extract, List.take_of_length_le]
theorem str_eta (s : ByteArray) : s = ⟨s.data.toList.toArray⟩ := by cases s; simp
set_option maxRecDepth 100000 in
theorem at_any (s : ByteArray) (c : UInt8) (hs : s.size ≤ maxLen) (w : World) :
    Calls Tryd.prog 49 #[.string s, .int .u8 c.toNat] w fun e w' => e = .returned (.int .i64 (atL c s.data.toList)) ∧ w = w' := by
  unfold maxLen at hs
  have hc := c.toNat_lt
  go_enter Tryd.func49, Tryd.ntmps49
  go_wp2
  go_loop [5] (fun i => ∃ k : Nat, k ≤ s.size ∧ i = .int .i64 k ∧ ∀ j (hj : j < s.data.toList.length), j < k → s.data.toList[j] ≠ c) (fun i => s.size - (intOf i).toNat)
  case atStart => exact ⟨0, Nat.zero_le _, rfl, fun _ _ h => absurd h (Nat.not_lt_zero _)⟩
  case round =>
    obtain ⟨k, hk, rfl, hb⟩ := hrel
    have HB := Lib.hid hb; clear hb
    by_cases hlt : k < s.size
    · by_cases he : s[k] = c
      · have h1 : ((s[k].toNat : Int) == (c.toNat : Int)) = true := by rw [he]; simp
        have HE := Lib.hid he; clear he
        go_wp2
        go_ret
        exact ⟨ret_int (by rw [atL_is c s.data.toList k hk HB.out (fun _ => HE.out)]), rfl⟩
      · have h1 : ((s[k].toNat : Int) == (c.toNat : Int)) = false := by
          have : s[k].toNat ≠ c.toNat := fun e => he (UInt8.toNat_inj.1 e)
          simp; omega
        have HE := Lib.hid he; clear he
        go_wp2
        go_round
        case rel => exact ⟨k + 1, by omega, by go_num, fun j hj hjk => by
          rcases Nat.lt_succ_iff_lt_or_eq.1 hjk with h | h
          · exact HB.out j hj h
          · subst h; exact HE.out⟩
        case measure => simp [intOf]; omega
    · have hke : k = s.size := by omega
      subst hke
      go_wp2
      go_ret
      exact ⟨ret_int (by rw [atL_is c s.data.toList s.size hk HB.out (fun h => absurd h (Nat.lt_irrefl _))]), rfl⟩
end Go.Proofs.YthbbeojhipcjiaaDoor
namespace Go.Proofs.YthbbeojhipcjiaaDoor
open Go.RowKit

theorem Tryd.infoStr : (Tryd.prog.info? 9).map (fun i => (i.zero, i.size, i.bytes)) = some (some (.string .empty), 1, 16) := by kernel_rfl
/-- texts as cells -/
def scells (l : List (List UInt8)) : List Value := l.map fun p => Value.string ⟨p.toArray⟩
theorem scells_snoc (l : List (List UInt8)) (p : List UInt8) : scells (l ++ [p]) = scells l ++ [.string ⟨p.toArray⟩] := by simp [scells]
theorem scells_len (l : List (List UInt8)) : (scells l).length = l.length := by simp [scells]
/-- a row of texts of the call's own -/
def Strs (w : World) (B : Nat) (v : Value) (l : List (List UInt8)) : Prop := w.ownsRow B 9 1 v l.length (scells l)
theorem Strs.cut {w : World} {B : Nat} {v : Value} {n : Nat} {l : List (List UInt8)} {xs : List Value} (h : w.ownsRow B 9 1 v n xs) (hn : n = l.length) (hx : xs = scells l) : Strs w B v l := by subst hn; subst hx; exact h
theorem str_cell (s : ByteArray) : ∀ u ∈ [Value.string s], u.oneCell' = true := by intro u hu; simp at hu; subst hu; rfl
def slen : Value → Nat
  | .string b => b.size
  | _ => 0
theorem ret_val {a b : Value} (h : a = b) : Ending.returned a = .returned b := by rw [h]

set_option maxRecDepth 100000 in
theorem split_any (s : ByteArray) (c : UInt8) (hs : s.size ≤ 1048576) (w : World) :
    Calls Tryd.prog 34 #[.string s, .int .u8 c.toNat] w fun e w' => ∃ v, e = .returned v ∧ Strs w' w.heap.size v (splitL c s.data.toList) ∧ Below w.heap.size w w' := by
  obtain ⟨i0, hi, hz0, hz1, hz2⟩ := info_parts Tryd.infoStr
  go_enter Tryd.func34, Tryd.ntmps34
  go_wp2
  go_loopw [0, 5] (fun sv v wr => ∃ (pre : List (List UInt8)) (rest : ByteArray), sv = .string rest ∧ Strs wr w.heap.size v pre ∧ splitL c s.data.toList = pre ++ splitL c rest.data.toList ∧ pre.length + rest.size ≤ s.size ∧ Below w.heap.size w wr) (fun sv _ _ => slen sv)
  case atStart => exact ⟨[], s, rfl, World.ownsRow_nil _ _ _ _, rfl, by simp, Below.refl _ _⟩
  case round =>
    obtain ⟨pre, rest, rfl, hown, hsp, hln, hb⟩ := hrel
    have hle := atL_le c rest.data.toList
    have hsz : rest.data.toList.length = rest.size := rfl
    rw [hsz] at hle
    have hmx : rest.size ≤ maxLen := by unfold maxLen; omega
    have hat := fun w => at_any rest c hmx w
    have H1 := @splitL_more c rest.data.toList
    have H2 := @splitL_last c rest.data.toList
    rw [hsz] at H1 H2
    obtain ⟨k, hk⟩ : ∃ k, atL c rest.data.toList = k := ⟨_, rfl⟩
    rw [hk] at hle hat H1 H2
    have HSP := Lib.hid hsp; have G1 := Lib.hid H1; have G2 := Lib.hid H2; clear hsp H1 H2 hk hsz hmx
    have hbs := hb.size
    by_cases hlt : k < rest.size
    · go_wp2_with (first
        | (go_at_call 49; refine (hat _).mono ?_; rintro e w' ⟨rfl, rfl⟩)
        | (at_builtin; refine wpList_append_own _ rfl (.tmp 10) (.tmp 14) 26 rfl w.heap.size 9 i0 _ 1 16 Tryd.underlying26 hi hz0 hz1 hz2 rfl (by decide) _ _ _ rfl (World.ownsRow.alloc hown _) ⟨_, 0, none⟩ 1 1 [.string (rest.extract 0 k)] rfl rfl (new_cells _ #[_] _) (str_cell _) (by unfold maxLen; omega) (by omega) (by simp; omega) ?_))
      intro v' w1 hown' hg' _
      have hb1 : Below w.heap.size w w1 := (hb.alloc hbs _).grown hg' (by simp; omega) (fun j hj => (hown.lt j hj).1)
      go_wp2
      go_roundw
      case rel => exact ⟨pre ++ [rest.data.toList.take k], rest.extract (k + 1) rest.size, rfl, Strs.cut hown' (by simp) (by rw [scells_snoc, ext_pre]), by
        rw [HSP.out, G1.out hlt, ext_suf]; simp, by rw [ext_size, List.length_append]; simp; omega, hb1⟩
      case measure => simp only [slen, ext_size]; omega
    · go_wp2_with (first
        | (go_at_call 49; refine (hat _).mono ?_; rintro e w' ⟨rfl, rfl⟩)
        | (at_builtin; refine wpList_append_own _ rfl (.tmp 10) (.tmp 14) 26 rfl w.heap.size 9 i0 _ 1 16 Tryd.underlying26 hi hz0 hz1 hz2 rfl (by decide) _ _ _ rfl (World.ownsRow.alloc hown _) ⟨_, 0, none⟩ 1 1 [.string (rest.extract 0 k)] rfl rfl (new_cells _ #[_] _) (str_cell _) (by unfold maxLen; omega) (by omega) (by simp; omega) ?_))
      intro v' w1 hown' hg' _
      have hb1 : Below w.heap.size w w1 := (hb.alloc hbs _).grown hg' (by simp; omega) (fun j hj => (hown.lt j hj).1)
      go_wp2
      go_ret
      have hke : k = rest.size := by omega
      exact ⟨_, rfl, Strs.cut hown' (by rw [HSP.out, G2.out (by omega)]; simp) (by rw [HSP.out, G2.out (by omega), scells_snoc, hke, ext_pre]; congr 3; exact congrArg _ (by rw [take_all])), hb1⟩
end Go.Proofs.YthbbeojhipcjiaaDoor
